/-
  The document's example, played.
-/
import Derived.Test.YthdnnlelmelegaaCodeUp
import Derived.Deep.RegionWith
namespace Go.Proofs.Ythdnnlelmelegaa
open Go.ChangeShapes Go.WideShapes Go.ChangeAt Go.RowKit
set_option linter.unusedVariables false

set_option maxRecDepth 100000 in
set_option maxHeartbeats 6000000 in
theorem up_any (w : World) : Calls Try.prog 5 #[] w fun e w' => e = .returned (.bool true) ∧ Below w.heap.size w w' := by
  go_enter Try.func5, Try.ntmps5
  go_wp2_with fail
  refine (read_any w).mono ?_
  rintro e w1 ⟨m, rfl, hm, he, hb1⟩
  have hs := sound_read hm he
  have HM := Lib.hid (And.intro hm (And.intro he (And.intro hb1 hs)))
  go_wp2_with fail
  refine (put_yes m w1 hm hs (by rw [he]; have := len_read.2; omega)).mono ?_
  rintro e w2 hres
  have hres2 : ∃ v, e = .returned (.tuple #[v, .nilIface]) ∧ w2.ownsRow w1.heap.size 5 1 v (putImg m.img).length (u8s (putImg m.img)) ∧ Below w1.heap.size w1 w2 := by
    rcases hres with ⟨_, h⟩ | ⟨h, _⟩
    · exact h
    · rw [hs] at h; cases h
  obtain ⟨v, rfl, hown, hb2⟩ := hres2
  obtain ⟨A, c, rfl, hnc, hcm, _⟩ := own_cap hown
  have hrd := Rd.of_own hown
  have hp : pImg (putImg m.img) = some (m.img, []) := by
    have h := pImg_put m.img [] (hm.R hs)
    rwa [List.append_nil] at h
  have hlt : ∀ a, A = some a → a.block < w2.heap.size := fun a ha => (hown.lt a.block (by rw [ha]; rfl)).2
  have hlen := len_read
  rw [← he] at hlen
  have HX := Lib.hid (And.intro hp (And.intro hrd (And.intro hb2 (And.intro hlen hlt))))
  obtain ⟨bs, hbs⟩ : ∃ bs, putImg m.img = bs := ⟨_, rfl⟩
  rw [hbs] at HX
  clear hres hown hrd hp hb2 hm he hb1 hs hlt hlen
  rw [hbs]
  rw [hbs] at hnc
  go_wp2_with fail
  refine (get_any A bs c w2 HX.out.2.1 ⟨hnc, hcm⟩ (fun _ => HX.out.2.2.2.2) (by have := HX.out.2.2.2.1.2; omega)).mono ?_
  rintro e w3 ⟨hg, hb3⟩
  have hg2 : ∃ m2 : AImg, e = .returned (.tuple #[.agg #[.slice m2.iA m2.iN m2.iC, .slice m2.tA m2.tN m2.tC, .slice m2.fA m2.fN m2.fC], .nilIface]) ∧ m2.In w3 ∧ m2.img = m.img := by
    rcases hg with ⟨m2, h1, h2, h3, h4⟩ | ⟨h1, h2⟩
    · exact ⟨m2, h1, h2, by rw [HX.out.1] at h3; injection h3 with h3; injection h3 with h3 _; exact h3.symm⟩
    · obtain ⟨m3, wx, h3, h4, h5⟩ := h2 _ HX.out.1
      have := sound_img h4 HM.out.1 h3
      rw [h5, HM.out.2.2.2] at this; cases this
  obtain ⟨m2, rfl, hm2, he2⟩ := hg2
  have HM2 := Lib.hid (And.intro hm2 (And.intro he2 hb3))
  clear hg hm2 he2 hb3
  go_wp2_with fail
  have hbw : Below w.heap.size w w3 := below_then HM.out.2.2.1 (below_then HX.out.2.2.1 HM2.out.2.2)
  have hb3 : Below w3.heap.size w3 (w3.alloc (.cells #[.slice m2.iA m2.iN m2.iC, .slice m2.tA m2.tN m2.tC, .slice m2.fA m2.fN m2.fC] 26)) := (Below.refl _ _).alloc (Nat.le_refl _) _
  have cur : UpAt w w3.heap.size m2 (w3.alloc (.cells #[.slice m2.iA m2.iN m2.iC, .slice m2.tA m2.tN m2.tC, .slice m2.fA m2.fN m2.fC] 26)) := ⟨heldM_made w3 m2 HM2.out.1, below_then hbw hb3⟩
  have CUR := Lib.hid cur
  have ME := Lib.hid (HM2.out.2.1.trans HM.out.2.1)
  clear cur hb3 hbw
  have hlen0 : 0 < bs.length := HX.out.2.2.2.1.1
  generalize (w3.alloc (.cells #[.slice m2.iA m2.iN m2.iC, .slice m2.tA m2.tN m2.tC, .slice m2.fA m2.fN m2.fC] 26)) = w4 at *
  have CUR := Lib.hid (CUR.out.below ((Below.refl _ _).drew))
  have k0 := CUR.out.1.m0
  have k1 := CUR.out.1.m1
  have k2 := CUR.out.1.m2
  go_region_with (first
    | (go_at_call 14; refine (read_any _).mono ?_; rintro e w5 ⟨m5, rfl, hm5, he5, hb5⟩; have CUR := Lib.hid (CUR.out.below hb5); have k0 := CUR.out.1.m0; have k1 := CUR.out.1.m1; have k2 := CUR.out.1.m2)
    | (go_at_call 11; refine (check_sound m5 _ hm5 he5).mono ?_; rintro e w6 ⟨rfl, hb6⟩; have CUR := Lib.hid (CUR.out.below hb6); have k0 := CUR.out.1.m0; have k1 := CUR.out.1.m1; have k2 := CUR.out.1.m2)
    | (go_at_call 11; refine (check_empty _).mono ?_; rintro e w7 ⟨rfl, hb7⟩; have CUR := Lib.hid (CUR.out.below hb7); have k0 := CUR.out.1.m0; have k1 := CUR.out.1.m1; have k2 := CUR.out.1.m2)
    | (go_at_call 9; refine (same_true m2 m5 _ CUR.out.1.hm hm5 (ME.out.trans he5.symm)).mono ?_; rintro e w8 ⟨rfl, hb8⟩; have CUR := Lib.hid (CUR.out.below hb8)))
  all_goals
    go_wp2_with fail
    go_returns
    refine ⟨?_, CUR.out.b⟩
    have h1 : decide ((0 : Int) < (bs.length : Int)) = true := decide_eq_true (by omega)
    first
    | rfl
    | exact congrArg _ (congrArg _ h1)
    | (rw [h1]; rfl)
end Go.Proofs.Ythdnnlelmelegaa
