/-
  A type's variables, by the code.
-/
import Derived.Test.YtlgmddnpmmggdaaDoorVmB
namespace Go.Proofs.YtlgmddnpmmggdaaDoor
open Go.ChangeShapes Go.WideShapes Go.ChangeAt Go.RowKit Go.Sort Go.Maps
set_option linter.unusedVariables false
set_option linter.unusedSimpArgs false

theorem m2_new {w2 w3 : World} {B1 : Nat} (h1 : MT w2 B1 [] (.slice none 0 0)) (h2 : MT w3 w2.heap.size [] (.slice none 0 0)) (hb : Below w2.heap.size w2 w3) : M2 w3 B1 w2.heap.size [] [] (.slice none 0 0) (.slice none 0 0) := by
  have hl1 := h1.lt
  have hl2 := h2.lt
  refine ⟨h1.below hb, h2, fun g hg => ?_, fun g hg => ?_⟩
  · rcases hg with rfl | rfl | rfl | q
    · exact ⟨by omega, by omega, by omega, by omega, fun e => by cases e⟩
    · exact ⟨by omega, by omega, by omega, by omega, fun e => by cases e⟩
    · exact ⟨by omega, by omega, by omega, by omega, fun e => by cases e⟩
    · cases q
  · rcases hg with rfl | rfl | rfl | q
    · exact ⟨by omega, by omega, by omega, by omega, fun e => by cases e⟩
    · exact ⟨by omega, by omega, by omega, by omega, fun e => by cases e⟩
    · exact ⟨by omega, by omega, by omega, by omega, fun e => by cases e⟩
    · cases q

theorem own_base {w : World} {b b' : Nat} {e : TypeId} {size n : Nat} {v : Value} {xs : List Value} (h : w.ownsRow b e size v n xs) (hb : b' ≤ b) : w.ownsRow b' e size v n xs := by
  refine ⟨h.1, ?_⟩
  rcases h.2 with q | ⟨g, cap, cur, h1, h2, h3⟩
  · exact .inl q
  · exact .inr ⟨g, cap, cur, h1, Nat.le_trans hb h2, h3⟩

set_option maxRecDepth 100000 in
set_option maxHeartbeats 1000000 in
theorem vars_any (w0 : World) (t : Ty) (hI : t.In w0) (hG : t.Rg) (hn : t.nodes ≤ 4000000) (w : World) (hb : Below w0.heap.size w0 w) :
    Calls Tryd.prog 28 #[.agg t.d.arr] w fun e w' => ∃ A1 c1 A2 c2, e = .returned (.tuple #[.slice A1 (meetT t [] []).1.length c1, .slice A2 (meetT t [] []).2.length c2]) ∧
      w'.ownsRow w.heap.size 3 1 (.slice A1 (meetT t [] []).1.length c1) (meetT t [] []).1.length (i64s (meetT t [] []).1) ∧ w'.ownsRow w.heap.size 3 1 (.slice A2 (meetT t [] []).2.length c2) (meetT t [] []).2.length (i64s (meetT t [] []).2) ∧ Below w.heap.size w w' := by
  have HI := Lib.hid (And.intro hI (And.intro hG (And.intro hn hb)))
  have HAt := Lib.hid (box_at w t.d)
  have HB1 := Lib.hid (show RowKit.Below w.heap.size w (w.alloc (.cells t.d.arr 25)) from (Below.refl _ _).alloc (Nat.le_refl _) _)
  have HSZ := Lib.hid (show (w.alloc (.cells t.d.arr 25)).heap.size = w.heap.size + 1 from World.size_alloc _ _)
  clear hI hG hn hb
  go_enter Tryd.func28, Tryd.ntmps28
  go_wp2_with fail
  generalize (w.alloc (.cells t.d.arr 25)) = w1 at *
  refine (meeting_any w1).mono ?_
  rintro e w2 ⟨rfl, hm2, hb2, hs2⟩
  have H2 := Lib.hid (And.intro hm2 (And.intro hb2 hs2))
  clear hm2 hb2 hs2
  obtain ⟨B1, hB1⟩ : ∃ B1, w1.heap.size = B1 := ⟨_, rfl⟩
  rw [hB1] at H2 HSZ ⊢
  go_wp2_with fail
  refine (meeting_any w2).mono ?_
  rintro e w3 ⟨rfl, hm3, hb3, hs3⟩
  have H3 := Lib.hid (And.intro (m2_new H2.out.1 hm3 hb3) (And.intro hb3 hs3))
  have HBW := Lib.hid (show RowKit.Below w.heap.size w w3 from below_then (below_then HB1.out (by rw [hB1]; exact H2.out.2.1)) hb3)
  have HAT := Lib.hid (HAt.out.lower (below_then (show RowKit.Below w1.heap.size w1 w2 by rw [hB1]; exact H2.out.2.1) hb3))
  clear hm3 hb3 hs3 hB1
  have HBB := Lib.hid (show B1 ≤ w2.heap.size by have := H2.out.2.2; omega)
  obtain ⟨B2, hB2⟩ : ∃ B2, w2.heap.size = B2 := ⟨_, rfl⟩
  rw [hB2] at H3 HBB ⊢
  clear hB2 H2
  go_wp2_with fail
  refine (walk_any w0 B1 B2 (by have := HSZ.out; have := HI.out.2.2.2.size; omega) HBB.out t HI.out.1 HI.out.2.1 [] [] _ _ w3 w.heap.size 0 (HI.out.2.2.2.trans (HBW.out.mono HI.out.2.2.2.size)) H3.out.1 ?_ (by have := HSZ.out; omega) (by have := HI.out.2.2.1; simp; omega) (by have := HI.out.2.2.1; simp; omega)).mono ?_
  · exact HAT.out
  rintro e w4 ⟨rfl, v1, v2, hm4, hb4⟩
  have H4 := Lib.hid (And.intro hm4 (HBW.out.trans (hb4.mono (show w.heap.size ≤ B1 by have := HSZ.out; omega))))
  clear hm4 hb4 H3 HBW
  obtain ⟨A1, c1, rfl, _⟩ := own_cap H4.out.1.m1.own
  obtain ⟨A2, c2, rfl, _⟩ := own_cap H4.out.1.m2.own
  unfold tellFn
  go_wp2_with fail
  refine (tells_any B1 _ _ w4 H4.out.1.m1).mono ?_
  rintro e w5 ⟨rfl, rfl⟩
  go_wp2_with fail
  refine (tells_any B2 _ _ _ H4.out.1.m2).mono ?_
  rintro e w6 ⟨rfl, rfl⟩
  go_wp2_with fail
  go_returns
  exact ⟨A1, c1, A2, c2, rfl, own_base H4.out.1.m1.own (by have := HSZ.out; omega), own_base H4.out.1.m2.own (by have := HSZ.out; have := HBB.out; omega), H4.out.2⟩
end Go.Proofs.YtlgmddnpmmggdaaDoor
