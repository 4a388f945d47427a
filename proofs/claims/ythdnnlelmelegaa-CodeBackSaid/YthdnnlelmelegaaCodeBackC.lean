/-
  CodeBack holds: for every input the law returns true, and each argument reads afterwards as it read before. No condition.
-/
import Derived.Test.YthdnnlelmelegaaCodeUp
import Derived.Test.YthdnnlelmelegaaCodeB
import Derived.Test.YthdnnlelmelegaaShellZ
namespace Go.Proofs.Ythdnnlelmelegaa
open Go.ChangeShapes Go.WideShapes Go.ChangeAt Go.RowKit
set_option linter.unusedVariables false

theorem u8s_flat (l : List UInt8) : u8s l = l.flatMap fun b => [.int .u8 b.toNat] := by
  induction l with
  | nil => rfl
  | cons x r ih => simp [u8s] at ih ⊢; exact ih
/-- Bytes that came in. -/
theorem open_u8s {H : Type} {enc : TypeId × Value → H} {W : World} {base : Nat} {sp : Nat → Bool} {held : Bool} {b0 : Nat} {r : Reach} {v : Value} {d : DataW H} {ps : List MemPlace}
    (hv : Value.okWide Try.prog W r b0 29 v) (h : DataW.Trod enc Try.prog W base sp held 29 v d ps) :
    ∃ (A : Option Addr) (n c : Nat) (l : List UInt8), v = .slice A n c ∧ n ≤ c ∧ c ≤ maxLen ∧ n = l.length ∧ Rd W 1 A n (u8s l) := by
  obtain ⟨A, n, c, l, h1, h2, h3, h4, h5, _⟩ := open_elems (α := UInt8) (cells := fun b => [.int .u8 b.toNat]) (good := fun _ => True) Try.underlying29 (by kernel_rfl : Try.prog.cellsOf 5 = 1) (fun _ => rfl) (by omega)
    (fun n cs x hx => by
      obtain ⟨m, rfl, _, hm⟩ := DataW.trod_int Try.underlying5 hx
      have hr : 0 ≤ m ∧ m ≤ 255 := by simpa [Lit.wf, IntKind.min, IntKind.max, IntKind.signed, IntKind.bits] using hm
      refine ⟨UInt8.ofNat m.toNat, ?_, trivial⟩
      simp only [List.cons.injEq, Value.int.injEq, true_and, and_true]
      have : (UInt8.ofNat m.toNat).toNat = m.toNat := by simp; omega
      omega) hv h
  refine ⟨A, n, c, l, h1, h2, h3, h4.symm, ?_⟩
  rw [u8s_flat]; exact h5

/-- What is left to be shown behind the first half: the bytes that came in are got. -/
theorem rd_lt {w : World} {A : Option Addr} {n : Nat} {l : List UInt8} (h : Rd w 1 A n (u8s l)) (h0 : 0 < l.length) : ∀ a, A = some a → a.block < w.heap.size := by
  intro a e
  obtain ⟨a', e', hh⟩ := h.2 (by rw [u8s_length]; exact h0)
  rw [e] at e'; injection e' with e'; subst e'
  exact hh.block (by rw [u8s_length]; exact h0)

set_option maxRecDepth 100000 in
set_option maxHeartbeats 800000 in
theorem back_any (hup : ∀ w, Calls Try.prog 5 #[] w fun e w' => e = .returned (.bool true) ∧ Below w.heap.size w w') (m : AImg) (A : Option Addr) (b : List UInt8) (c : Nat) (w : World) (hm : m.In w) (hrd : Rd w 1 A b.length (u8s b)) (hc : b.length ≤ c ∧ c ≤ maxLen) :
    Calls Try.prog 4 #[m.value, .slice A b.length c] w fun e w' => e = .returned (.bool true) ∧ Below w.heap.size w w' := by
  have hb1 : Below w.heap.size w (w.alloc (.cells #[.slice m.iA m.iN m.iC, .slice m.tA m.tN m.tC, .slice m.fA m.fN m.fC] 26)) := (Below.refl _ _).alloc (Nat.le_refl _) _
  have HD := Lib.hid (heldM_made w m hm)
  have HB1 := Lib.hid (And.intro hb1 (hrd.below hb1))
  have HC := Lib.hid hc
  have HUP := Lib.hid hup
  clear hup
  have hcl : b.length ≤ 9223372036854775807 := Nat.le_trans hc.1 hc.2
  clear hb1 hm hrd hc
  go_enter Try.func4, Try.ntmps4
  unfold AImg.value
  go_wp2_with fail
  generalize (w.alloc (.cells #[.slice m.iA m.iN m.iC, .slice m.tA m.tN m.tC, .slice m.fA m.fN m.fC] 26)) = w1 at *
  refine (HUP.out w1).mono ?_
  rintro e w2 ⟨rfl, hb2⟩
  have HM2 := Lib.hid (HD.out.below hb2)
  have HB2 := Lib.hid (And.intro (below_then HB1.out.1 hb2) (HB1.out.2.below hb2))
  clear hb2
  have k0 := HM2.out.m0
  have k1 := HM2.out.m1
  have k2 := HM2.out.m2
  go_wp2_with fail
  refine (few_any m w2 HM2.out.hm).mono ?_
  rintro e w3 ⟨⟨few, rfl, hfew⟩, hb3⟩
  have HM3 := Lib.hid (HM2.out.below hb3)
  have HB3 := Lib.hid (And.intro (below_then HB2.out.1 hb3) (HB2.out.2.below hb3))
  clear hb3 k0 k1 k2
  cases few with
  | false =>
    go_wp2_with fail
    go_returns
    exact ⟨rfl, HB3.out.1⟩
  | true =>
    have HF := Lib.hid (hfew rfl)
    clear hfew
    by_cases hlen : 5000 < b.length
    · go_wp2_with fail
      go_returns
      exact ⟨rfl, HB3.out.1⟩
    have hlen2 : ¬ (5000 : Int) < (b.length : Int) := by omega
    have k0 := HM3.out.m0
    have k1 := HM3.out.m1
    have k2 := HM3.out.m2
    go_wp2_with fail
    refine (put_all m w3 HM3.out.hm (by have := few_bytes HM3.out.hm HF.out; omega)).mono ?_
    rintro e w4 hres
    rcases hres with ⟨hs, v, rfl, hown, hb4⟩ | ⟨hs, rfl, hb4⟩
    · have hlt2 := few_bytes HM3.out.hm HF.out
      have hR := pImg_put m.img [] (HM3.out.hm.R hs)
      rw [List.append_nil] at hR
      have hR0 := pImg_put m.img [0] (HM3.out.hm.R hs)
      obtain ⟨x, hx⟩ : ∃ x, putImg m.img = x := ⟨_, rfl⟩
      rw [hx] at hown hlt2 hR hR0
      obtain ⟨A1, c1, rfl, hnc1, hcm1, _⟩ := own_cap hown
      have hrd1 := Rd.of_own hown
      have HP := Lib.hid (And.intro hR (And.intro hR0 (And.intro hs hrd1)))
      have HM4 := Lib.hid (HM3.out.below hb4)
      have B4 := Lib.hid (And.intro (below_then HB3.out.1 hb4) (HB3.out.2.below hb4))
      clear hown hR hR0 hs hb4 hrd1 k0 k1 k2 hx
      go_wp2_with fail
      refine (get_any A1 x c1 w4 HP.out.2.2.2 ⟨hnc1, hcm1⟩ (rd_lt HP.out.2.2.2) (by omega)).mono ?_
      rintro e w5 ⟨hg, hb5⟩
      have hg2 : ∃ m2 : AImg, e = .returned (.tuple #[.agg #[.slice m2.iA m2.iN m2.iC, .slice m2.tA m2.tN m2.tC, .slice m2.fA m2.fN m2.fC], .nilIface]) ∧ m2.In w5 ∧ m2.img = m.img := by
        rcases hg with ⟨m2, h1, h2, h3, h4⟩ | ⟨h1, h2⟩
        · exact ⟨m2, h1, h2, by rw [HP.out.1] at h3; injection h3 with h3; injection h3 with h3 _; exact h3.symm⟩
        · obtain ⟨m3, wx, h3, h4, h5⟩ := h2 _ HP.out.1
          have := sound_img h4 HM3.out.hm h3
          rw [h5, HP.out.2.2.1] at this; cases this
      obtain ⟨m2, rfl, hm2, he2⟩ := hg2
      have HM5 := Lib.hid (HM4.out.below hb5)
      have B5 := Lib.hid (And.intro (below_then B4.out.1 hb5) (And.intro (B4.out.2.below hb5) (HP.out.2.2.2.below hb5)))
      have E2 := Lib.hid (And.intro hm2 he2)
      clear hg hb5 hm2 he2
      have hw5 := HM5.out.m0
      have hsz5 : w.heap.size < w5.heap.size := World.block_lt_of_cell? w5 _ hw5
      clear hw5
      have hb9 : Below w5.heap.size w5 ((w5.alloc (.cells #[.slice m2.iA m2.iN m2.iC, .slice m2.tA m2.tN m2.tC, .slice m2.fA m2.fN m2.fC] 26)).alloc (.cells #[] 5)) := ((Below.refl _ _).alloc (Nat.le_refl _) _).alloc (by simp) _
      have OWN0 : RowKit.Hid (((w5.alloc (.cells #[.slice m2.iA m2.iN m2.iC, .slice m2.tA m2.tN m2.tC, .slice m2.fA m2.fN m2.fC] 26)).alloc (.cells #[] 5)).ownsRow (w5.heap.size + 1) 5 1 (.slice (some ⟨w5.heap.size + 1, 0, none⟩) 0 0) 0 []) := Lib.hid (by
        have h := World.ownsRow_lit (w5.alloc (.cells #[.slice m2.iA m2.iN m2.iC, .slice m2.tA m2.tN m2.tC, .slice m2.fA m2.fN m2.fC] 26)) #[] 0 (e := 5) (size := 1) (base := w5.heap.size + 1) (by simp) (by simp [maxLen]) rfl
        rwa [World.size_alloc] at h)
      have RD0 := Lib.hid (B5.out.2.2.below hb9)
      have HB9 := Lib.hid hb9
      have HM9 := Lib.hid (heldM_made w5 m2 E2.out.1)
      have HMM9 := Lib.hid (HM5.out.below ((Below.refl w5.heap.size w5).alloc (Nat.le_refl _) (.cells #[.slice m2.iA m2.iN m2.iC, .slice m2.tA m2.tN m2.tC, .slice m2.fA m2.fN m2.fC] 26)))
      clear hb9
      go_wp2_with (first
        | (at_builtin; refine wpList_app elU8 _ rfl (.tmp 43) (.tmp 44) rfl (w5.heap.size + 1) v5 x.length _ rfl (hown5.alloc _) (some ⟨w6.heap.size, 0, none⟩) 1 1 _ rfl (Rd.lit w6 _ _ rfl) (one_u8 _) (by omega) (by have := hb6.size; simp at *; omega) ?_; intro v6 w7 hown7 hb7 _ _; obtain ⟨A6, c6, hv6, hnc6, hcm6, _⟩ := own_cap hown7; rw [hv6] at hown7 ⊢; clear hv6)
        | (at_builtin; refine wpList_app elU8 _ rfl (.tmp 41) (.tmp 42) rfl (w5.heap.size + 1) (.slice (some ⟨w5.heap.size + 1, 0, none⟩) 0 0) 0 [] rfl OWN0.out A1 x.length c1 (u8s x) rfl RD0.out (u8s_one x) (by omega) (by simp) ?_; intro v5 w6 hown5 hb6 _ _; rw [Nat.zero_add] at hown5; rw [List.nil_append] at hown5))
      have hl1 : (x ++ [0]).length = x.length + 1 := by simp
      have hrd7 : Rd w7 1 A6 (x ++ [0]).length (u8s (x ++ [0])) := by
        have h := Rd.of_own hown7
        rw [hl1, u8s_append]
        exact h
      have hsA : (w5.alloc (.cells #[.slice m2.iA m2.iN m2.iC, .slice m2.tA m2.tN m2.tC, .slice m2.fA m2.fN m2.fC] 26)).heap.size = w5.heap.size + 1 := World.size_alloc ..
      have hbA : Below (w5.heap.size + 1) (w5.alloc (.cells #[.slice m2.iA m2.iN m2.iC, .slice m2.tA m2.tN m2.tC, .slice m2.fA m2.fN m2.fC] 26)) ((w5.alloc (.cells #[.slice m2.iA m2.iN m2.iC, .slice m2.tA m2.tN m2.tC, .slice m2.fA m2.fN m2.fC] 26)).alloc (.cells #[] 5)) := (Below.refl _ _).alloc (Nat.le_of_eq hsA.symm) _
      have hs6 := hb6.size
      have hs5b : w5.heap.size + 1 ≤ w6.heap.size := by have := hbA.size; omega
      have hbB : Below (w5.heap.size + 1) (w5.alloc (.cells #[.slice m2.iA m2.iN m2.iC, .slice m2.tA m2.tN m2.tC, .slice m2.fA m2.fN m2.fC] 26)) w7 := ((hbA.trans hb6).alloc hs5b _).trans hb7
      rw [← hsA] at hbB
      have HM2' := Lib.hid (HM9.out.below hbB)
      have HMM := Lib.hid (HMM9.out.below hbB)
      have hb57 : Below w5.heap.size w5 w7 := ((Below.refl _ _).alloc (Nat.le_refl _) _).trans (hbB.mono (by omega))
      have B7 := Lib.hid (And.intro (below_then B5.out.1 hb57) (B5.out.2.1.below hb57))
      have hget := get_any A6 (x ++ [0]) c6 w7 hrd7 ⟨by omega, hcm6⟩ (rd_lt hrd7) (by omega)
      rw [hl1] at hget
      clear hbA hbB hb57 hrd7 hown7 hb7 hb6 hown5 OWN0 RD0 HB9 HM9 HMM9 hsA hs6 hs5b
      refine hget.mono ?_
      rintro e w8 ⟨hg, hb8⟩
      have hg2 : e = .returned (.tuple #[.agg #[.slice none 0 0, .slice none 0 0, .slice none 0 0], .iface 36 (.int .i64 10)]) := by
        rcases hg with ⟨m3, _, _, h3, _⟩ | ⟨h1, _⟩
        · rw [HP.out.2.1] at h3; injection h3 with h3; injection h3 with _ h3; cases h3
        · exact h1
      subst hg2
      have hbz : Below w8.heap.size w8 (w8.alloc (.cells #[.slice none 0 0, .slice none 0 0, .slice none 0 0] 26)) := (Below.refl _ _).alloc (Nat.le_refl _) _
      have HMa := Lib.hid ((HM2'.out.below hb8).below hbz)
      have HMb := Lib.hid ((HMM.out.below hb8).below hbz)
      have p0 := (HM2'.out.below hb8).m0
      have p1 := (HM2'.out.below hb8).m1
      have p2 := (HM2'.out.below hb8).m2
      have r0 := (HMM.out.below hb8).m0
      have r1 := (HMM.out.below hb8).m1
      have r2 := (HMM.out.below hb8).m2
      have l1 := World.block_lt_of_cell? w8 _ p0
      have l2 := World.block_lt_of_cell? w8 _ r0
      have l1' : w5.heap.size < w8.heap.size := l1
      have l2' : w.heap.size < w8.heap.size := l2
      have B8 := Lib.hid (And.intro (below_then (below_then B7.out.1 hb8) hbz) ((B7.out.2.below hb8).below hbz))
      clear hg hb8 hget hbz l1 l2
      go_wp2_with fail
      clear p0 p1 p2 r0 r1 r2
      generalize (w8.alloc (.cells #[.slice none 0 0, .slice none 0 0, .slice none 0 0] 26)) = w9 at *
      refine (same_true m2 m w9 HMa.out.hm HMb.out.hm E2.out.2).mono ?_
      rintro e w10 ⟨rfl, hb10⟩
      have BT := Lib.hid (And.intro (below_then B8.out.1 hb10) (B8.out.2.below hb10))
      clear hb10
      go_wp2_with fail
      refine (get_any A b c _ (BT.out.2) HC.out (rd_lt BT.out.2) (by omega)).mono ?_
      rintro e wg ⟨hg, hbg⟩
      have BG := Lib.hid (And.intro (below_then BT.out.1 hbg) (BT.out.2.below hbg))
      clear hbg
      rcases hg with ⟨m4, rfl, hm4, hp4, hs4⟩ | ⟨rfl, _⟩
      · have heq : putImg m4.img = b := by have := pImg_back _ _ _ hp4; rw [List.append_nil] at this; exact this.symm
        have H4 := Lib.hid (And.intro hm4 (And.intro hs4 heq))
        clear hm4 hp4 hs4 heq
        go_wp2_with fail
        have hb6 : Below wg.heap.size wg (wg.alloc (.cells #[.slice m4.iA m4.iN m4.iC, .slice m4.tA m4.tN m4.tC, .slice m4.fA m4.fN m4.fC] 26)) := (Below.refl _ _).alloc (Nat.le_refl _) _
        have HM6 := Lib.hid (heldM_made wg m4 H4.out.1)
        have B6 := Lib.hid (And.intro (below_then BG.out.1 hb6) (BG.out.2.below hb6))
        clear hb6
        generalize (wg.alloc (.cells #[.slice m4.iA m4.iN m4.iC, .slice m4.tA m4.tN m4.tC, .slice m4.fA m4.fN m4.fC] 26)) = w6 at *
        refine (put_all m4 w6 HM6.out.hm (by rw [H4.out.2.2]; omega)).mono ?_
        rintro e w7 hres
        have hres2 : ∃ v, e = .returned (.tuple #[v, .nilIface]) ∧ w7.ownsRow w6.heap.size 5 1 v b.length (u8s b) ∧ Below w6.heap.size w6 w7 := by
          rcases hres with ⟨_, h⟩ | ⟨h, _⟩
          · rw [H4.out.2.2] at h; exact h
          · rw [H4.out.2.1] at h; cases h
        obtain ⟨v7, rfl, hown7, hb7⟩ := hres2
        obtain ⟨A7, c7, rfl, _⟩ := own_cap hown7
        have HM7 := Lib.hid (HM6.out.below hb7)
        have B7 := Lib.hid (And.intro (below_then B6.out.1 hb7) (B6.out.2.below hb7))
        have conv1 : ∀ c', (convert 29 9 (.slice A7 b.length c')).run Try.prog w7 = .ok (.string (bstr b)) w7 := fun c' => conv_bytes rfl (Rd.of_own hown7)
        have conv2 : ∀ c', (convert 29 9 (.slice A b.length c')).run Try.prog w7 = .ok (.string (bstr b)) w7 := fun c' => conv_bytes rfl B7.out.2
        have k0 := HM7.out.m0
        have k1 := HM7.out.m1
        have k2 := HM7.out.m2
        clear hres hown7 hb7
        go_wp2_with fail
        refine (check_any m4 w7 HM7.out.hm).mono ?_
        rw [show CheckRes m4 = .nilIface from by unfold CheckRes; rw [H4.out.2.1]; rfl]
        rintro e w8 ⟨rfl, hb8⟩
        go_wp2_with fail
        go_returns
        exact ⟨rfl, below_then B7.out.1 hb8⟩
      · go_wp2_with fail
        go_returns
        exact ⟨rfl, BG.out.1.alloc BG.out.1.size _⟩
    · have HM4 := Lib.hid (HM3.out.below hb4)
      have BT := Lib.hid (And.intro (below_then HB3.out.1 hb4) (HB3.out.2.below hb4))
      clear hb4 hs
      clear k0 k1 k2
      go_wp2_with fail
      refine (get_any A b c _ (BT.out.2) HC.out (rd_lt BT.out.2) (by omega)).mono ?_
      rintro e wg ⟨hg, hbg⟩
      have BG := Lib.hid (And.intro (below_then BT.out.1 hbg) (BT.out.2.below hbg))
      clear hbg
      rcases hg with ⟨m4, rfl, hm4, hp4, hs4⟩ | ⟨rfl, _⟩
      · have heq : putImg m4.img = b := by have := pImg_back _ _ _ hp4; rw [List.append_nil] at this; exact this.symm
        have H4 := Lib.hid (And.intro hm4 (And.intro hs4 heq))
        clear hm4 hp4 hs4 heq
        go_wp2_with fail
        have hb6 : Below wg.heap.size wg (wg.alloc (.cells #[.slice m4.iA m4.iN m4.iC, .slice m4.tA m4.tN m4.tC, .slice m4.fA m4.fN m4.fC] 26)) := (Below.refl _ _).alloc (Nat.le_refl _) _
        have HM6 := Lib.hid (heldM_made wg m4 H4.out.1)
        have B6 := Lib.hid (And.intro (below_then BG.out.1 hb6) (BG.out.2.below hb6))
        clear hb6
        generalize (wg.alloc (.cells #[.slice m4.iA m4.iN m4.iC, .slice m4.tA m4.tN m4.tC, .slice m4.fA m4.fN m4.fC] 26)) = w6 at *
        refine (put_all m4 w6 HM6.out.hm (by rw [H4.out.2.2]; omega)).mono ?_
        rintro e w7 hres
        have hres2 : ∃ v, e = .returned (.tuple #[v, .nilIface]) ∧ w7.ownsRow w6.heap.size 5 1 v b.length (u8s b) ∧ Below w6.heap.size w6 w7 := by
          rcases hres with ⟨_, h⟩ | ⟨h, _⟩
          · rw [H4.out.2.2] at h; exact h
          · rw [H4.out.2.1] at h; cases h
        obtain ⟨v7, rfl, hown7, hb7⟩ := hres2
        obtain ⟨A7, c7, rfl, _⟩ := own_cap hown7
        have HM7 := Lib.hid (HM6.out.below hb7)
        have B7 := Lib.hid (And.intro (below_then B6.out.1 hb7) (B6.out.2.below hb7))
        have conv1 : ∀ c', (convert 29 9 (.slice A7 b.length c')).run Try.prog w7 = .ok (.string (bstr b)) w7 := fun c' => conv_bytes rfl (Rd.of_own hown7)
        have conv2 : ∀ c', (convert 29 9 (.slice A b.length c')).run Try.prog w7 = .ok (.string (bstr b)) w7 := fun c' => conv_bytes rfl B7.out.2
        have k0 := HM7.out.m0
        have k1 := HM7.out.m1
        have k2 := HM7.out.m2
        clear hres hown7 hb7
        go_wp2_with fail
        refine (check_any m4 w7 HM7.out.hm).mono ?_
        rw [show CheckRes m4 = .nilIface from by unfold CheckRes; rw [H4.out.2.1]; rfl]
        rintro e w8 ⟨rfl, hb8⟩
        go_wp2_with fail
        go_returns
        exact ⟨rfl, below_then B7.out.1 hb8⟩
      · go_wp2_with fail
        go_returns
        exact ⟨rfl, BG.out.1.alloc BG.out.1.size _⟩
end Go.Proofs.Ythdnnlelmelegaa
