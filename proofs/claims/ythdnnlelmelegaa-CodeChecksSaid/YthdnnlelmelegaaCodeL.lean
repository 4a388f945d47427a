/-
  Whether an image may be, by the code.
-/
import Derived.Test.YthdnnlelmelegaaCodeK
namespace Go.Proofs.Ythdnnlelmelegaa
open Go.ChangeShapes Go.WideShapes Go.ChangeAt Go.RowKit
set_option linter.unusedVariables false

structure HeldM (w : World) (h : Nat) (m : AImg) : Prop where
  m0 : w.cell? ⟨h, 0, none⟩ = some (.slice m.iA m.iN m.iC)
  m1 : w.cell? ⟨h, 1, none⟩ = some (.slice m.tA m.tN m.tC)
  m2 : w.cell? ⟨h, 2, none⟩ = some (.slice m.fA m.fN m.fC)
  hm : m.In w
theorem HeldM.below {w w' : World} {h : Nat} {m : AImg} (k : HeldM w h m) (hb : Below w.heap.size w w') : HeldM w' h m := ⟨cell_below hb k.m0, cell_below hb k.m1, cell_below hb k.m2, k.hm.below hb⟩
theorem heldM_made (w : World) (m : AImg) (hm : m.In w) : HeldM (w.alloc (.cells #[.slice m.iA m.iN m.iC, .slice m.tA m.tN m.tC, .slice m.fA m.fN m.fC] 26)) w.heap.size m :=
  ⟨cell_new w _ _ 0 rfl, cell_new w _ _ 1 rfl, cell_new w _ _ 2 rfl, hm.below ((Below.refl _ _).alloc (Nat.le_refl _) _)⟩

theorem csum_mono {l : List AFnc} {j k : Nat} (hj : j ≤ k) (hk : k ≤ l.length) : csum l j ≤ csum l k := by
  induction k with
  | zero => obtain rfl : j = 0 := by omega
            exact Nat.le_refl _
  | succ k ih =>
    rcases Nat.lt_or_ge j (k + 1) with h | h
    · rw [csum_succ l k (by omega)]
      have := ih (by omega) (by omega)
      omega
    · obtain rfl : j = k + 1 := by omega
      exact Nat.le_refl _

set_option maxHeartbeats 1000000 in
theorem isSound_any (mb : Nat) (m : AImg) (w : World) (hm : MP w mb m) :
    Calls Try.prog 16 #[.pointer (some ⟨mb, 0, none⟩)] w fun e w' => e = .returned (.bool (soundB m)) ∧ Below w.heap.size w w' := by
  have HM := Lib.hid hm
  have c1 := hm.c1
  have c2 := hm.c2
  have s2 := hm.i.tsz
  have s3 := hm.i.fsz
  have HT := Lib.hid hm.i.texts.strN
  have HL := Lib.hid hm.i.funs.fncN
  clear hm
  by_cases h1 : m.fN < 1
  · have HE : RowKit.Hid (soundB m = false) := Lib.hid (by unfold soundB headB; rw [decide_eq_false (show ¬ (1 ≤ m.fN ∧ m.fN ≤ 2000) by omega)]; rfl)
    go_enter Try.func16, Try.ntmps16
    go_wp2_with fail
    go_returns
    exact ⟨by rw [HE.out]; rfl, Below.refl _ _⟩
  by_cases h2 : 2000 < m.fN
  · have HE : RowKit.Hid (soundB m = false) := Lib.hid (by unfold soundB headB; rw [decide_eq_false (show ¬ (1 ≤ m.fN ∧ m.fN ≤ 2000) by omega)]; rfl)
    go_enter Try.func16, Try.ntmps16
    go_wp2_with fail
    go_returns
    exact ⟨by rw [HE.out]; rfl, Below.refl _ _⟩
  obtain ⟨fb, fo, e, _, hc⟩ := HM.out.i.funs.fnc (k := 0) (by have := HL.out; omega)
  rw [e] at c2
  have g1 := (hc 0 (by have := HL.out; omega)).2.1
  have hcap : capsAt m 0 = (m.funs[0]'(by have := HL.out; omega)).caps := by unfold capsAt; rw [show (0 : Int).toNat = 0 from rfl, List.getElem?_eq_getElem (by have := HL.out; omega)]; rfl
  rw [← hcap] at g1
  have g1' : w.cell? ⟨fb, fo + 1, none⟩ = some (.int .i64 (capsAt m 0)) := by rw [show fo + 0 * 3 + 1 = fo + 1 from by omega] at g1; exact g1
  have HEA := Lib.hid e
  clear hc hcap g1 e
  have i1 : 0 < m.fN := by omega
  by_cases h3 : capsAt m 0 = 0
  · rw [h3] at g1'
    have HE : RowKit.Hid (soundB m = (m.texts.all (fun s => decide (s.length ≤ 2000)) && (decide (csum m.funs m.fN ≤ 20000) && m.funs.all (funcB m)))) := Lib.hid (by unfold soundB headB; rw [decide_eq_true (show (1 ≤ m.fN ∧ m.fN ≤ 2000) by omega), decide_eq_true h3]; rfl)
    clear h3
    go_enter Try.func16, Try.ntmps16
    go_wp2_with fail
    have HC1 := Lib.hid (And.intro c1 c2)
    clear c1 c2 g1'
    go_loopw [36] (fun i wr => ∃ k : Nat, i = .int .i64 k ∧ k ≤ m.tN ∧ (∀ j (h : j < m.texts.length), j < k → m.texts[j].length ≤ 2000) ∧ Below w.heap.size w wr) (fun i _ => m.tN - (intOf i).toNat)
    case atStart => exact ⟨0, rfl, by omega, by intro j _ h; omega, Below.refl _ _⟩
    case round =>
      obtain ⟨k, rfl, hk, ht, hb⟩ := hrel
      have HTX := Lib.hid ht
      clear ht
      by_cases hlt : k < m.tN
      · obtain ⟨b, o, e, _, hc⟩ := (HM.out.i.texts.below hb).str (k := k) (by have := HT.out; omega)
        have g0 := hc k (by have := HT.out; omega)
        have c1 := cell_below hb HC1.out.1
        rw [e] at c1 ⊢
        obtain ⟨s, hs⟩ : ∃ s, m.texts[k]'(by have := HT.out; omega) = s := ⟨_, rfl⟩
        rw [hs] at g0
        have hsz := bstr_size s
        have HS := Lib.hid hs
        clear hc hs e
        by_cases h3 : s.length ≤ 2000
        · rw [← hsz] at h3
          have HZ := Lib.hid hsz
          clear hsz
          go_wp2_with fail
          go_roundw
          case rel => exact ⟨k + 1, by go_num, by omega, by intro j hj hjk; rcases Nat.lt_succ_iff_lt_or_eq.1 hjk with h | h; exact HTX.out j hj h; subst h; have h5 := HS.out; rw [h5, ← HZ.out]; exact h3, hb⟩
          case measure => simp [intOf] <;> omega
        · have HE2 : RowKit.Hid (soundB m = false) := Lib.hid (by rw [HE.out, List.all_eq_false.2 ⟨s, by have h5 := HS.out; rw [← h5]; exact List.getElem_mem _, by simpa using h3⟩]; rfl)
          rw [← hsz] at h3
          clear hsz
          go_wp2_with fail
          go_returns
          exact ⟨by rw [HE2.out]; rfl, hb⟩
      · have HE2 : RowKit.Hid (soundB m = (decide (csum m.funs m.fN ≤ 20000) && m.funs.all (funcB m))) := Lib.hid (by
          rw [HE.out, List.all_eq_true.2 (fun x hx => by
            obtain ⟨j, hj, rfl⟩ := List.getElem_of_mem hx
            exact decide_eq_true (HTX.out j hj (by have := HT.out; omega)))]; rfl)
        clear HE HTX
        have c2 := cell_below hb HC1.out.2
        go_wp2_with fail
        clear c2
        go_loopw [5, 49] (fun z i wr => ∃ q k : Nat, z = .int .i64 q ∧ i = .int .i64 k ∧ k ≤ m.fN ∧ q = csum m.funs k ∧ q ≤ 20000 ∧ (∀ j (h : j < m.funs.length), j < k → funcB m m.funs[j] = true) ∧ Below w.heap.size w wr) (fun _ i _ => m.fN - (intOf i).toNat)
        case atStart => exact ⟨0, 0, rfl, rfl, by omega, by rw [csum_zero], by omega, by intro j _ h; omega, hb⟩
        case round =>
          clear hb
          obtain ⟨q, k2, rfl, rfl, hk2, hq, hqb, hn, hb⟩ := hrel
          have HQ := Lib.hid hq
          have HN := Lib.hid hn
          have HB := Lib.hid hb
          have c2 := cell_below hb HC1.out.2
          clear hq hn
          by_cases hlt2 : k2 < m.fN
          · obtain ⟨b, o, e, _, hc⟩ := (HM.out.i.funs.below hb).fnc (k := k2) (by have := HL.out; omega)
            rw [HEA.out] at e
            injection e with e
            injection e with e1 e2
            subst e1
            subst e2
            have g := hc k2 (by have := HL.out; omega)
            have hfi := (HM.out.below hb).i.fall _ (List.getElem_mem (show k2 < m.funs.length by have := HL.out; omega))
            have hcs := csum_succ m.funs k2 (by have := HL.out; omega)
            have hmo := csum_mono (l := m.funs) (j := k2 + 1) (k := m.fN) (by omega) (by have := HL.out; omega)
            obtain ⟨f, hf⟩ : ∃ f, m.funs[k2]'(by have := HL.out; omega) = f := ⟨_, rfl⟩
            rw [hf] at g hfi hcs
            have hz := hfi.sz
            have gg := g.2.2
            have HFP : RowKit.Hid (FP wr fb (fo + k2 * 3) f) := Lib.hid ⟨g.1, g.2.1, g.2.2, hfi⟩
            have HCS := Lib.hid (And.intro hcs hmo)
            have HF := Lib.hid hf
            clear hc g hfi hcs hmo hf hb
            by_cases h20 : q + f.n ≤ 20000
            · go_wp2_with fail
              refine (isFunc_any mb fb (fo + k2 * 3) m f _ (HM.out.below HB.out) HFP.out).mono ?_
              cases hfu : funcB m f with
              | false =>
                have HFU := Lib.hid hfu
                clear hfu
                rintro e w2 ⟨rfl, hb4⟩
                go_wp2_with fail
                go_returns
                refine ⟨?_, below_then HB.out hb4⟩
                rw [HE2.out, List.all_eq_false.2 ⟨f, by have h1 := HF.out; rw [← h1]; exact List.getElem_mem _, by rw [HFU.out]; simp⟩, Bool.and_false]
                rfl
              | true =>
                have HFU := Lib.hid hfu
                clear hfu
                rintro e w2 ⟨rfl, hb4⟩
                go_wp2_with fail
                go_roundw
                case rel =>
                  refine ⟨q + f.n, k2 + 1, by go_num, by go_num, by omega, by rw [HCS.out.1, HQ.out], h20, ?_, below_then HB.out hb4⟩
                  intro j hj hjk
                  rcases Nat.lt_succ_iff_lt_or_eq.1 hjk with h' | h'
                  · exact HN.out j hj h'
                  · subst h'
                    have h1 := HF.out
                    rw [h1]; exact HFU.out
                case measure => simp [intOf] <;> omega
            · have HE3 : RowKit.Hid (soundB m = false) := Lib.hid (by rw [HE2.out, decide_eq_false (show ¬ csum m.funs m.fN ≤ 20000 by have h1 := HCS.out; have h2 := HQ.out; omega)]; rfl)
              go_wp2_with fail
              go_returns
              exact ⟨by rw [HE3.out]; rfl, HB.out⟩
          · go_wp2_with fail
            go_returns
            refine ⟨?_, HB.out⟩
            have hsum : csum m.funs m.fN ≤ 20000 := by
              have h3 : k2 = m.fN := by omega
              rw [← h3, ← HQ.out]; exact hqb
            rw [HE2.out, decide_eq_true hsum, List.all_eq_true.2 (fun x hx => by
              obtain ⟨j, hj, rfl⟩ := List.getElem_of_mem hx
              exact HN.out j hj (by have := HL.out; omega))]
            rfl
  · have HE : RowKit.Hid (soundB m = false) := Lib.hid (by unfold soundB headB; rw [decide_eq_false h3, Bool.and_false]; rfl)
    have q : (capsAt m 0 != 0) = true := by rw [bne_iff_ne]; exact h3
    go_enter Try.func16, Try.ntmps16
    go_wp2_with fail
    go_returns
    exact ⟨by rw [HE.out]; rfl, Below.refl _ _⟩
end Go.Proofs.Ythdnnlelmelegaa
