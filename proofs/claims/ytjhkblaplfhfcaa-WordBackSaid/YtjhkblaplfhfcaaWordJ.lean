/-
  Same, and what the document unpacks.
-/
import Derived.Test.YtjhkblaplfhfcaaWordI
namespace Go.Proofs.Ytjhkblaplfhfcaa
open Go.ChangeShapes Go.WideShapes Go.ChangeAt Go.RowKit
set_option linter.unusedVariables false

theorem same_len (A B : Option Addr) (us vs : List Wd) (c d : Nat) (hlen : us.length = vs.length) (w : World) (hu : Rd w 2 A us.length (wcells us)) (hv : Rd w 2 B vs.length (wcells vs)) (hm : us.length ≤ 1048576) :
    Calls Try.prog 18 #[.slice A us.length c, .slice B vs.length d] w fun e w' => e = .returned (.bool (decide (us = vs))) ∧ Below w.heap.size w w' := by
  have hne : ((us.length : Int) != (vs.length : Int)) = false := by rw [hlen]; simp
  have HL := Lib.hid hlen
  clear hlen
  go_enter Try.func18, Try.ntmps18
  go_wp2_with fail
  go_loopw [5] (fun i wr => ∃ k : Nat, k ≤ us.length ∧ i = .int .i64 k ∧ us.take k = vs.take k ∧ Below w.heap.size w wr) (fun i _ => us.length - (intOf i).toNat)
  case atStart => exact ⟨0, Nat.zero_le _, rfl, rfl, Below.refl _ _⟩
  case round =>
    obtain ⟨k, hk, rfl, htake, hb⟩ := hrel
    have HT := Lib.hid htake
    clear htake
    by_cases hlt : k < us.length
    · have hltv : k < vs.length := by have := HL.out; omega
      obtain ⟨b, o, rfl, hba, hc0, hc1⟩ := rd_word (hu.below hb) hlt
      obtain ⟨b', o', rfl, hba', hd0, hd1⟩ := rd_word (hv.below hb) hltv
      have HE : Hid (us[k] = (us[k].1, wat us k)) := by show us[k] = (us[k].1, wat us k); simp [wat, hlt]
      have HF : Hid (vs[k] = (vs[k].1, wat vs k)) := by show vs[k] = (vs[k].1, wat vs k); simp [wat, hltv]
      by_cases he : us[k] = vs[k]
      · have e1 : vs[k].1 = us[k].1 := by rw [he]
        have e2 : wat vs k = wat us k := by
          have h1 := congrArg Prod.snd HE.out
          have h2 := congrArg Prod.snd HF.out
          simp only at h1 h2
          rw [← h1, ← h2, he]
        rw [e1] at hd0
        rw [e2] at hd1
        have HH := Lib.hid he
        clear he e1 e2 HE HF
        go_wp2_with fail
        go_quiet (fail)
        go_wp2_with fail
        go_roundw
        case rel => exact ⟨k + 1, by omega, by go_num, by rw [List.take_succ_eq_append_getElem hlt, List.take_succ_eq_append_getElem hltv, HT.out, HH.out], below_drewN hb _⟩
        case measure => simp [intOf] <;> omega
      · have HB : Hid (¬ us = vs) := fun h => he (by subst h; rfl)
        have hor : (us[k].1 == vs[k].1) = false ∨ us[k].1 = vs[k].1 ∧ (wat us k == wat vs k) = false := by
          by_cases h1 : us[k].1 = vs[k].1
          · refine .inr ⟨h1, ?_⟩
            rw [beq_eq_false_iff_ne]
            intro h2
            apply he
            rw [HE.out, HF.out, h1, h2]
          · exact .inl (by rw [beq_eq_false_iff_ne]; exact h1)
        clear he HE HF HT
        rcases hor with h1 | ⟨h1, h2⟩
        · go_wp2_with fail
          go_quiet (fail)
          go_wp2_with fail
          go_returns
          exact ⟨ret_eq (by rw [decide_eq_false HB.out]; rfl), below_drewN hb _⟩
        · rw [← h1] at hd0
          clear h1
          go_wp2_with fail
          go_quiet (fail)
          go_wp2_with fail
          go_returns
          exact ⟨ret_eq (by rw [decide_eq_false HB.out]; rfl), below_drewN hb _⟩
    · have hfin : us = vs := by
        have h1 := HT.out
        have h2 := HL.out
        rwa [List.take_of_length_le (by omega), List.take_of_length_le (by omega)] at h1
      have HF := Lib.hid hfin
      clear hfin
      go_wp2_with fail
      go_returns
      exact ⟨ret_eq (by rw [decide_eq_true HF.out]; rfl), hb⟩

theorem same_any (A B : Option Addr) (us vs : List Wd) (n m c d : Nat) (hn : n = us.length) (hk : m = vs.length) (w : World) (hu : Rd w 2 A n (wcells us)) (hv : Rd w 2 B m (wcells vs)) (hm : us.length ≤ 1048576) :
    Calls Try.prog 18 #[.slice A n c, .slice B m d] w fun e w' => e = .returned (.bool (decide (us = vs))) ∧ Below w.heap.size w w' := by
  subst hn
  subst hk
  by_cases hlen : us.length = vs.length
  · exact same_len A B us vs c d hlen w hu hv hm
  · have hne : ((us.length : Int) != (vs.length : Int)) = true := by rw [bne_iff_ne]; omega
    have HB : Hid (¬ us = vs) := fun h => hlen (by rw [h])
    clear hlen
    go_enter Try.func18, Try.ntmps18
    go_wp2_with fail
    go_returns
    exact ⟨ret_eq (by rw [decide_eq_false HB.out]; rfl), Below.refl _ _⟩

end Go.Proofs.Ytjhkblaplfhfcaa
