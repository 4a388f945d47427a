/-
  Numbers by their digits: about no program.
-/
import Derived.Test.YtaglmmcjhlehjaaGreatDoorK01
namespace Go.Proofs.YtaglmmcjhlehjaaGreatDoor
set_option linter.unusedVariables false
set_option linter.unusedSimpArgs false

/-- What digits come to. -/
def valD (a : Nat) : Str → Nat
  | [] => a
  | c :: r => valD (a * 10 + (c.toNat - 48)) r
theorem valD_ge : ∀ (ds : Str) (a : Nat), a ≤ valD a ds
  | [], a => Nat.le_refl _
  | c :: r, a => Nat.le_trans (by omega) (valD_ge r (a * 10 + (c.toNat - 48)))
theorem valD_snoc : ∀ (ds : Str) (a : Nat) (c : UInt8), valD a (ds ++ [c]) = valD a ds * 10 + (c.toNat - 48)
  | [], a, c => rfl
  | d :: r, a, c => valD_snoc r (a * 10 + (d.toNat - 48)) c
theorem parseM_val : ∀ (ds : Str) (a : Nat), (∀ c ∈ ds, digB c = true) → a ≤ 18446744073709551615 → Lib.parseUintM 18446744073709551615 a ds = if valD a ds ≤ 18446744073709551615 then .ok (valD a ds) else .range
  | [], a, h, ha => by unfold Lib.parseUintM valD; rw [if_pos ha]
  | c :: r, a, h, ha => by
    have hc := of_decide_eq_true (h c (by simp))
    have hv := valD_ge r (a * 10 + (c.toNat - 48))
    unfold Lib.parseUintM
    rw [if_pos hc]
    show _ = if valD (a * 10 + (c.toNat - 48)) r ≤ 18446744073709551615 then Lib.NumEnd.ok (valD (a * 10 + (c.toNat - 48)) r) else Lib.NumEnd.range
    by_cases h1 : 1844674407370955162 ≤ a
    · rw [if_pos h1, if_neg (by omega)]
    · rw [if_neg h1]
      by_cases h2 : 18446744073709551615 < a * 10 + (c.toNat - 48)
      · rw [if_pos h2, if_neg (by omega)]
      · rw [if_neg h2, parseM_val r _ (fun d hd => h d (by simp [hd])) (by omega)]
theorem parse_val (ds : Str) (h : ∀ c ∈ ds, digB c = true) (h0 : ds ≠ []) : Lib.parseIntB 64 ds = if valD 0 ds < 9223372036854775808 then .ok (valD 0 ds : Int) else .range := by
  cases ds with
  | nil => exact absurd rfl h0
  | cons c r =>
    have hc := of_decide_eq_true (h c (by simp))
    have hn : ¬ (c.toNat = 43 ∨ c.toNat = 45) := by omega
    have hn2 : ¬ c.toNat = 45 := by omega
    have hm := parseM_val (c :: r) 0 h (by omega)
    unfold Lib.parseIntB
    simp only
    rw [if_neg hn]
    unfold Lib.parseUintB
    rw [if_neg (by simp)]
    rw [show (2 ^ 64 - 1 : Nat) = 18446744073709551615 from rfl, hm]
    by_cases h1 : valD 0 (c :: r) ≤ 18446744073709551615
    · rw [if_pos h1]
      simp only [hn2, not_false_eq_true, true_and, false_and, if_false]
      by_cases h2 : valD 0 (c :: r) < 9223372036854775808
      · rw [if_pos h2, if_neg (by omega)]
      · rw [if_neg h2, if_pos (by omega)]
    · rw [if_neg h1, if_neg (by omega)]
theorem numR_val (ds : Str) (h : ∀ c ∈ ds, digB c = true) (h0 : ds ≠ []) : numR ds = if valD 0 ds < 9223372036854775808 then (if ds.head? = some 48 ∧ 1 < ds.length then .bad 0 else .ok ⟨4, (valD 0 ds : Int), []⟩ ds.length) else .bad 0 := by
  unfold numR
  rw [parse_val ds h h0]
  by_cases h1 : valD 0 ds < 9223372036854775808
  · rw [if_pos h1, if_pos h1]
  · rw [if_neg h1, if_neg h1]

/-- What stands while digits are read: how far, and what they come to so far, or that it is too much. -/
structure NL (l : Str) (k q : Nat) (n : Nat) (big : Bool) : Prop where
  lo : k ≤ q
  hi : q ≤ l.length
  same : endB digB l q = endB digB l k
  small : big = false → n = valD 0 ((l.drop k).take (q - k)) ∧ n < 9223372036854775808
  great : big = true → 9223372036854775808 ≤ valD 0 ((l.drop k).take (q - k))
theorem take_snoc_at (l : Str) (k q : Nat) (hk : k ≤ q) (hq : q < l.length) (c : UInt8) (hc : l[q] = c) : (l.drop k).take (q + 1 - k) = (l.drop k).take (q - k) ++ [c] := by
  rw [show q + 1 - k = (q - k) + 1 from by omega, List.take_succ_eq_append_getElem (by rw [List.length_drop]; omega)]
  congr 2
  rw [List.getElem_drop]
  simp only [show k + (q - k) = q from by omega]
  exact hc
theorem NL.step {l : Str} {k q n : Nat} {big : Bool} (h : NL l k q n big) (hq : q < l.length) (c : UInt8) (hc : l[q] = c) (hd : digB c = true) (n' : Nat) (big' : Bool)
    (h1 : big' = false → big = false ∧ n' = n * 10 + (c.toNat - 48) ∧ n' < 9223372036854775808) (h2 : big' = true → big = true ∨ 9223372036854775808 ≤ n * 10 + (c.toNat - 48)) : NL l k (q + 1) n' big' := by
  refine ⟨by have := h.lo; omega, hq, ?_, ?_, ?_⟩
  · rw [← h.same]; exact endB_yes digB l q hq (by rw [hc]; exact hd)
  · intro hb
    obtain ⟨e1, e2, e3⟩ := h1 hb
    refine ⟨?_, e3⟩
    rw [take_snoc_at l k q h.lo hq c hc, valD_snoc, ← (h.small e1).1, e2]
  · intro hb
    rw [take_snoc_at l k q h.lo hq c hc, valD_snoc]
    cases hbig : big with
    | true => have := h.great hbig; omega
    | false =>
      have h3 := h2 hb
      rw [hbig] at h3
      have := (h.small hbig).1
      rcases h3 with h3 | h3
      · cases h3
      · omega
theorem NL.done {l : Str} {k q n : Nat} {big : Bool} (h : NL l k q n big) (s : Str) (hs : (l.drop k).takeWhile digB = s) (he : endB digB l q = q) : q = k + s.length ∧ (big = false → n = valD 0 s ∧ n < 9223372036854775808) ∧ (big = true → 9223372036854775808 ≤ valD 0 s) := by
  have e1 : q = k + s.length := by rw [← he, h.same]; unfold endB; rw [hs]
  have e2 : (l.drop k).take (q - k) = s := by
    have := tw_take (p := digB) (l.drop k)
    rw [hs] at this
    rw [e1, Nat.add_sub_cancel_left]; exact this
  have h3 := h.small
  have h4 := h.great
  rw [e2] at h3 h4
  exact ⟨e1, h3, h4⟩
end Go.Proofs.YtaglmmcjhlehjaaGreatDoor
