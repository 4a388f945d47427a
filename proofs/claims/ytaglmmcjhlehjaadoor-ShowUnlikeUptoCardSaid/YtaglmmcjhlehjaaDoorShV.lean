/-
  Unlike expressions have unlike texts: names, numbers, quoted texts, what may follow. About no program.
-/
import Derived.Test.YtaglmmcjhlehjaaDoorShMN
namespace Go.Proofs.YtaglmmcjhlehjaaDoor
open Go.RowKit
set_option linter.unusedVariables false
set_option linter.unusedSimpArgs false

/-- What follows goes on with no letter and no digit. -/
def FolP (u : Str) : Prop := ∀ c r, u = c :: r → tagB c = false
theorem folP_nil : FolP [] := fun c r h => by cases h
theorem folP_cons {c : UInt8} {r : Str} (h : tagB c = false) : FolP (c :: r) := fun c' r' e => by cases e; exact h
def AllT (s : Str) : Prop := ∀ c ∈ s, tagB c = true
theorem run_eq : ∀ {s t u v : Str}, AllT s → AllT t → FolP u → FolP v → s ++ u = t ++ v → s = t ∧ u = v
  | [], [], u, v, _, _, _, _, h => ⟨rfl, h⟩
  | [], d :: t, u, v, _, ht, hu, _, h => by
    have h1 := hu d (t ++ v) h
    rw [ht d (by simp)] at h1; cases h1
  | c :: s, [], u, v, hs, _, _, hv, h => by
    have h1 := hv c (s ++ u) h.symm
    rw [hs c (by simp)] at h1; cases h1
  | c :: s, d :: t, u, v, hs, ht, hu, hv, h => by
    simp only [List.cons_append, List.cons.injEq] at h
    obtain ⟨h1, h2⟩ := run_eq (fun x hx => hs x (by simp [hx])) (fun x hx => ht x (by simp [hx])) hu hv h.2
    exact ⟨by rw [h.1, h1], h2⟩
theorem low_tag {c : UInt8} (h : lowB c = true) : tagB c = true := by unfold tagB; rw [h]; rfl
theorem dig_tag {c : UInt8} (h : digB c = true) : tagB c = true := by unfold tagB; rw [h]; simp
theorem name_tag {c : UInt8} (h : nameB c = true) : tagB c = true := by
  unfold nameB at h; unfold tagB
  cases h1 : lowB c
  · rw [h1] at h; simp at h; rw [h]; simp
  · rfl

theorem tw_allV {p : UInt8 → Bool} : ∀ (l : Str), (l.takeWhile p).length = l.length → ∀ c ∈ l, p c = true
  | [], _, c, h => by cases h
  | a :: l, e, c, h => by
    cases ha : p a with
    | false => rw [List.takeWhile_cons, ha] at e; simp at e
    | true =>
      rw [List.takeWhile_cons, ha] at e
      simp only [if_true, List.length_cons, Nat.add_right_cancel_iff] at e
      rcases List.mem_cons.1 h with rfl | h
      · exact ha
      · exact tw_allV l e c h
theorem one_nameV {c : UInt8} {r : Str} {t : Tk} {n : Nat} (h : one (c :: r) = .ok t n) (hk : t.kind = 1 ∨ t.kind = 3) : spcB c = false ∧ t.s = (c :: r).take n := by
  rw [one_cons] at h
  by_cases h1 : lowB c = true
  · rw [if_pos h1] at h
    unfold nameR at h
    split at h
    · cases h
    · injection h with e1 e2
      refine ⟨?_, by rw [← e1, ← e2]; exact (tw_take _).symm⟩
      unfold lowB at h1
      have := of_decide_eq_true h1
      unfold spcB
      exact decide_eq_false (by omega)
  rw [if_neg h1] at h
  by_cases h2 : highB c = true
  · rw [if_pos h2] at h
    unfold nameR at h
    split at h
    · cases h
    · injection h with e1 e2
      refine ⟨?_, by rw [← e1, ← e2]; exact (tw_take _).symm⟩
      unfold highB at h2
      have := of_decide_eq_true h2
      unfold spcB
      exact decide_eq_false (by omega)
  rw [if_neg h2] at h
  by_cases h3 : digB c = true
  · rw [if_pos h3] at h
    unfold numR at h
    split at h
    · split at h
      · cases h
      · injection h with e1 e2
        subst e1
        simp at hk
    · cases h
  rw [if_neg h3] at h
  by_cases h4 : c.toNat = 34
  · rw [if_pos h4] at h
    unfold textR at h
    split at h
    · split at h
      · cases h
      · injection h with e1 e2
        subst e1
        simp at hk
    · cases h
  rw [if_neg h4] at h
  unfold signR at h
  split at h
  · injection h with e1 e2
    subst e1
    simp at hk
  · split at h
    · injection h with e1 e2
      subst e1
      simp at hk
    · cases h
theorem cut_nameV : ∀ (f : Nat) (l : Str) (p : Nat) (ts : List Tok), l.length ≤ f → cutS l p = .ok ts → ∀ t ∈ ts, (t.kind = 1 ∨ t.kind = 3) → t.s.length ≤ l.length
  | f, [], p, ts, _, h, t, ht, _ => by
    rw [cutS_nil] at h
    injection h with h
    subst h
    cases ht
  | 0, c :: r, p, ts, hf, h, t, ht, _ => by simp at hf
  | f + 1, c :: r, p, ts, hf, h, t, ht, hk => by
    cases hs : spcB c with
    | true =>
      rw [cutS_spc c r p hs] at h
      have := cut_nameV f r (p + 1) ts (by simp at hf; omega) h t ht hk
      simp; omega
    | false =>
      cases ho : one (c :: r) with
      | bad o => rw [cutS_bad c r p o hs ho] at h; cases h
      | ok t1 n =>
        obtain ⟨n0, n1, _⟩ := one_front _ _ _ ho
        rw [cutS_ok c r p n t1 hs ho] at h
        obtain ⟨l', hl', rfl⟩ := pre_ok h
        simp only [List.singleton_append, List.mem_cons] at ht
        rcases ht with rfl | ht
        · have := (one_nameV ho hk).2
          have e : (t1.put p).s = t1.s := rfl
          rw [e, this, List.length_take]
          exact Nat.min_le_right _ _
        · have := cut_nameV f _ _ l' (by rw [List.length_drop]; simp at hf ⊢; omega) hl' t ht hk
          rw [List.length_drop] at this
          omega
theorem tok_isR {s : Str} {k : Int} (hk : k = 1 ∨ k = 3) (h : tokB s k = true) : ∃ c r t n, s = c :: r ∧ one s = .ok t n ∧ n = s.length ∧ t.kind = k := by
  have h0 : s ≠ [] := by rintro rfl; cases h
  have h20 : ¬ 20 < s.length := by intro h2; unfold tokB at h; rw [if_pos h2] at h; cases h
  unfold tokB at h
  rw [if_neg h20] at h
  cases s with
  | nil => exact absurd rfl h0
  | cons c r =>
    cases hs : spcB c with
    | true =>
      exfalso
      rw [cutS_spc c r 0 hs] at h
      cases hc : cutS r (0 + 1) with
      | bad p => rw [hc] at h; cases h
      | ok ts =>
        rw [hc] at h
        rcases ts with _ | ⟨t, _ | ⟨t2, q⟩⟩
        · cases h
        · have h1 : (decide (t.kind = k) && decide (t.s = c :: r)) = true := h
          simp only [Bool.and_eq_true, decide_eq_true_eq] at h1
          have h2 := cut_nameV r.length r (0 + 1) [t] (Nat.le_refl _) hc t (by simp) (by rw [h1.1]; exact hk)
          rw [h1.2] at h2; simp at h2; omega
        · cases h
    | false =>
      cases ho : one (c :: r) with
      | bad o => rw [cutS_bad c r 0 o hs ho] at h; cases h
      | ok t n =>
        obtain ⟨n0, n1, _⟩ := one_front _ _ _ ho
        rw [cutS_ok c r 0 n t hs ho] at h
        cases hc : cutS ((c :: r).drop n) (0 + n) with
        | bad p => rw [hc] at h; cases h
        | ok ts =>
          rw [hc] at h
          rcases ts with _ | ⟨t2, q⟩
          · have h1 : (decide (t.kind = k) && decide (t.s = c :: r)) = true := h
            simp only [Bool.and_eq_true, decide_eq_true_eq] at h1
            have h2 := (one_nameV ho (by rw [h1.1]; exact hk)).2
            rw [h1.2] at h2
            have h3 := congrArg List.length h2
            rw [List.length_take] at h3
            exact ⟨c, r, t, n, rfl, rfl, by omega, h1.1⟩
          · cases h
theorem tok1 {s : Str} (h : tokB s 1 = true) : (∃ c r, s = c :: r ∧ lowB c = true) ∧ AllT s ∧ s ∉ wordsL := by
  obtain ⟨c, r, t, n, rfl, ho, hn, hk⟩ := tok_isR (.inl rfl) h
  rw [one_cons] at ho
  by_cases h1 : lowB c = true
  · rw [if_pos h1] at ho
    unfold nameR at ho
    split at ho
    · cases ho
    · injection ho with e1 e2
      rw [← e2] at hn
      have hall := tw_allV _ hn
      have hs : (c :: r).takeWhile nameB = c :: r := by
        have := tw_take (p := nameB) (c :: r)
        rw [hn, List.take_length] at this; exact this.symm
      refine ⟨⟨c, r, rfl, h1⟩, fun x hx => name_tag (hall x hx), ?_⟩
      intro hw
      rw [hs] at e1
      have : isWordB (c :: r) = true := decide_eq_true hw
      rw [← e1, this] at hk
      simp at hk
  · exfalso
    rw [if_neg h1] at ho
    by_cases h2 : highB c = true
    · rw [if_pos h2] at ho
      unfold nameR at ho
      split at ho
      · cases ho
      · injection ho with e1 e2; rw [← e1] at hk; simp at hk
    · rw [if_neg h2] at ho
      by_cases h3 : digB c = true
      · rw [if_pos h3] at ho
        unfold numR at ho
        split at ho
        · split at ho
          · cases ho
          · injection ho with e1 e2; rw [← e1] at hk; simp at hk
        · cases ho
      · rw [if_neg h3] at ho
        by_cases h4 : c.toNat = 34
        · rw [if_pos h4] at ho
          unfold textR at ho
          split at ho
          · split at ho
            · cases ho
            · injection ho with e1 e2; rw [← e1] at hk; simp at hk
          · cases ho
        · rw [if_neg h4] at ho
          unfold signR at ho
          split at ho
          · injection ho with e1 e2; rw [← e1] at hk; simp at hk
          · split at ho
            · injection ho with e1 e2; rw [← e1] at hk; simp at hk
            · cases ho
theorem tok3 {s : Str} (h : tokB s 3 = true) : (∃ c r, s = c :: r ∧ highB c = true) ∧ AllT s := by
  obtain ⟨c, r, t, n, rfl, ho, hn, hk⟩ := tok_isR (.inr rfl) h
  rw [one_cons] at ho
  by_cases h1 : lowB c = true
  · rw [if_pos h1] at ho
    unfold nameR at ho
    split at ho
    · cases ho
    · injection ho with e1 e2
      rw [← e1] at hk
      split at hk <;> simp at hk
  · rw [if_neg h1] at ho
    by_cases h2 : highB c = true
    · rw [if_pos h2] at ho
      unfold nameR at ho
      split at ho
      · cases ho
      · injection ho with e1 e2
        rw [← e2] at hn
        exact ⟨⟨c, r, rfl, h2⟩, tw_allV _ hn⟩
    · exfalso
      rw [if_neg h2] at ho
      by_cases h3 : digB c = true
      · rw [if_pos h3] at ho
        unfold numR at ho
        split at ho
        · split at ho
          · cases ho
          · injection ho with e1 e2; rw [← e1] at hk; simp at hk
        · cases ho
      · rw [if_neg h3] at ho
        by_cases h4 : c.toNat = 34
        · rw [if_pos h4] at ho
          unfold textR at ho
          split at ho
          · split at ho
            · cases ho
            · injection ho with e1 e2; rw [← e1] at hk; simp at hk
          · cases ho
        · rw [if_neg h4] at ho
          unfold signR at ho
          split at ho
          · injection ho with e1 e2; rw [← e1] at hk; simp at hk
          · split at ho
            · injection ho with e1 e2; rw [← e1] at hk; simp at hk
            · cases ho

/-! ### Numbers -/
def dval (l : Str) : Nat := l.foldl (fun a c => a * 10 + (c.toNat - 48)) 0
theorem dval_digits : ∀ u : Nat, dval (Lib.decDigits u) = u := by
  intro u
  induction u using Nat.strongRecOn with
  | ind u ih =>
    unfold Lib.decDigits
    split
    · rename_i h
      show (0 * 10 + ((UInt8.ofNat (48 + u)).toNat - 48)) = u
      rw [UInt8.toNat_ofNat']
      omega
    · rename_i h
      unfold dval at ih ⊢
      rw [List.foldl_append, ih (u / 10) (by omega)]
      show u / 10 * 10 + ((UInt8.ofNat (48 + u % 10)).toNat - 48) = u
      rw [UInt8.toNat_ofNat']
      omega
theorem digits_all : ∀ u : Nat, ∀ c ∈ Lib.decDigits u, digB c = true := by
  intro u
  induction u using Nat.strongRecOn with
  | ind u ih =>
    intro c hc
    unfold Lib.decDigits at hc
    split at hc
    · rename_i h
      simp only [List.mem_singleton] at hc
      subst hc
      unfold digB
      rw [UInt8.toNat_ofNat']
      exact decide_eq_true (by omega)
    · rename_i h
      rcases List.mem_append.1 hc with hc | hc
      · exact ih (u / 10) (by omega) c hc
      · simp only [List.mem_singleton] at hc
        subst hc
        unfold digB
        rw [UInt8.toNat_ofNat']
        exact decide_eq_true (by omega)
theorem itoa_digits {n : Int} (h : 0 ≤ n) : Lib.itoa n = Lib.decDigits n.toNat := by unfold Lib.itoa; rw [if_neg (by omega)]
theorem itoa_inj {n m : Int} (hn : 0 ≤ n) (hm : 0 ≤ m) (h : Lib.itoa n = Lib.itoa m) : n = m := by
  rw [itoa_digits hn, itoa_digits hm] at h
  have := congrArg dval h
  rw [dval_digits, dval_digits] at this
  omega
theorem itoa_all {n : Int} (h : 0 ≤ n) : ∀ c ∈ Lib.itoa n, digB c = true := by rw [itoa_digits h]; exact digits_all _

/-! ### Quoted texts -/
theorem qch_first {c : UInt8} {a : Str} (h : qch c = some a) : ∃ x r, a = x :: r ∧ x.toNat ≠ 34 := by
  unfold qch at h
  split at h
  · injection h with h; exact ⟨92, [110], h.symm, by decide⟩
  · split at h
    · split at h
      · rename_i h1 h2 h3
        injection h with h; exact ⟨92, [c], h.symm, by decide⟩
      · rename_i h1 h2 h3
        injection h with h; exact ⟨c, [], h.symm, by omega⟩
    · cases h
theorem qch_pre {c d : UInt8} {a b : Str} (ha : qch c = some a) (hb : qch d = some b) {u v : Str} (h : a ++ u = b ++ v) : c = d ∧ u = v := by
  unfold qch at ha hb
  split at ha
  · rename_i hc
    injection ha with ha
    subst ha
    split at hb
    · rename_i hd
      injection hb with hb
      subst hb
      simp at h
      exact ⟨nat_u8 (by omega), h⟩
    · split at hb
      · split at hb
        · rename_i h1 h2 h3
          injection hb with hb
          subst hb
          simp at h
          have := congrArg UInt8.toNat h.1
          simp at this
          omega
        · rename_i h1 h2 h3
          injection hb with hb
          subst hb
          simp at h
          have := congrArg UInt8.toNat h.1
          simp at this
          omega
      · cases hb
  · split at ha
    · split at ha
      · rename_i g1 g2 g3
        injection ha with ha
        subst ha
        split at hb
        · injection hb with hb
          subst hb
          simp at h
          have := congrArg UInt8.toNat h.1
          simp at this
          omega
        · split at hb
          · split at hb
            · injection hb with hb
              subst hb
              simp at h
              exact h
            · rename_i h1 h2 h3
              injection hb with hb
              subst hb
              simp at h
              have := congrArg UInt8.toNat h.1
              simp at this
              omega
          · cases hb
      · rename_i g1 g2 g3
        injection ha with ha
        subst ha
        split at hb
        · injection hb with hb
          subst hb
          simp at h
          have := congrArg UInt8.toNat h.1
          simp at this
          omega
        · split at hb
          · split at hb
            · injection hb with hb
              subst hb
              simp at h
              have := congrArg UInt8.toNat h.1
              simp at this
              omega
            · injection hb with hb
              subst hb
              simp at h
              exact h
          · cases hb
    · cases ha
theorem qbody_pre : ∀ {s t a b u v : Str}, qbody s = some a → qbody t = some b → a ++ 34 :: u = b ++ 34 :: v → s = t ∧ u = v
  | [], [], a, b, u, v, ha, hb, h => by
    injection ha with ha; injection hb with hb
    subst ha; subst hb
    simp at h
    exact ⟨rfl, h⟩
  | [], d :: t, a, b, u, v, ha, hb, h => by
    exfalso
    injection ha with ha
    subst ha
    rw [qbody_cons] at hb
    split at hb
    · rename_i x y hx hy
      injection hb with hb
      subst hb
      obtain ⟨c, r, rfl, hc⟩ := qch_first hx
      simp at h
      rw [← h.1] at hc
      simp at hc
    · cases hb
  | c :: s, [], a, b, u, v, ha, hb, h => by
    exfalso
    injection hb with hb
    subst hb
    rw [qbody_cons] at ha
    split at ha
    · rename_i x y hx hy
      injection ha with ha
      subst ha
      obtain ⟨c, r, rfl, hc⟩ := qch_first hx
      simp at h
      rw [h.1] at hc
      simp at hc
    · cases ha
  | c :: s, d :: t, a, b, u, v, ha, hb, h => by
    rw [qbody_cons] at ha hb
    split at ha
    · rename_i x y hx hy
      split at hb
      · rename_i x' y' hx' hy'
        injection ha with ha
        injection hb with hb
        subst ha
        subst hb
        rw [List.append_assoc, List.append_assoc] at h
        obtain ⟨e1, e2⟩ := qch_pre hx hx' h
        obtain ⟨e3, e4⟩ := qbody_pre hy hy' e2
        exact ⟨by rw [e1, e3], e4⟩
      · cases hb
    · cases ha
theorem quote_pre {s t a b u v : Str} (ha : quoteS s = some a) (hb : quoteS t = some b) (h : a ++ u = b ++ v) : s = t ∧ u = v := by
  unfold quoteS at ha hb
  split at ha
  · cases ha
  split at hb
  · cases hb
  cases h1 : qbody s with
  | none => rw [h1] at ha; cases ha
  | some p =>
    cases h2 : qbody t with
    | none => rw [h2] at hb; cases hb
    | some q =>
      rw [h1] at ha
      rw [h2] at hb
      simp at ha hb
      subst ha
      subst hb
      simp at h
      exact qbody_pre h1 h2 h
end Go.Proofs.YtaglmmcjhlehjaaDoor
