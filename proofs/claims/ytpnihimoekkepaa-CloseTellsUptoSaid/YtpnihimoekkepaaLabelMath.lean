/-
  Sets of labels, as lists in order: what sorting, adding and choosing make of them. About no program.
-/
import Derived.Test.YtpnihimoekkepaaStrs
import Derived.Lib.SlicesCompact
namespace Go.Proofs.Ytpnihimoekkepaa
open Go.RowKit
set_option linter.unusedVariables false

/-- In order, none twice. -/
def inOrder (l : List Str) : Prop := l.Pairwise (fun a b => slt a b = true)

theorem inOrder_nil : inOrder [] := List.Pairwise.nil
theorem inOrder_ext : ∀ {a b : List Str}, inOrder a → inOrder b → (∀ x, x ∈ a ↔ x ∈ b) → a = b
  | [], [], _, _, _ => rfl
  | [], y :: b, _, _, h => by have := (h y).2 (by simp); cases this
  | x :: a, [], _, _, h => by have := (h x).1 (by simp); cases this
  | x :: a, y :: b, ha, hb, h => by
    have ha' := List.pairwise_cons.1 ha
    have hb' := List.pairwise_cons.1 hb
    have hxy : x = y := by
      rcases List.mem_cons.1 ((h x).1 (by simp)) with h1 | h1
      · exact h1
      · rcases List.mem_cons.1 ((h y).2 (by simp)) with h2 | h2
        · exact h2.symm
        · have h3 := hb'.1 x h1
          have h4 := ha'.1 y h2
          rw [slt_asymm h3] at h4
          cases h4
    subst hxy
    rw [inOrder_ext ha'.2 hb'.2 (fun z => ?_)]
    constructor
    · intro hz
      rcases List.mem_cons.1 ((h z).1 (by simp [hz])) with h1 | h1
      · subst h1; have := ha'.1 z hz; rw [slt_irrefl] at this; cases this
      · exact h1
    · intro hz
      rcases List.mem_cons.1 ((h z).2 (by simp [hz])) with h1 | h1
      · subst h1; have := hb'.1 z hz; rw [slt_irrefl] at this; cases this
      · exact h1

theorem inOrder_nodup {l : List Str} (h : inOrder l) : l.Nodup := h.imp fun hab => slt_ne hab
theorem inOrder_filter {l : List Str} (h : inOrder l) (p : Str → Bool) : inOrder (l.filter p) := List.Pairwise.filter p h

/-- What sort and compact make of labels. -/
def setOf (l : List Str) : List Str := Lib.compact (l.mergeSort fun x y => decide (x ≤ y))

theorem le_slt (a b : Str) : decide (a ≤ b) = !slt b a := by
  rw [slt_eq, Bool.eq_iff_iff]; simp

theorem sorted_ms (l : List Str) : (l.mergeSort fun x y => decide (x ≤ y)).Pairwise (fun a b => slt b a = false) := by
  have h := List.pairwise_mergeSort (le := fun x y : Str => decide (x ≤ y))
    (fun a b c h1 h2 => by simp only [decide_eq_true_eq] at *; exact List.le_trans h1 h2)
    (fun a b => by simp only [Bool.or_eq_true, decide_eq_true_eq]; exact List.le_total a b) l
  refine h.imp fun {a b} hab => ?_
  rw [le_slt] at hab
  simpa using hab

theorem compact_set (d : List Str) (hd : d.Pairwise (fun a b => slt b a = false)) :
    ∀ m, m ≤ d.length → inOrder (Lib.compactUpTo d.toArray m) ∧ ∀ x, x ∈ Lib.compactUpTo d.toArray m ↔ x ∈ d.take m
  | 0, _ => ⟨by simp [Lib.compactUpTo, inOrder], by simp [Lib.compactUpTo]⟩
  | m + 1, hm => by
    obtain ⟨h1, h2⟩ := compact_set d hd m (by omega)
    have hget : d.toArray[m]! = d[m] := by simp [getElem!_pos, show m < d.length by omega]
    rw [Lib.compactUpTo_succ, List.take_succ_eq_append_getElem (by omega), hget]
    rcases Nat.eq_zero_or_pos m with h0 | h0
    · subst h0
      have : Lib.compactUpTo d.toArray 0 = [] := by simp [Lib.compactUpTo]
      simp [this, Lib.keeps, inOrder]
    · have hget' : d.toArray[m - 1]! = d[m - 1] := by
        have : m - 1 < d.length := by omega
        simp [getElem!_pos, this]
      by_cases he : d[m] = d[m - 1]
      · have hk : Lib.keeps d.toArray m = false := Lib.keeps_neg h0 (by rw [hget, hget', he])
        rw [hk]
        simp only [Bool.false_eq_true, if_false, List.append_nil]
        refine ⟨h1, fun x => ?_⟩
        rw [h2 x, List.mem_append, List.mem_singleton]
        constructor
        · exact Or.inl
        · rintro (h | h)
          · exact h
          · subst h
            rw [he]
            exact List.mem_take_iff_getElem.2 ⟨m - 1, by omega, rfl⟩
      · have hk : Lib.keeps d.toArray m = true := Lib.keeps_pos (by rw [hget, hget']; exact he)
        rw [hk]
        simp only [if_true]
        have hlast : slt d[m - 1] d[m] = true := by
          cases hc : slt d[m - 1] d[m] with
          | true => rfl
          | false =>
            have h3 := List.pairwise_iff_getElem.1 hd (m - 1) m (by omega) (by omega) (by omega)
            exact absurd (slt_tri h3 hc) he
        refine ⟨?_, fun x => by rw [List.mem_append, List.mem_append, h2 x]⟩
        unfold inOrder
        rw [List.pairwise_append]
        refine ⟨h1, by simp, ?_⟩
        intro a ha b hb
        simp at hb
        subst hb
        obtain ⟨j, hj, rfl⟩ := List.mem_take_iff_getElem.1 ((h2 a).1 ha)
        rcases Nat.lt_or_ge j (m - 1) with hjm | hjm
        · have h3 := List.pairwise_iff_getElem.1 hd j (m - 1) (by omega) (by omega) hjm
          cases h4 : slt d[j] d[m - 1] with
          | true => exact slt_trans h4 hlast
          | false => rw [slt_tri h4 h3]; exact hlast
        · obtain rfl : j = m - 1 := by omega
          exact hlast

theorem setOf_order (l : List Str) : inOrder (setOf l) := (compact_set _ (sorted_ms l) _ (Nat.le_refl _)).1
theorem setOf_mem (l : List Str) (x : Str) : x ∈ setOf l ↔ x ∈ l := by
  have h := (compact_set _ (sorted_ms l) _ (Nat.le_refl _)).2 x
  rw [List.take_length] at h
  exact h.trans List.mem_mergeSort
theorem setOf_length_le (l : List Str) : (setOf l).length ≤ l.length := by
  unfold setOf Lib.compact Lib.compactUpTo
  rw [List.length_map]
  refine Nat.le_trans (List.length_filter_le _ _) ?_
  simp
theorem setOf_self {l : List Str} (h : inOrder l) : setOf l = l := inOrder_ext (setOf_order l) h (setOf_mem l)

/-- How many come before a label. -/
def offs (l : List Str) (s : Str) : Nat := l.countP (fun x => slt x s)
theorem offs_le (l : List Str) (s : Str) : offs l s ≤ l.length := List.countP_le_length
theorem offs_split : ∀ (l : List Str) (s : Str), inOrder l → (∀ x ∈ l.take (offs l s), slt x s = true) ∧ (∀ x ∈ l.drop (offs l s), slt x s = false)
  | [], s, _ => by simp [offs]
  | y :: l, s, h => by
    have h' := List.pairwise_cons.1 h
    obtain ⟨h1, h2⟩ := offs_split l s h'.2
    cases hy : slt y s with
    | true =>
      have e : offs (y :: l) s = offs l s + 1 := by simp [offs, hy]
      rw [e, List.take_succ_cons, List.drop_succ_cons]
      refine ⟨fun x hx => ?_, h2⟩
      rcases List.mem_cons.1 hx with rfl | hx
      · exact hy
      · exact h1 x hx
    | false =>
      have hall : ∀ x ∈ l, slt x s = false := by
        intro x hx
        cases hc : slt x s with
        | false => rfl
        | true => have := slt_trans (h'.1 x hx) hc; rw [hy] at this; cases this
      have e : offs (y :: l) s = 0 := by
        simp only [offs, List.countP_eq_zero]
        intro x hx
        rcases List.mem_cons.1 hx with rfl | hx
        · rw [hy]; simp
        · rw [hall x hx]; simp
      rw [e]
      refine ⟨by simp, fun x hx => ?_⟩
      rcases List.mem_cons.1 hx with rfl | hx
      · exact hy
      · exact hall x hx
/-- The place is told by what lies before it and behind. -/
theorem offs_unique (l : List Str) (s : Str) (i : Nat) (hi : i ≤ l.length) (h1 : ∀ k (h : k < i), slt (l[k]'(by omega)) s = true) (h2 : ∀ k (h : k < l.length), i ≤ k → slt l[k] s = false) : offs l s = i := by
  have e : l = l.take i ++ l.drop i := (List.take_append_drop i l).symm
  unfold offs
  rw [e, List.countP_append]
  have e1 : (l.take i).countP (fun x => slt x s) = (l.take i).length := by
    rw [List.countP_eq_length]
    intro x hx
    obtain ⟨k, hk, rfl⟩ := List.mem_take_iff_getElem.1 hx
    exact h1 k (by omega)
  have e2 : (l.drop i).countP (fun x => slt x s) = 0 := by
    rw [List.countP_eq_zero]
    intro x hx
    obtain ⟨k, hk, rfl⟩ := List.mem_drop_iff_getElem.1 hx
    rw [h2 (i + k) (by omega) (by omega)]
    simp
  rw [e1, e2, List.length_take]
  omega

/-- One comes where it stands. -/
def addL (l : List Str) (s : Str) : List Str := if s ∈ l then l else l.take (offs l s) ++ [s] ++ l.drop (offs l s)
theorem insert_order {l : List Str} {s : Str} (h : inOrder l) (hs : s ∉ l) : inOrder (l.take (offs l s) ++ [s] ++ l.drop (offs l s)) := by
  obtain ⟨h1, h2⟩ := offs_split l s h
  have e : l = l.take (offs l s) ++ l.drop (offs l s) := (List.take_append_drop _ l).symm
  have h0 := h
  rw [e] at h0
  obtain ⟨ha, hb, hab⟩ := List.pairwise_append.1 h0
  have h2' : ∀ x ∈ l.drop (offs l s), slt s x = true := by
    intro x hx
    cases hc : slt s x with
    | true => rfl
    | false =>
      have := slt_tri (h2 x hx) hc
      subst this
      exact absurd (List.mem_of_mem_drop hx) hs
  unfold inOrder
  rw [List.append_assoc, List.pairwise_append]
  refine ⟨ha, List.pairwise_cons.2 ⟨h2', hb⟩, fun a ha' b hb' => ?_⟩
  rcases List.mem_append.1 hb' with hb' | hb'
  · simp at hb'; subst hb'; exact h1 a ha'
  · exact hab a ha' b hb'
theorem addL_order {l : List Str} {s : Str} (h : inOrder l) : inOrder (addL l s) := by
  unfold addL
  split
  · exact h
  · rename_i hs; exact insert_order h hs
theorem addL_mem (l : List Str) (s x : Str) : x ∈ addL l s ↔ x ∈ l ∨ x = s := by
  unfold addL
  split
  · rename_i hs
    constructor
    · exact Or.inl
    · rintro (h | h)
      · exact h
      · subst h; exact hs
  · have e : x ∈ l ↔ x ∈ l.take (offs l s) ∨ x ∈ l.drop (offs l s) := by
      rw [← List.mem_append, List.take_append_drop]
    rw [List.mem_append, List.mem_append, List.mem_singleton, e]
    constructor
    · rintro ((h | h) | h)
      · exact .inl (.inl h)
      · exact .inr h
      · exact .inl (.inr h)
    · rintro ((h | h) | h)
      · exact .inl (.inl h)
      · exact .inr h
      · exact .inl (.inr h)
def ofTo (l : List Str) (k : Nat) : List Str := (l.take k).foldl addL []
theorem ofTo_succ (l : List Str) (k : Nat) (h : k < l.length) : ofTo l (k + 1) = addL (ofTo l k) l[k] := by
  unfold ofTo
  rw [List.take_succ_eq_append_getElem h, List.foldl_append]
  rfl
theorem ofTo_spec (l : List Str) : ∀ k, k ≤ l.length → inOrder (ofTo l k) ∧ ∀ x, x ∈ ofTo l k ↔ x ∈ l.take k
  | 0, _ => by simp [ofTo, inOrder]
  | k + 1, h => by
    obtain ⟨h1, h2⟩ := ofTo_spec l k (by omega)
    rw [ofTo_succ l k (by omega)]
    refine ⟨addL_order h1, fun x => ?_⟩
    rw [addL_mem, h2, List.take_succ_eq_append_getElem (by omega), List.mem_append, List.mem_singleton]
theorem ofTo_all (l : List Str) : ofTo l l.length = setOf l := by
  obtain ⟨h1, h2⟩ := ofTo_spec l l.length (Nat.le_refl _)
  rw [List.take_length] at h2
  exact inOrder_ext h1 (setOf_order l) fun x => (h2 x).trans (setOf_mem l x).symm
theorem addL_length (l : List Str) (s : Str) : (addL l s).length ≤ l.length + 1 := by
  unfold addL
  split
  · omega
  · simp only [List.length_append, List.length_take, List.length_drop, List.length_cons, List.length_nil]; omega
theorem ofTo_length (l : List Str) : ∀ k, k ≤ l.length → (ofTo l k).length ≤ k
  | 0, _ => by simp [ofTo]
  | k + 1, h => by
    rw [ofTo_succ l k (by omega)]
    have := addL_length (ofTo l k) l[k]
    have := ofTo_length l k (by omega)
    omega

/-- Those of the one that the other one hasn't; those of both. -/
def lessL (a b : List Str) : List Str := a.filter fun x => !decide (x ∈ b)
def meetL (a b : List Str) : List Str := a.filter fun x => decide (x ∈ b)
theorem less_less (a b : List Str) : lessL a (lessL a b) = meetL a b := by
  unfold lessL meetL
  apply List.filter_congr
  intro x hx
  by_cases h : x ∈ b <;> simp [hx, h]
theorem less_meet_length (a b : List Str) : a.length = (lessL a b).length + (meetL a b).length := by
  unfold lessL meetL
  induction a with
  | nil => rfl
  | cons x r ih =>
    by_cases h : x ∈ b <;> simp [h] <;> omega
theorem join_length {a b : List Str} (ha : inOrder a) (hb : inOrder b) : (setOf (a ++ b)).length = a.length + (lessL b a).length := by
  have hp : (setOf (a ++ b)).Perm (a ++ lessL b a) := by
    rw [List.perm_ext_iff_of_nodup (inOrder_nodup (setOf_order _))]
    · intro x
      rw [setOf_mem, List.mem_append, List.mem_append, lessL, List.mem_filter]
      by_cases h : x ∈ a <;> simp [h]
    · refine List.nodup_append.2 ⟨inOrder_nodup ha, inOrder_nodup (inOrder_filter hb _), ?_⟩
      intro x hx y hy hxy
      subst hxy
      rw [lessL, List.mem_filter] at hy
      simp [hx] at hy
  rw [hp.length_eq, List.length_append]

/-- Are labels in order, none twice? -/
def isB (l : List Str) : Bool := (List.range (l.length - 1)).all fun i => slt (l.getD i []) (l.getD (i + 1) [])
theorem isB_iff (l : List Str) : isB l = true ↔ ∀ i (h : i + 1 < l.length), slt l[i] l[i + 1] = true := by
  unfold isB
  rw [List.all_eq_true]
  constructor
  · intro h i hi
    have := h i (List.mem_range.2 (by omega))
    simpa [List.getD, hi, show i < l.length by omega] using this
  · intro h i hi
    have hi' := List.mem_range.1 hi
    have := h i (by omega)
    simpa [List.getD, show i < l.length by omega, show i + 1 < l.length by omega] using this
theorem isB_order (l : List Str) : isB l = true ↔ inOrder l := by
  rw [isB_iff]
  constructor
  · intro h
    unfold inOrder
    rw [List.pairwise_iff_getElem]
    intro i j hi hj hij
    induction j with
    | zero => omega
    | succ j ih =>
      rcases Nat.lt_or_ge i j with h1 | h1
      · exact slt_trans (ih (by omega) h1) (h j hj)
      · obtain rfl : i = j := by omega
        exact h i hj
  · intro h i hi
    exact List.pairwise_iff_getElem.1 h i (i + 1) (by omega) hi (by omega)
theorem isB_false {l : List Str} {i : Nat} (h : i + 1 < l.length) (hs : slt l[i] l[i + 1] = false) : isB l = false := by
  cases hb : isB l with
  | false => rfl
  | true => rw [(isB_iff l).1 hb i h] at hs; cases hs
end Go.Proofs.Ytpnihimoekkepaa
