/-
  Sets of labels, as lists in order: what sorting, adding and choosing make of them. About no program.
  A region that draws its order: what its guards leave out.
  The names that a core expression binds in a part, by the code.
  Sets of names as maps: joined, by the code.
  The free names of a core expression, by the code.
  The free names of a core expression as a list, by the code.
  The document's sets: one put in where it stands; the set of a list.
  Whether a core expression binds a name in a part, by the document's answer.
  The names that are free in a core expression, as they stand, by the document's answer.
  Whether two core expressions are alike, by the document's answer.
-/
import Derived.Test.YtpdfjdomjklkbaaGreatDoorK00
import Derived.Lib.SlicesCompact
import Derived.Lib.QuietBelow
import Derived.Maps.OwnSet
import Derived.Maps.RangeWalk
import Derived.Maps.Ext
import Derived.StringKeys
import Derived.Test.YtpdfjdomjklkbaaGreatDoorIter
import Derived.CallsIn
import Derived.Deep.CutRange
namespace Go.Proofs.YtpdfjdomjklkbaaGreatDoor
open Go.RowKit
set_option linter.unusedVariables false

/-- In order, none twice. -/
def inOrder (l : List Str) : Prop := l.Pairwise (fun a b => slt a b = true)

theorem inOrder_nil : inOrder [] := List.Pairwise.nil
theorem inOrder_ext : ∀ {a b : List Str}, inOrder a → inOrder b → (∀ x, x ∈ a ↔ x ∈ b) → a = b
  | [], [], _, _, _ => rfl
  | [], y :: b, _, _, h => by have := (h y).2 (by simp); cases this
  | x :: a, [], _, _, h => by have := (h x).1 (by simp); cases this
  | x :: a, y :: b, ha, hb, h => by
    have ha' := List.pairwise_cons.1 ha
    have hb' := List.pairwise_cons.1 hb
    have hxy : x = y := by
      rcases List.mem_cons.1 ((h x).1 (by simp)) with h1 | h1
      · exact h1
      · rcases List.mem_cons.1 ((h y).2 (by simp)) with h2 | h2
        · exact h2.symm
        · have h3 := hb'.1 x h1
          have h4 := ha'.1 y h2
          rw [slt_asymm h3] at h4
          cases h4
    subst hxy
    rw [inOrder_ext ha'.2 hb'.2 (fun z => ?_)]
    constructor
    · intro hz
      rcases List.mem_cons.1 ((h z).1 (by simp [hz])) with h1 | h1
      · subst h1; have := ha'.1 z hz; rw [slt_irrefl] at this; cases this
      · exact h1
    · intro hz
      rcases List.mem_cons.1 ((h z).2 (by simp [hz])) with h1 | h1
      · subst h1; have := hb'.1 z hz; rw [slt_irrefl] at this; cases this
      · exact h1

theorem inOrder_nodup {l : List Str} (h : inOrder l) : l.Nodup := h.imp fun hab => slt_ne hab
theorem inOrder_filter {l : List Str} (h : inOrder l) (p : Str → Bool) : inOrder (l.filter p) := List.Pairwise.filter p h

/-- What sort and compact make of labels. -/
def setOf (l : List Str) : List Str := Lib.compact (l.mergeSort fun x y => decide (x ≤ y))

theorem le_slt (a b : Str) : decide (a ≤ b) = !slt b a := by
  rw [slt_eq, Bool.eq_iff_iff]; simp

theorem sorted_ms (l : List Str) : (l.mergeSort fun x y => decide (x ≤ y)).Pairwise (fun a b => slt b a = false) := by
  have h := List.pairwise_mergeSort (le := fun x y : Str => decide (x ≤ y))
    (fun a b c h1 h2 => by simp only [decide_eq_true_eq] at *; exact List.le_trans h1 h2)
    (fun a b => by simp only [Bool.or_eq_true, decide_eq_true_eq]; exact List.le_total a b) l
  refine h.imp fun {a b} hab => ?_
  rw [le_slt] at hab
  simpa using hab

theorem compact_set (d : List Str) (hd : d.Pairwise (fun a b => slt b a = false)) :
    ∀ m, m ≤ d.length → inOrder (Lib.compactUpTo d.toArray m) ∧ ∀ x, x ∈ Lib.compactUpTo d.toArray m ↔ x ∈ d.take m
  | 0, _ => ⟨by simp [Lib.compactUpTo, inOrder], by simp [Lib.compactUpTo]⟩
  | m + 1, hm => by
    obtain ⟨h1, h2⟩ := compact_set d hd m (by omega)
    have hget : d.toArray[m]! = d[m] := by simp [getElem!_pos, show m < d.length by omega]
    rw [Lib.compactUpTo_succ, List.take_succ_eq_append_getElem (by omega), hget]
    rcases Nat.eq_zero_or_pos m with h0 | h0
    · subst h0
      have : Lib.compactUpTo d.toArray 0 = [] := by simp [Lib.compactUpTo]
      simp [this, Lib.keeps, inOrder]
    · have hget' : d.toArray[m - 1]! = d[m - 1] := by
        have : m - 1 < d.length := by omega
        simp [getElem!_pos, this]
      by_cases he : d[m] = d[m - 1]
      · have hk : Lib.keeps d.toArray m = false := Lib.keeps_neg h0 (by rw [hget, hget', he])
        rw [hk]
        simp only [Bool.false_eq_true, if_false, List.append_nil]
        refine ⟨h1, fun x => ?_⟩
        rw [h2 x, List.mem_append, List.mem_singleton]
        constructor
        · exact Or.inl
        · rintro (h | h)
          · exact h
          · subst h
            rw [he]
            exact List.mem_take_iff_getElem.2 ⟨m - 1, by omega, rfl⟩
      · have hk : Lib.keeps d.toArray m = true := Lib.keeps_pos (by rw [hget, hget']; exact he)
        rw [hk]
        simp only [if_true]
        have hlast : slt d[m - 1] d[m] = true := by
          cases hc : slt d[m - 1] d[m] with
          | true => rfl
          | false =>
            have h3 := List.pairwise_iff_getElem.1 hd (m - 1) m (by omega) (by omega) (by omega)
            exact absurd (slt_tri h3 hc) he
        refine ⟨?_, fun x => by rw [List.mem_append, List.mem_append, h2 x]⟩
        unfold inOrder
        rw [List.pairwise_append]
        refine ⟨h1, by simp, ?_⟩
        intro a ha b hb
        simp at hb
        subst hb
        obtain ⟨j, hj, rfl⟩ := List.mem_take_iff_getElem.1 ((h2 a).1 ha)
        rcases Nat.lt_or_ge j (m - 1) with hjm | hjm
        · have h3 := List.pairwise_iff_getElem.1 hd j (m - 1) (by omega) (by omega) hjm
          cases h4 : slt d[j] d[m - 1] with
          | true => exact slt_trans h4 hlast
          | false => rw [slt_tri h4 h3]; exact hlast
        · obtain rfl : j = m - 1 := by omega
          exact hlast

theorem setOf_order (l : List Str) : inOrder (setOf l) := (compact_set _ (sorted_ms l) _ (Nat.le_refl _)).1
theorem setOf_mem (l : List Str) (x : Str) : x ∈ setOf l ↔ x ∈ l := by
  have h := (compact_set _ (sorted_ms l) _ (Nat.le_refl _)).2 x
  rw [List.take_length] at h
  exact h.trans List.mem_mergeSort
theorem setOf_length_le (l : List Str) : (setOf l).length ≤ l.length := by
  unfold setOf Lib.compact Lib.compactUpTo
  rw [List.length_map]
  refine Nat.le_trans (List.length_filter_le _ _) ?_
  simp
theorem setOf_self {l : List Str} (h : inOrder l) : setOf l = l := inOrder_ext (setOf_order l) h (setOf_mem l)

/-- How many come before a label. -/
def offs (l : List Str) (s : Str) : Nat := l.countP (fun x => slt x s)
theorem offs_le (l : List Str) (s : Str) : offs l s ≤ l.length := List.countP_le_length
theorem offs_split : ∀ (l : List Str) (s : Str), inOrder l → (∀ x ∈ l.take (offs l s), slt x s = true) ∧ (∀ x ∈ l.drop (offs l s), slt x s = false)
  | [], s, _ => by simp [offs]
  | y :: l, s, h => by
    have h' := List.pairwise_cons.1 h
    obtain ⟨h1, h2⟩ := offs_split l s h'.2
    cases hy : slt y s with
    | true =>
      have e : offs (y :: l) s = offs l s + 1 := by simp [offs, hy]
      rw [e, List.take_succ_cons, List.drop_succ_cons]
      refine ⟨fun x hx => ?_, h2⟩
      rcases List.mem_cons.1 hx with rfl | hx
      · exact hy
      · exact h1 x hx
    | false =>
      have hall : ∀ x ∈ l, slt x s = false := by
        intro x hx
        cases hc : slt x s with
        | false => rfl
        | true => have := slt_trans (h'.1 x hx) hc; rw [hy] at this; cases this
      have e : offs (y :: l) s = 0 := by
        simp only [offs, List.countP_eq_zero]
        intro x hx
        rcases List.mem_cons.1 hx with rfl | hx
        · rw [hy]; simp
        · rw [hall x hx]; simp
      rw [e]
      refine ⟨by simp, fun x hx => ?_⟩
      rcases List.mem_cons.1 hx with rfl | hx
      · exact hy
      · exact hall x hx
/-- The place is told by what lies before it and behind. -/
theorem offs_unique (l : List Str) (s : Str) (i : Nat) (hi : i ≤ l.length) (h1 : ∀ k (h : k < i), slt (l[k]'(by omega)) s = true) (h2 : ∀ k (h : k < l.length), i ≤ k → slt l[k] s = false) : offs l s = i := by
  have e : l = l.take i ++ l.drop i := (List.take_append_drop i l).symm
  unfold offs
  rw [e, List.countP_append]
  have e1 : (l.take i).countP (fun x => slt x s) = (l.take i).length := by
    rw [List.countP_eq_length]
    intro x hx
    obtain ⟨k, hk, rfl⟩ := List.mem_take_iff_getElem.1 hx
    exact h1 k (by omega)
  have e2 : (l.drop i).countP (fun x => slt x s) = 0 := by
    rw [List.countP_eq_zero]
    intro x hx
    obtain ⟨k, hk, rfl⟩ := List.mem_drop_iff_getElem.1 hx
    rw [h2 (i + k) (by omega) (by omega)]
    simp
  rw [e1, e2, List.length_take]
  omega

/-- One comes where it stands. -/
def addL (l : List Str) (s : Str) : List Str := if s ∈ l then l else l.take (offs l s) ++ [s] ++ l.drop (offs l s)
theorem insert_order {l : List Str} {s : Str} (h : inOrder l) (hs : s ∉ l) : inOrder (l.take (offs l s) ++ [s] ++ l.drop (offs l s)) := by
  obtain ⟨h1, h2⟩ := offs_split l s h
  have e : l = l.take (offs l s) ++ l.drop (offs l s) := (List.take_append_drop _ l).symm
  have h0 := h
  rw [e] at h0
  obtain ⟨ha, hb, hab⟩ := List.pairwise_append.1 h0
  have h2' : ∀ x ∈ l.drop (offs l s), slt s x = true := by
    intro x hx
    cases hc : slt s x with
    | true => rfl
    | false =>
      have := slt_tri (h2 x hx) hc
      subst this
      exact absurd (List.mem_of_mem_drop hx) hs
  unfold inOrder
  rw [List.append_assoc, List.pairwise_append]
  refine ⟨ha, List.pairwise_cons.2 ⟨h2', hb⟩, fun a ha' b hb' => ?_⟩
  rcases List.mem_append.1 hb' with hb' | hb'
  · simp at hb'; subst hb'; exact h1 a ha'
  · exact hab a ha' b hb'
theorem addL_order {l : List Str} {s : Str} (h : inOrder l) : inOrder (addL l s) := by
  unfold addL
  split
  · exact h
  · rename_i hs; exact insert_order h hs
theorem addL_mem (l : List Str) (s x : Str) : x ∈ addL l s ↔ x ∈ l ∨ x = s := by
  unfold addL
  split
  · rename_i hs
    constructor
    · exact Or.inl
    · rintro (h | h)
      · exact h
      · subst h; exact hs
  · have e : x ∈ l ↔ x ∈ l.take (offs l s) ∨ x ∈ l.drop (offs l s) := by
      rw [← List.mem_append, List.take_append_drop]
    rw [List.mem_append, List.mem_append, List.mem_singleton, e]
    constructor
    · rintro ((h | h) | h)
      · exact .inl (.inl h)
      · exact .inr h
      · exact .inl (.inr h)
    · rintro ((h | h) | h)
      · exact .inl (.inl h)
      · exact .inr h
      · exact .inl (.inr h)
def ofTo (l : List Str) (k : Nat) : List Str := (l.take k).foldl addL []
theorem ofTo_succ (l : List Str) (k : Nat) (h : k < l.length) : ofTo l (k + 1) = addL (ofTo l k) l[k] := by
  unfold ofTo
  rw [List.take_succ_eq_append_getElem h, List.foldl_append]
  rfl
theorem ofTo_spec (l : List Str) : ∀ k, k ≤ l.length → inOrder (ofTo l k) ∧ ∀ x, x ∈ ofTo l k ↔ x ∈ l.take k
  | 0, _ => by simp [ofTo, inOrder]
  | k + 1, h => by
    obtain ⟨h1, h2⟩ := ofTo_spec l k (by omega)
    rw [ofTo_succ l k (by omega)]
    refine ⟨addL_order h1, fun x => ?_⟩
    rw [addL_mem, h2, List.take_succ_eq_append_getElem (by omega), List.mem_append, List.mem_singleton]
theorem ofTo_all (l : List Str) : ofTo l l.length = setOf l := by
  obtain ⟨h1, h2⟩ := ofTo_spec l l.length (Nat.le_refl _)
  rw [List.take_length] at h2
  exact inOrder_ext h1 (setOf_order l) fun x => (h2 x).trans (setOf_mem l x).symm
theorem addL_length (l : List Str) (s : Str) : (addL l s).length ≤ l.length + 1 := by
  unfold addL
  split
  · omega
  · simp only [List.length_append, List.length_take, List.length_drop, List.length_cons, List.length_nil]; omega
theorem ofTo_length (l : List Str) : ∀ k, k ≤ l.length → (ofTo l k).length ≤ k
  | 0, _ => by simp [ofTo]
  | k + 1, h => by
    rw [ofTo_succ l k (by omega)]
    have := addL_length (ofTo l k) l[k]
    have := ofTo_length l k (by omega)
    omega

/-- Those of the one that the other one hasn't; those of both. -/
def lessL (a b : List Str) : List Str := a.filter fun x => !decide (x ∈ b)
def meetL (a b : List Str) : List Str := a.filter fun x => decide (x ∈ b)
theorem less_less (a b : List Str) : lessL a (lessL a b) = meetL a b := by
  unfold lessL meetL
  apply List.filter_congr
  intro x hx
  by_cases h : x ∈ b <;> simp [hx, h]
theorem less_meet_length (a b : List Str) : a.length = (lessL a b).length + (meetL a b).length := by
  unfold lessL meetL
  induction a with
  | nil => rfl
  | cons x r ih =>
    by_cases h : x ∈ b <;> simp [h] <;> omega
theorem join_length {a b : List Str} (ha : inOrder a) (hb : inOrder b) : (setOf (a ++ b)).length = a.length + (lessL b a).length := by
  have hp : (setOf (a ++ b)).Perm (a ++ lessL b a) := by
    rw [List.perm_ext_iff_of_nodup (inOrder_nodup (setOf_order _))]
    · intro x
      rw [setOf_mem, List.mem_append, List.mem_append, lessL, List.mem_filter]
      by_cases h : x ∈ a <;> simp [h]
    · refine List.nodup_append.2 ⟨inOrder_nodup ha, inOrder_nodup (inOrder_filter hb _), ?_⟩
      intro x hx y hy hxy
      subst hxy
      rw [lessL, List.mem_filter] at hy
      simp [hx] at hy
  rw [hp.length_eq, List.length_append]

/-- Are labels in order, none twice? -/
def isB (l : List Str) : Bool := (List.range (l.length - 1)).all fun i => slt (l.getD i []) (l.getD (i + 1) [])
theorem isB_iff (l : List Str) : isB l = true ↔ ∀ i (h : i + 1 < l.length), slt l[i] l[i + 1] = true := by
  unfold isB
  rw [List.all_eq_true]
  constructor
  · intro h i hi
    have := h i (List.mem_range.2 (by omega))
    simpa [List.getD, hi, show i < l.length by omega] using this
  · intro h i hi
    have hi' := List.mem_range.1 hi
    have := h i (by omega)
    simpa [List.getD, show i < l.length by omega, show i + 1 < l.length by omega] using this
theorem isB_order (l : List Str) : isB l = true ↔ inOrder l := by
  rw [isB_iff]
  constructor
  · intro h
    unfold inOrder
    rw [List.pairwise_iff_getElem]
    intro i j hi hj hij
    induction j with
    | zero => omega
    | succ j ih =>
      rcases Nat.lt_or_ge i j with h1 | h1
      · exact slt_trans (ih (by omega) h1) (h j hj)
      · obtain rfl : i = j := by omega
        exact h i hj
  · intro h i hi
    exact List.pairwise_iff_getElem.1 h i (i + 1) (by omega) hi (by omega)
theorem isB_false {l : List Str} {i : Nat} (h : i + 1 < l.length) (hs : slt l[i] l[i + 1] = false) : isB l = false := by
  cases hb : isB l with
  | false => rfl
  | true => rw [(isB_iff l).1 hb i h] at hs; cases hs
end Go.Proofs.YtpdfjdomjklkbaaGreatDoor

namespace Go.Proofs.YtpdfjdomjklkbaaGreatDoor
open Go.ChangeShapes Go.WideShapes Go.ChangeAt Go.RowKit

/-- An operation that its guard leaves out, its slot empty already. -/
theorem wpQuiet_skip {P : Program} {ops : Array Oper} {C : World → Prop} {Q : Act → Prop} {a : Act} {o : Oper} {rest : List Oper} (h1 : Region.wanted o (yielded ops a.tmps) = false) (h2 : a.put o.dst undef = a) (h : wpQuiet P ops C Q rest a) : wpQuiet P ops C Q (o :: rest) a := by
  unfold wpQuiet
  rw [if_neg (by rw [h1]; simp), h2]
  exact h
end Go.Proofs.YtpdfjdomjklkbaaGreatDoor

namespace Go.Proofs.YtpdfjdomjklkbaaGreatDoor
open Go.ChangeShapes Go.WideShapes Go.ChangeAt Go.RowKit
set_option linter.unusedVariables false
set_option linter.unusedSimpArgs false

def BR (l : List Str) (w : World) (e : Ending) (w' : World) : Prop := ∃ A n c, e = .returned (.slice A n c) ∧ Rd w' 1 A n (strs l) ∧ n ≤ 4000000 ∧ Below w.heap.size w w'
theorem BR.nil {w : World} : BR [] w (.returned (.slice none 0 0)) w := ⟨none, 0, 0, rfl, Rd.nil _ _ _, by omega, Below.refl _ _⟩

set_option maxRecDepth 100000 in
set_option maxHeartbeats 1000000 in
theorem bound_4 (d : ExD) (l : List Ex) (b o : Nat) (i : Nat) (iv : Int) (hiv : iv = (i : Int)) (hi4 : i ≤ 4000000) (w : World) (h : d.At w b o) (hI : (Ex.mk d l).In w) (hk : d.kind = 4) (h0 : i = 0) : Calls Tryz.prog 33 #[.pointer (some ⟨b, o, none⟩), .int .i64 iv] w fun e w' => BR (d.boundF i) w e w' := by
  have HE := Lib.hid (show d.boundF i = [d.s] by unfold ExD.boundF; simp [hk, h0])
  have HI := Lib.hid (And.intro hI h)
  have c0 := h.c0
  have c2 := h.c2
  have c3 := h.c3
  have c4 := h.c4
  have HNN := Lib.hid hI.cap.1
  have hn4 : (d.nn : Int) ≤ 4000000 := by have : d.nn ≤ 4000000 := hI.cap.1.2.2; omega
  have HIV := Lib.hid hiv
  have q4 : (d.kind == 4) = true := by rw [hk]; rfl
  have q6 : (d.kind == 6) = false := by rw [hk]; rfl
  have q7 : (d.kind == 7) = false := by rw [hk]; rfl
  have q14 : (d.kind == 14) = false := by rw [hk]; rfl
  have i0 : (iv == 0) = true := by rw [beq_iff_eq]; omega
  clear hk hiv
  rw [HE.out]
  clear h hI HE
  go_enter Tryz.func33, Tryz.ntmps33
  go_wp2_with fail
  go_returns
  exact ⟨_, 1, 1, rfl, Rd.lit w #[.string (bstr d.s)] 9 rfl, by omega, (Below.refl _ _).alloc (Nat.le_refl _) _⟩

set_option maxRecDepth 100000 in
set_option maxHeartbeats 1000000 in
theorem bound_4n (d : ExD) (l : List Ex) (b o : Nat) (i : Nat) (iv : Int) (hiv : iv = (i : Int)) (hi4 : i ≤ 4000000) (w : World) (h : d.At w b o) (hI : (Ex.mk d l).In w) (hk : d.kind = 4) (h0 : ¬ i = 0) : Calls Tryz.prog 33 #[.pointer (some ⟨b, o, none⟩), .int .i64 iv] w fun e w' => BR (d.boundF i) w e w' := by
  have HE := Lib.hid (show d.boundF i = [] by unfold ExD.boundF; simp [hk, h0])
  have HI := Lib.hid (And.intro hI h)
  have c0 := h.c0
  have c2 := h.c2
  have c3 := h.c3
  have c4 := h.c4
  have HNN := Lib.hid hI.cap.1
  have hn4 : (d.nn : Int) ≤ 4000000 := by have : d.nn ≤ 4000000 := hI.cap.1.2.2; omega
  have HIV := Lib.hid hiv
  have q4 : (d.kind == 4) = true := by rw [hk]; rfl
  have q6 : (d.kind == 6) = false := by rw [hk]; rfl
  have q7 : (d.kind == 7) = false := by rw [hk]; rfl
  have q14 : (d.kind == 14) = false := by rw [hk]; rfl
  have i0 : (iv == 0) = false := by rw [beq_eq_false_iff_ne]; omega
  clear hk hiv
  rw [HE.out]
  clear h hI HE
  go_enter Tryz.func33, Tryz.ntmps33
  go_wp2_with fail
  go_returns
  exact BR.nil

set_option maxRecDepth 100000 in
set_option maxHeartbeats 1000000 in
theorem bound_6 (d : ExD) (l : List Ex) (b o : Nat) (i : Nat) (iv : Int) (hiv : iv = (i : Int)) (hi4 : i ≤ 4000000) (w : World) (h : d.At w b o) (hI : (Ex.mk d l).In w) (hk : d.kind = 6) (h0 : i = 1) : Calls Tryz.prog 33 #[.pointer (some ⟨b, o, none⟩), .int .i64 iv] w fun e w' => BR (d.boundF i) w e w' := by
  have HE := Lib.hid (show d.boundF i = [d.s] by unfold ExD.boundF; simp [hk, h0])
  have HI := Lib.hid (And.intro hI h)
  have c0 := h.c0
  have c2 := h.c2
  have c3 := h.c3
  have c4 := h.c4
  have HNN := Lib.hid hI.cap.1
  have hn4 : (d.nn : Int) ≤ 4000000 := by have : d.nn ≤ 4000000 := hI.cap.1.2.2; omega
  have HIV := Lib.hid hiv
  have q4 : (d.kind == 4) = false := by rw [hk]; rfl
  have q6 : (d.kind == 6) = true := by rw [hk]; rfl
  have q7 : (d.kind == 7) = false := by rw [hk]; rfl
  have q14 : (d.kind == 14) = false := by rw [hk]; rfl
  have i0 : (iv == 1) = true := by rw [beq_iff_eq]; omega
  clear hk hiv
  rw [HE.out]
  clear h hI HE
  go_enter Tryz.func33, Tryz.ntmps33
  go_wp2_with fail
  go_returns
  exact ⟨_, 1, 1, rfl, Rd.lit w #[.string (bstr d.s)] 9 rfl, by omega, (Below.refl _ _).alloc (Nat.le_refl _) _⟩

set_option maxRecDepth 100000 in
set_option maxHeartbeats 1000000 in
theorem bound_6n (d : ExD) (l : List Ex) (b o : Nat) (i : Nat) (iv : Int) (hiv : iv = (i : Int)) (hi4 : i ≤ 4000000) (w : World) (h : d.At w b o) (hI : (Ex.mk d l).In w) (hk : d.kind = 6) (h0 : ¬ i = 1) : Calls Tryz.prog 33 #[.pointer (some ⟨b, o, none⟩), .int .i64 iv] w fun e w' => BR (d.boundF i) w e w' := by
  have HE := Lib.hid (show d.boundF i = [] by unfold ExD.boundF; simp [hk, h0])
  have HI := Lib.hid (And.intro hI h)
  have c0 := h.c0
  have c2 := h.c2
  have c3 := h.c3
  have c4 := h.c4
  have HNN := Lib.hid hI.cap.1
  have hn4 : (d.nn : Int) ≤ 4000000 := by have : d.nn ≤ 4000000 := hI.cap.1.2.2; omega
  have HIV := Lib.hid hiv
  have q4 : (d.kind == 4) = false := by rw [hk]; rfl
  have q6 : (d.kind == 6) = true := by rw [hk]; rfl
  have q7 : (d.kind == 7) = false := by rw [hk]; rfl
  have q14 : (d.kind == 14) = false := by rw [hk]; rfl
  have i0 : (iv == 1) = false := by rw [beq_eq_false_iff_ne]; omega
  clear hk hiv
  rw [HE.out]
  clear h hI HE
  go_enter Tryz.func33, Tryz.ntmps33
  go_wp2_with fail
  go_returns
  exact BR.nil

set_option maxRecDepth 100000 in
set_option maxHeartbeats 1000000 in
theorem bound_71 (d : ExD) (l : List Ex) (b o : Nat) (i : Nat) (iv : Int) (hiv : iv = (i : Int)) (hi4 : i ≤ 4000000) (w : World) (h : d.At w b o) (hI : (Ex.mk d l).In w) (hk : d.kind = 7) (h0 : i = 1) : Calls Tryz.prog 33 #[.pointer (some ⟨b, o, none⟩), .int .i64 iv] w fun e w' => BR (d.boundF i) w e w' := by
  have HE := Lib.hid (show d.boundF i = [d.s] by unfold ExD.boundF; simp [hk, h0])
  have HI := Lib.hid (And.intro hI h)
  have c0 := h.c0
  have c2 := h.c2
  have c3 := h.c3
  have c4 := h.c4
  have HNN := Lib.hid hI.cap.1
  have hn4 : (d.nn : Int) ≤ 4000000 := by have : d.nn ≤ 4000000 := hI.cap.1.2.2; omega
  have HIV := Lib.hid hiv
  have q4 : (d.kind == 4) = false := by rw [hk]; rfl
  have q6 : (d.kind == 6) = false := by rw [hk]; rfl
  have q7 : (d.kind == 7) = true := by rw [hk]; rfl
  have q14 : (d.kind == 14) = false := by rw [hk]; rfl
  have i0 : (iv == 1) = true := by rw [beq_iff_eq]; omega
  clear hk hiv
  rw [HE.out]
  clear h hI HE
  go_enter Tryz.func33, Tryz.ntmps33
  go_wp2_with fail
  go_returns
  exact ⟨_, 1, 1, rfl, Rd.lit w #[.string (bstr d.s)] 9 rfl, by omega, (Below.refl _ _).alloc (Nat.le_refl _) _⟩

set_option maxRecDepth 100000 in
set_option maxHeartbeats 1000000 in
theorem bound_70 (d : ExD) (l : List Ex) (b o : Nat) (i : Nat) (iv : Int) (hiv : iv = (i : Int)) (hi4 : i ≤ 4000000) (w : World) (h : d.At w b o) (hI : (Ex.mk d l).In w) (hk : d.kind = 7) (h0 : i = 0) : Calls Tryz.prog 33 #[.pointer (some ⟨b, o, none⟩), .int .i64 iv] w fun e w' => BR (d.boundF i) w e w' := by
  have HE := Lib.hid (show d.boundF i = [d.s, d.t] by unfold ExD.boundF; simp [hk, h0])
  have HI := Lib.hid (And.intro hI h)
  have c0 := h.c0
  have c2 := h.c2
  have c3 := h.c3
  have c4 := h.c4
  have HNN := Lib.hid hI.cap.1
  have hn4 : (d.nn : Int) ≤ 4000000 := by have : d.nn ≤ 4000000 := hI.cap.1.2.2; omega
  have HIV := Lib.hid hiv
  have q4 : (d.kind == 4) = false := by rw [hk]; rfl
  have q6 : (d.kind == 6) = false := by rw [hk]; rfl
  have q7 : (d.kind == 7) = true := by rw [hk]; rfl
  have q14 : (d.kind == 14) = false := by rw [hk]; rfl
  have i0 : (iv == 1) = false := by rw [beq_eq_false_iff_ne]; omega
  have i1 : (iv == 0) = true := by rw [beq_iff_eq]; omega
  clear hk hiv
  rw [HE.out]
  clear h hI HE
  go_enter Tryz.func33, Tryz.ntmps33
  go_wp2_with fail
  go_region
  all_goals
    go_wp2_with fail
    go_returns
    exact ⟨_, 2, 2, rfl, (Rd.lit w #[.string (bstr d.s), .string (bstr d.t)] 9 rfl).drew, by omega, ((Below.refl w.heap.size w).alloc (Nat.le_refl _) _).drew⟩

set_option maxRecDepth 100000 in
set_option maxHeartbeats 1000000 in
theorem bound_7n (d : ExD) (l : List Ex) (b o : Nat) (i : Nat) (iv : Int) (hiv : iv = (i : Int)) (hi4 : i ≤ 4000000) (w : World) (h : d.At w b o) (hI : (Ex.mk d l).In w) (hk : d.kind = 7) (h0 : ¬ i = 0) (h1 : ¬ i = 1) : Calls Tryz.prog 33 #[.pointer (some ⟨b, o, none⟩), .int .i64 iv] w fun e w' => BR (d.boundF i) w e w' := by
  have HE := Lib.hid (show d.boundF i = [] by unfold ExD.boundF; simp [hk, h0, h1])
  have HI := Lib.hid (And.intro hI h)
  have c0 := h.c0
  have c2 := h.c2
  have c3 := h.c3
  have c4 := h.c4
  have HNN := Lib.hid hI.cap.1
  have hn4 : (d.nn : Int) ≤ 4000000 := by have : d.nn ≤ 4000000 := hI.cap.1.2.2; omega
  have HIV := Lib.hid hiv
  have q4 : (d.kind == 4) = false := by rw [hk]; rfl
  have q6 : (d.kind == 6) = false := by rw [hk]; rfl
  have q7 : (d.kind == 7) = true := by rw [hk]; rfl
  have q14 : (d.kind == 14) = false := by rw [hk]; rfl
  have i0 : (iv == 1) = false := by rw [beq_eq_false_iff_ne]; omega
  have i1 : (iv == 0) = false := by rw [beq_eq_false_iff_ne]; omega
  clear hk hiv
  rw [HE.out]
  clear h hI HE
  go_enter Tryz.func33, Tryz.ntmps33
  go_wp2_with fail
  go_returns
  exact BR.nil

set_option maxRecDepth 100000 in
set_option maxHeartbeats 1000000 in
theorem bound_14t (d : ExD) (l : List Ex) (b o : Nat) (i : Nat) (iv : Int) (hiv : iv = (i : Int)) (hi4 : i ≤ 4000000) (w : World) (h : d.At w b o) (hI : (Ex.mk d l).In w) (hk : d.kind = 14) (h0 : 2 * d.nn < i) : Calls Tryz.prog 33 #[.pointer (some ⟨b, o, none⟩), .int .i64 iv] w fun e w' => BR (d.boundF i) w e w' := by
  have HE := Lib.hid (show d.boundF i = [d.t] by unfold ExD.boundF; simp [hk, h0])
  have HI := Lib.hid (And.intro hI h)
  have c0 := h.c0
  have c2 := h.c2
  have c3 := h.c3
  have c4 := h.c4
  have HNN := Lib.hid hI.cap.1
  have hn4 : (d.nn : Int) ≤ 4000000 := by have : d.nn ≤ 4000000 := hI.cap.1.2.2; omega
  have HIV := Lib.hid hiv
  have q4 : (d.kind == 4) = false := by rw [hk]; rfl
  have q6 : (d.kind == 6) = false := by rw [hk]; rfl
  have q7 : (d.kind == 7) = false := by rw [hk]; rfl
  have q14 : (d.kind == 14) = true := by rw [hk]; rfl
  have i1 : 2 * (d.nn : Int) < iv := by omega
  have i4 : iv ≤ 4000000 := by omega
  clear hk hiv
  rw [HE.out]
  clear h hI HE
  go_enter Tryz.func33, Tryz.ntmps33
  go_wp2_with fail
  go_returns
  exact ⟨_, 1, 1, rfl, Rd.lit w #[.string (bstr d.t)] 9 rfl, by omega, (Below.refl _ _).alloc (Nat.le_refl _) _⟩

set_option maxRecDepth 100000 in
set_option maxHeartbeats 1000000 in
theorem bound_14z (d : ExD) (l : List Ex) (b o : Nat) (i : Nat) (iv : Int) (hiv : iv = (i : Int)) (hi4 : i ≤ 4000000) (w : World) (h : d.At w b o) (hI : (Ex.mk d l).In w) (hk : d.kind = 14) (h0 : i = 0) : Calls Tryz.prog 33 #[.pointer (some ⟨b, o, none⟩), .int .i64 iv] w fun e w' => BR (d.boundF i) w e w' := by
  have HE := Lib.hid (show d.boundF i = [] by unfold ExD.boundF; simp [hk, h0])
  have HI := Lib.hid (And.intro hI h)
  have c0 := h.c0
  have c2 := h.c2
  have c3 := h.c3
  have c4 := h.c4
  have HNN := Lib.hid hI.cap.1
  have hn4 : (d.nn : Int) ≤ 4000000 := by have : d.nn ≤ 4000000 := hI.cap.1.2.2; omega
  have HIV := Lib.hid hiv
  have q4 : (d.kind == 4) = false := by rw [hk]; rfl
  have q6 : (d.kind == 6) = false := by rw [hk]; rfl
  have q7 : (d.kind == 7) = false := by rw [hk]; rfl
  have q14 : (d.kind == 14) = true := by rw [hk]; rfl
  have i1 : ¬ 2 * (d.nn : Int) < iv := by omega
  have i2 : ¬ 0 < iv := by omega
  have i4 : iv ≤ 4000000 := by omega
  clear hk hiv
  rw [HE.out]
  clear h hI HE
  go_enter Tryz.func33, Tryz.ntmps33
  go_wp2_with fail
  all_goals
    go_returns
    exact BR.nil

set_option maxRecDepth 100000 in
set_option maxHeartbeats 1000000 in
theorem bound_14n (d : ExD) (l : List Ex) (b o : Nat) (i : Nat) (iv : Int) (hiv : iv = (i : Int)) (hi4 : i ≤ 4000000) (w : World) (h : d.At w b o) (hI : (Ex.mk d l).In w) (hk : d.kind = 14) (h0 : ¬ 2 * d.nn < i) (h1 : ¬ i % 2 = 0) : Calls Tryz.prog 33 #[.pointer (some ⟨b, o, none⟩), .int .i64 iv] w fun e w' => BR (d.boundF i) w e w' := by
  have HE := Lib.hid (show d.boundF i = [] by unfold ExD.boundF; rw [if_neg (by omega), if_neg (by omega), if_neg (by omega), if_neg (by omega)])
  have HI := Lib.hid (And.intro hI h)
  have c0 := h.c0
  have c2 := h.c2
  have c3 := h.c3
  have c4 := h.c4
  have HNN := Lib.hid hI.cap.1
  have hn4 : (d.nn : Int) ≤ 4000000 := by have : d.nn ≤ 4000000 := hI.cap.1.2.2; omega
  have HIV := Lib.hid hiv
  have q4 : (d.kind == 4) = false := by rw [hk]; rfl
  have q6 : (d.kind == 6) = false := by rw [hk]; rfl
  have q7 : (d.kind == 7) = false := by rw [hk]; rfl
  have q14 : (d.kind == 14) = true := by rw [hk]; rfl
  have i1 : ¬ 2 * (d.nn : Int) < iv := by omega
  have i2 : 0 < iv := by omega
  have i4 : iv ≤ 4000000 := by omega
  have i5 : (iv % 2 == 0) = false := by rw [beq_eq_false_iff_ne]; omega
  clear hk hiv
  rw [HE.out]
  clear h hI HE
  go_enter Tryz.func33, Tryz.ntmps33
  go_wp2_with fail
  all_goals
    go_returns
    exact BR.nil

set_option maxRecDepth 100000 in
set_option maxHeartbeats 1000000 in
theorem bound_14y (d : ExD) (l : List Ex) (b o : Nat) (i : Nat) (iv : Int) (hiv : iv = (i : Int)) (hi4 : i ≤ 4000000) (w : World) (h : d.At w b o) (hI : (Ex.mk d l).In w) (hk : d.kind = 14) (h0 : ¬ 2 * d.nn < i) (h1 : 0 < i) (h2 : i % 2 = 0) : Calls Tryz.prog 33 #[.pointer (some ⟨b, o, none⟩), .int .i64 iv] w fun e w' => BR (d.boundF i) w e w' := by
  have HE := Lib.hid (show d.boundF i = (d.names.drop (i / 2 - 1)).take 1 by unfold ExD.boundF; rw [if_neg (by omega), if_neg (by omega), if_neg (by omega), if_pos ⟨hk, h1, h2⟩])
  have HI := Lib.hid (And.intro hI h)
  have c0 := h.c0
  have c2 := h.c2
  have c3 := h.c3
  have c4 := h.c4
  have HNN := Lib.hid hI.cap.1
  have hn4 : (d.nn : Int) ≤ 4000000 := by have : d.nn ≤ 4000000 := hI.cap.1.2.2; omega
  have HIV := Lib.hid hiv
  have q4 : (d.kind == 4) = false := by rw [hk]; rfl
  have q6 : (d.kind == 6) = false := by rw [hk]; rfl
  have q7 : (d.kind == 7) = false := by rw [hk]; rfl
  have q14 : (d.kind == 14) = true := by rw [hk]; rfl
  have i1 : ¬ 2 * (d.nn : Int) < iv := by omega
  have i2 : 0 < iv := by omega
  have i4 : iv ≤ 4000000 := by omega
  have i5 : (iv % 2 == 0) = true := by rw [beq_iff_eq]; omega
  obtain ⟨j, hj⟩ : ∃ j, i / 2 - 1 = j := ⟨_, rfl⟩
  have hjn : j < d.names.length := by have h9 : d.names.length = d.nn := hI.namLen; omega
  have f0 : iv / 2 = (j : Int) + 1 := by omega
  obtain ⟨nb, no, hnA, hcs⟩ := Rd.str (show Rd w 1 d.nA d.nn (strs d.names) from hI.nam) hjn
  have hc := hcs j hjn
  have hjd : (d.names.drop j).take 1 = [d.names[j]] := by rw [List.drop_eq_getElem_cons hjn]; rfl
  obtain ⟨s, hs⟩ : ∃ s, d.names[j] = s := ⟨_, rfl⟩
  rw [hs] at hc hjd
  have j0 : (0 : Int) ≤ (j : Int) := by omega
  have j1 : (j : Int) < (d.nn : Int) := by have h9 : d.names.length = d.nn := hI.namLen; omega
  have j4 : (j : Int) ≤ 4000000 := by omega
  rw [hnA] at c4
  rw [hj, hjd] at HE
  clear hs hj hjn hcs hnA hjd h0 h1 h2
  clear hk hiv
  rw [HE.out]
  clear h hI HE
  go_enter Tryz.func33, Tryz.ntmps33
  go_wp2_with fail
  go_returns
  exact ⟨_, 1, 1, rfl, Rd.lit w #[.string (bstr s)] 9 rfl, by omega, (Below.refl _ _).alloc (Nat.le_refl _) _⟩

set_option maxRecDepth 100000 in
set_option maxHeartbeats 1000000 in
theorem bound_o (d : ExD) (l : List Ex) (b o : Nat) (i : Nat) (iv : Int) (hiv : iv = (i : Int)) (hi4 : i ≤ 4000000) (w : World) (h : d.At w b o) (hI : (Ex.mk d l).In w) (h4 : ¬ d.kind = 4) (h6 : ¬ d.kind = 6) (h7 : ¬ d.kind = 7) (h14 : ¬ d.kind = 14) : Calls Tryz.prog 33 #[.pointer (some ⟨b, o, none⟩), .int .i64 iv] w fun e w' => BR (d.boundF i) w e w' := by
  have HE := Lib.hid (show d.boundF i = [] by unfold ExD.boundF; simp [h4, h6, h7, h14])
  have HI := Lib.hid (And.intro hI h)
  have c0 := h.c0
  have c2 := h.c2
  have c3 := h.c3
  have c4 := h.c4
  have HNN := Lib.hid hI.cap.1
  have hn4 : (d.nn : Int) ≤ 4000000 := by have : d.nn ≤ 4000000 := hI.cap.1.2.2; omega
  have HIV := Lib.hid hiv
  have q4 : (d.kind == 4) = false := by simpa using h4
  have q6 : (d.kind == 6) = false := by simpa using h6
  have q7 : (d.kind == 7) = false := by simpa using h7
  have q14 : (d.kind == 14) = false := by simpa using h14
  clear h4 h6 h7 h14 hiv
  rw [HE.out]
  clear h hI HE
  go_enter Tryz.func33, Tryz.ntmps33
  go_wp2_with fail
  go_returns
  exact BR.nil

theorem bound_any (d : ExD) (l : List Ex) (b o : Nat) (i : Nat) (hi4 : i ≤ 4000000) (w : World) (h : d.At w b o) (hI : (Ex.mk d l).In w) : Calls Tryz.prog 33 #[.pointer (some ⟨b, o, none⟩), .int .i64 (i : Int)] w fun e w' => BR (d.boundF i) w e w' := by
  by_cases h4 : d.kind = 4
  · by_cases h0 : i = 0
    · exact bound_4 d l b o i _ rfl hi4 w h hI h4 h0
    · exact bound_4n d l b o i _ rfl hi4 w h hI h4 h0
  by_cases h6 : d.kind = 6
  · by_cases h0 : i = 1
    · exact bound_6 d l b o i _ rfl hi4 w h hI h6 h0
    · exact bound_6n d l b o i _ rfl hi4 w h hI h6 h0
  by_cases h7 : d.kind = 7
  · by_cases h1 : i = 1
    · exact bound_71 d l b o i _ rfl hi4 w h hI h7 h1
    · by_cases h0 : i = 0
      · exact bound_70 d l b o i _ rfl hi4 w h hI h7 h0
      · exact bound_7n d l b o i _ rfl hi4 w h hI h7 h0 h1
  by_cases h14 : d.kind = 14
  · by_cases h0 : 2 * d.nn < i
    · exact bound_14t d l b o i _ rfl hi4 w h hI h14 h0
    · by_cases h1 : i = 0
      · exact bound_14z d l b o i _ rfl hi4 w h hI h14 h1
      by_cases h2 : i % 2 = 0
      · exact bound_14y d l b o i _ rfl hi4 w h hI h14 h0 (by omega) h2
      · exact bound_14n d l b o i _ rfl hi4 w h hI h14 h0 h2
  · exact bound_o d l b o i _ rfl hi4 w h hI h4 h6 h7 h14
end Go.Proofs.YtpdfjdomjklkbaaGreatDoor

namespace Go.Proofs.YtpdfjdomjklkbaaGreatDoor
open Go.ChangeShapes Go.WideShapes Go.ChangeAt Go.RowKit Go.Sort Go.Maps
set_option linter.unusedVariables false
set_option linter.unusedSimpArgs false

theorem lawStr : Keyed Tryz.prog 9 := string_keyed Tryz.underlying9
theorem keyStr (x : Str) (h : x.length ≤ maxLen) : keyOf Tryz.prog 9 (.string (bstr x)) = some (.string x) := by
  have := Go.WideMaps.keyOf_string_mk (P := Tryz.prog) (k := 9) Tryz.underlying9 (s := bstr x) (by rw [bstr_size]; exact h)
  rw [this, bstr_data]
theorem keyStr_inv {key : Value} {kl : Lit} (h : keyOf Tryz.prog 9 key = some kl) : ∃ x : Str, x.length ≤ maxLen ∧ key = .string (bstr x) ∧ kl = .string x := by
  cases key <;> simp [keyOf, Tryz.underlying9, mapKey] at h
  rename_i s
  obtain ⟨hs, rfl⟩ := h
  refine ⟨s.data.toList, ?_, by rw [bstr_of], rfl⟩
  rw [Array.length_toList]; exact hs

/-- A map's keys, as a set. -/
def MS (w : World) (B n : Nat) (Q : Str → Bool) : Prop := ∃ D, w.ownsMap (H := Unit) Tryz.prog 9 unitElem B n D ∧ ∀ x : Str, x.length ≤ maxLen → Maps.has D (.string x) = Q x
theorem MS.below {w w' : World} {B n : Nat} {Q : Str → Bool} (h : MS w B n Q) (hb : RowKit.Below w.heap.size w w') : MS w' B n Q := by
  obtain ⟨D, h1, h2⟩ := h
  refine ⟨D, ?_, h2⟩
  have hlt := h1.lt
  obtain ⟨es, clock, hh, F, hs, hD⟩ := h1
  exact ⟨es, clock, (hb.block B hlt).trans hh, F, hs, hD⟩
theorem MS.lt {w : World} {B n : Nat} {Q : Str → Bool} (h : MS w B n Q) : B < w.heap.size := by obtain ⟨D, h1, _⟩ := h; exact h1.lt
theorem MS.mono {w : World} {B n n' : Nat} {Q Q' : Str → Bool} (h : MS w B n Q) (hn : n ≤ n') (hQ : ∀ x, x.length ≤ maxLen → Q x = Q' x) : MS w B n' Q' := by
  obtain ⟨D, h1, h2⟩ := h
  exact ⟨D, h1.mono hn, fun x hx => (h2 x hx).trans (hQ x hx)⟩
theorem has_put_str {D : DataW Unit} {x y : Str} (hD : IsMap D) (d : DataW Unit) : Maps.has (D.put (.string x) d) (.string y) = (decide (y = x) || Maps.has D (.string y)) := by
  by_cases h : y = x
  · subst h
    rw [has_put_same (k := .string y) hD trivial d, decide_eq_true rfl]; rfl
  · rw [has_put_other (by intro e; injection e with e; exact h e), decide_eq_false h]; rfl
theorem has_del_str {D : DataW Unit} {x y : Str} : Maps.has (D.del (.string x)) (.string y) = (!decide (y = x) && Maps.has D (.string y)) := by
  by_cases h : y = x
  · subst h
    rw [has_del_same, decide_eq_true rfl]; rfl
  · rw [has_del_other (by intro e; injection e with e; exact h e), decide_eq_false h]; rfl
theorem same_str (x y : Str) : (Lit.string y).sameKey (.string x) = decide (y = x) := by
  show (y == x) = _
  rw [Bool.eq_iff_iff]; simp

/-- Where the joining stands: a's map has what a had, and what of b's has come. -/
structure UN (w0 : World) (Ba Bb r nb N : Nat) (Qa : Str → Bool) (Db : DataW Unit) (left : Lit → Bool) (cnt m : Nat) (w : World) : Prop where
  rg : w.ranges Tryz.prog 9 (unitElem (H := Unit)) Bb r nb Db left cnt
  own : ∃ Da, w.ownsMap (H := Unit) Tryz.prog 9 unitElem Ba m Da ∧ ∀ x : Str, x.length ≤ maxLen → Maps.has Da (.string x) = (Qa x || (Maps.has Db (.string x) && !left (.string x)))
  le : m + cnt ≤ N
  b : ∀ M, M ≤ Ba → M ≤ Bb → M ≤ w0.heap.size → RowKit.Below M w0 w
theorem below_grown_some {w0 w w1 : World} {M j : Nat} (h : RowKit.Below M w0 w) (hg : w.grownBy w1 (some j)) (hj : M ≤ j) (hs : M ≤ w.heap.size) : RowKit.Below M w0 w1 :=
  ⟨hg.os.trans h.os, hg.tape.trans h.tape, hg.output.trans h.output, Nat.le_trans h.size hg.size, fun k hk => (hg.block k (by omega) (fun e => by injection e with e; omega)).trans (h.block k hk)⟩
theorem below_grown_none {w w1 : World} (hg : w.grownBy w1 none) : RowKit.Below w.heap.size w w1 :=
  ⟨hg.os, hg.tape, hg.output, hg.size, fun k hk => hg.block k hk (fun e => by cases e)⟩

theorem UN.start {w w0 : World} {Ba Bb na nb : Nat} {Qa : Str → Bool} {Da Db : DataW Unit} (hA : w.ownsMap (H := Unit) Tryz.prog 9 unitElem Ba na Da) (hQ : ∀ x : Str, x.length ≤ maxLen → Maps.has Da (.string x) = Qa x)
    (hrg : w0.ranges Tryz.prog 9 (unitElem (H := Unit)) Bb w.heap.size nb Db (Maps.has Db) (Maps.size Db)) (hg : w.grownBy w0 none) (hs : Maps.size Db ≤ nb) : UN w Ba Bb w.heap.size nb (na + nb) Qa Db (Maps.has Db) (Maps.size Db) na w0 :=
  ⟨hrg, ⟨Da, hA.kept hg (by simp), fun x hx => by rw [hQ x hx]; cases Maps.has Db (.string x) <;> simp⟩, by omega, fun M h1 h2 h3 => (below_grown_none hg).mono h3⟩
theorem UN.next {w w1 w2 w3 : World} {Ba Bb r nb N cnt cnt' m : Nat} {Qa : Str → Bool} {Db : DataW Unit} {left : Lit → Bool} (h : UN w Ba Bb r nb N Qa Db left cnt m w1) (hr : w.heap.size ≤ r) (hab : Ba ≠ Bb) (har : Ba ≠ r) {x : Str} (hl : left (.string x) = true) (hh : Maps.has Db (.string x) = true)
    (hrg : w2.ranges Tryz.prog 9 (unitElem (H := Unit)) Bb r nb Db (fun z => left z && !z.sameKey (.string x)) cnt') (hlt : cnt' < cnt) (hg : w1.grownBy w2 (some r)) {Da : DataW Unit} (hQ : ∀ y : Str, y.length ≤ maxLen → Maps.has Da (.string y) = (Qa y || (Maps.has Db (.string y) && !left (.string y))))
    (hm : IsMap Da) (ho : w3.ownsMap (H := Unit) Tryz.prog 9 unitElem Ba (m + 1) (Da.put (.string x) (.agg []))) (hg3 : w2.grownBy w3 (some Ba)) :
    UN w Ba Bb r nb N Qa Db (fun z => left z && !z.sameKey (.string x)) cnt' (m + 1) w3 := by
  have hle := h.le
  refine ⟨hrg.kept hg3 (by intro e; injection e with e; exact hab e.symm) (by intro e; injection e with e; exact har e.symm), ⟨_, ho, fun y hy => ?_⟩, by omega, fun M h1 h2 h3 => ?_⟩
  · rw [has_put_str hm, hQ y hy]
    show _ = (Qa y || (Maps.has Db (.string y) && !(left (.string y) && !(Lit.string y).sameKey (.string x))))
    rw [same_str]
    by_cases e : y = x
    · subst e; simp [hl, hh]
    · simp [e]
  · have s1 := (h.b M h1 h2 h3).size
    exact below_grown_some (below_grown_some (h.b M h1 h2 h3) hg (by omega) (by omega)) hg3 h1 (by have := hg.size; omega)

set_option maxRecDepth 100000 in
set_option maxHeartbeats 1000000 in
theorem union_as (sw : Bool) (B1 B2 n1 n2 Ba Bb na nb : Nat) (Q1 Q2 Qa Qb : Str → Bool) (D1 D2 : DataW Unit) (w : World) (hne : B1 ≠ B2) (h1 : ∀ x : Str, x.length ≤ maxLen → Maps.has D1 (.string x) = Q1 x) (h2 : ∀ x : Str, x.length ≤ maxLen → Maps.has D2 (.string x) = Q2 x) (hn : n1 + n2 < maxLen)
    (hD1 : w.ownsMap (H := Unit) Tryz.prog 9 unitElem B1 n1 D1) (hD2 : w.ownsMap (H := Unit) Tryz.prog 9 unitElem B2 n2 D2)
    (hq : decide (Maps.size D1 < Maps.size D2) = sw)
    (hs : (sw = true ∧ Ba = B2 ∧ Bb = B1 ∧ na = n2 ∧ nb = n1 ∧ Qa = Q2 ∧ Qb = Q1) ∨ (sw = false ∧ Ba = B1 ∧ Bb = B2 ∧ na = n1 ∧ nb = n2 ∧ Qa = Q1 ∧ Qb = Q2)) :
    Calls Tryz.prog 34 #[.map (some B1), .map (some B2)] w fun e w' => e = .returned (.map (some Ba)) ∧ MS w' Ba (n1 + n2) (fun x => Q1 x || Q2 x) ∧ ∀ M, M ≤ B1 → M ≤ B2 → M ≤ w.heap.size → RowKit.Below M w w' := by
  -- in words of a and b
  obtain ⟨Da, Db, hA, hB, hQA, hQB, hab, hnn, hfin, hM⟩ : ∃ Da Db, w.ownsMap (H := Unit) Tryz.prog 9 unitElem Ba na Da ∧ w.ownsMap (H := Unit) Tryz.prog 9 unitElem Bb nb Db ∧ (∀ x : Str, x.length ≤ maxLen → Maps.has Da (.string x) = Qa x) ∧ (∀ x : Str, x.length ≤ maxLen → Maps.has Db (.string x) = Qb x) ∧ Ba ≠ Bb ∧ na + nb = n1 + n2 ∧ (∀ x, (Qa x || Qb x) = (Q1 x || Q2 x)) ∧ ∀ M, M ≤ B1 → M ≤ B2 → M ≤ Ba ∧ M ≤ Bb := by
    rcases hs with ⟨_, rfl, rfl, rfl, rfl, rfl, rfl⟩ | ⟨_, rfl, rfl, rfl, rfl, rfl, rfl⟩
    · exact ⟨D2, D1, hD2, hD1, h2, h1, Ne.symm hne, Nat.add_comm _ _, fun x => Bool.or_comm _ _, fun M a b => ⟨b, a⟩⟩
    · exact ⟨D1, D2, hD1, hD2, h1, h2, hne, rfl, fun x => rfl, fun M a b => ⟨a, b⟩⟩
  have l1 := fun ty => hD1.len Tryz.underlying46 ty
  have l2 := fun ty => hD2.len Tryz.underlying46 ty
  have HAB := Lib.hid (And.intro hA (And.intro hB (And.intro hQA (And.intro hQB (And.intro hab (And.intro hnn (And.intro hfin hM)))))))
  have HN := Lib.hid hn
  clear hA hB hQA hQB hab hnn hfin hM hn h1 h2 hD1 hD2 hne
  rcases hs with ⟨rfl, rfl, rfl, rfl, rfl, rfl, rfl⟩ | ⟨rfl, rfl, rfl, rfl, rfl, rfl, rfl⟩
  all_goals
    have hqp := hq
    simp only [decide_eq_true_eq, decide_eq_false_iff_not] at hqp
    go_enter Tryz.func34, Tryz.ntmps34
    go_wp2_with (first
      | (at_range; refine wpList_range_own _ rfl _ 46 rfl 9 47 lawStr Tryz.underlying46 (unitElem (H := Unit)) _ _ _ rfl HAB.out.2.1 ?_; intro w0 hrg0 hg0 hs0)
      | fail)
    have HSB := Lib.hid hrg0.owns.size_le
    have H0 := Lib.hid (UN.start HAB.out.1 HAB.out.2.2.1 hrg0 hg0 (by have := HSB.out; omega))
    clear hrg0 hg0 hs0 l1 l2 hq hqp
    have HRW := Lib.hid (show w.heap.size = w.heap.size from rfl)
    obtain ⟨r, hr⟩ : ∃ r, w.heap.size = r := ⟨_, rfl⟩
    rw [hr] at H0 ⊢
    have HR := Lib.hid (And.intro (Nat.le_of_eq hr) (And.intro (show Ba ≠ r from fun e => by have := HAB.out.1.lt; omega) HAB.out.2.2.2.2.1))
    clear hr
    try go_frame
    go_loopw [5] (fun _ wr => ∃ left cnt m, UN w Ba Bb r nb (na + nb) Qa Db left cnt m wr) (fun _ wr => wr.rangeLeft Bb r)
    case atStart => exact ⟨_, _, _, H0.out⟩
    case round =>
      obtain ⟨left, cnt, m, hU⟩ := hrel
      have HU := Lib.hid hU
      clear hU
      go_wp2_with (first
        | (at_next; refine wpList_next_ranges _ rfl _ rfl 9 lawStr (unitElem (H := Unit)) (fun x : ByteArray => Value.string x) (fun _ : Unit => Value.agg #[]) (fun key kl h => by obtain ⟨x, _, rfl, _⟩ := keyStr_inv h; exact ⟨_, rfl⟩) (fun v y h => ⟨(), (unitElem_inv h).1⟩) Bb r nb _ _ _ rfl HU.out.rg ?_ ?_)
        | fail)
      · intro _ hl0
        have HL0 := Lib.hid hl0
        clear hl0
        go_wp2_with fail
        go_returns
        obtain ⟨D, ho, hQ⟩ := HU.out.own
        have hsz := HU.out.le
        refine ⟨rfl, ⟨D, ho.mono (by omega), fun x hx => ?_⟩, fun M h1 h2 h3 => HU.out.b M (by omega) (by omega) h3⟩
        rw [hQ x hx, HL0.out, HAB.out.2.2.2.1 x hx]
        first | (simp; done) | (simp; exact Bool.or_comm _ _)
      · intro x c kl y w1 cnt1 hkey hlx hy hat hrg1 hlt hg1 hs1 hen
        obtain ⟨xs, hxs, hx1, rfl⟩ := keyStr_inv hkey
        injection hx1 with hx1
        subst hx1
        have hh := has_true_of_atKey hat
        obtain ⟨Da2, hown, hQ⟩ := HU.out.own
        have hcnt := HU.out.le
        obtain ⟨w3, hrun, hown3, hg3⟩ := (hown.kept hg1 (by intro e; injection e with e; exact HR.out.2.1 e)).update lawStr Tryz.underlying46 (by have := HN.out; omega) (keyStr xs hxs) (unitElem_mk (H := Unit))
        have HX := Lib.hid (HU.out.next HR.out.1 HR.out.2.2 HR.out.2.1 hlx hh hrg1 hlt hg1 hQ hown.isMap hown3 hg3)
        have HM := Lib.hid (And.intro hrg1 hlt)
        clear hkey hlx hy hat hrg1 hlt hg1 hs1 hh hown hQ hcnt hown3 hg3
        go_wp2_with fail
        go_roundw
        case rel => exact ⟨_, cnt1, m + 1, HX.out⟩
        case measure => rw [HX.out.rg.left_eq, HU.out.rg.left_eq]; exact HM.out.2

theorem union_any (B1 B2 n1 n2 : Nat) (Q1 Q2 : Str → Bool) (w : World) (hne : B1 ≠ B2) (h1 : MS w B1 n1 Q1) (h2 : MS w B2 n2 Q2) (hn : n1 + n2 < maxLen) :
    Calls Tryz.prog 34 #[.map (some B1), .map (some B2)] w fun e w' => ∃ B, e = .returned (.map (some B)) ∧ (B = B1 ∨ B = B2) ∧ MS w' B (n1 + n2) (fun x => Q1 x || Q2 x) ∧ ∀ M, M ≤ B1 → M ≤ B2 → M ≤ w.heap.size → RowKit.Below M w w' := by
  obtain ⟨D1, hD1, hQ1⟩ := h1
  obtain ⟨D2, hD2, hQ2⟩ := h2
  cases hq : decide (Maps.size D1 < Maps.size D2) with
  | true => exact (union_as true B1 B2 n1 n2 B2 B1 n2 n1 Q1 Q2 Q2 Q1 D1 D2 w hne hQ1 hQ2 hn hD1 hD2 hq (.inl ⟨rfl, rfl, rfl, rfl, rfl, rfl, rfl⟩)).mono fun e w' ⟨a, b, c⟩ => ⟨B2, a, .inr rfl, b, c⟩
  | false => exact (union_as false B1 B2 n1 n2 B1 B2 n1 n2 Q1 Q2 Q1 Q2 D1 D2 w hne hQ1 hQ2 hn hD1 hD2 hq (.inr ⟨rfl, rfl, rfl, rfl, rfl, rfl, rfl⟩)).mono fun e w' ⟨a, b, c⟩ => ⟨B1, a, .inl rfl, b, c⟩
end Go.Proofs.YtpdfjdomjklkbaaGreatDoor

namespace Go.Proofs.YtpdfjdomjklkbaaGreatDoor
open Go.ChangeShapes Go.WideShapes Go.ChangeAt Go.RowKit Go.Sort Go.Maps
open Go.ChangeMaps (setBlock heap_setBlock_same heap_setBlock_other)
set_option linter.unusedVariables false
set_option linter.unusedSimpArgs false

theorem turned_cell {w w' : World} {b : Nat} (h : w.mapTurned w' b) (p : Addr) : w'.cell? p = w.cell? p := by
  obtain ⟨es, clock, es', clock', hb, rfl⟩ := h
  unfold World.cell?
  by_cases e : p.block = b
  · rw [e, heap_setBlock_same hb, hb]
  · rw [heap_setBlock_other hb _ e]
theorem turned_below {a w w' : World} {b M : Nat} (h : w.mapTurned w' b) (hb : RowKit.Below M a w) (hM : M ≤ b) (hs : M ≤ a.heap.size) : RowKit.Below M a w' :=
  below_grown_some hb h.grown hM (Nat.le_trans hs hb.size)
theorem MS.del {w : World} {B n : Nat} {Q : Str → Bool} {D : DataW Unit} {x : Str} (h : w.ownsMap (H := Unit) Tryz.prog 9 unitElem B n (D.del (.string x))) (hQ : ∀ y : Str, y.length ≤ maxLen → Maps.has D (.string y) = Q y) : MS w B n (fun y => !decide (y = x) && Q y) :=
  ⟨_, h, fun y hy => by rw [has_del_str, hQ y hy]⟩
theorem MS.kept {w w' : World} {B Bp n : Nat} {Q : Str → Bool} (h : MS w B n Q) (ht : w.mapTurned w' Bp) (hne : B ≠ Bp) : MS w' B n Q := by
  obtain ⟨D, h1, h2⟩ := h
  exact ⟨D, h1.kept ht.grown (by intro e; injection e with e; exact hne e), h2⟩
theorem boundF_len {d : ExD} (hs : d.s.length ≤ 4000000) (ht : d.t.length ≤ 4000000) (hn : ∀ s ∈ d.names, s.length ≤ 4000000) (i : Nat) : ∀ y ∈ d.boundF i, y.length ≤ 4000000 := by
  intro y hy
  unfold ExD.boundF at hy
  split at hy
  · simp at hy; rw [hy]; exact hs
  split at hy
  · simp at hy; rcases hy with h | h
    · rw [h]; exact hs
    · rw [h]; exact ht
  split at hy
  · simp at hy; rw [hy]; exact ht
  split at hy
  · exact hn y (List.mem_of_mem_drop (List.mem_of_mem_take hy))
  · simp at hy
theorem MS.own {d : ExD} {w2 : World} {B n : Nat} (h : d.kind = 3) (hs : d.s.length ≤ maxLen) (h2 : w2.ownsMap (H := Unit) Tryz.prog 9 unitElem B n ((DataW.map []).put (.string d.s) (.agg []))) : MS w2 B n (fun x => decide (d.kind = 3) && decide (x = d.s)) :=
  ⟨_, h2, fun x hx => by rw [has_put_str (D := .map []) (by first | trivial | exact ⟨_, rfl⟩), decide_eq_true h]; show (decide (x = d.s) || false) = _; simp⟩
theorem MS.none {d : ExD} {w2 : World} {B n : Nat} (h : ¬ d.kind = 3) (h2 : w2.ownsMap (H := Unit) Tryz.prog 9 unitElem B n (.map [])) : MS w2 B n (fun x => decide (d.kind = 3) && decide (x = d.s)) :=
  ⟨_, h2, fun x hx => by rw [decide_eq_false h]; rfl⟩

set_option maxRecDepth 100000 in
set_option maxHeartbeats 2000000 in
theorem free_any (w0 : World) (t : Ex) (hIn : t.In w0) :
    ∀ (b o : Nat) (w : World), t.d.At w0 b o → Below w0.heap.size w0 w → t.nodes ≤ 4000000 →
    Calls Tryz.prog 19 #[.pointer (some ⟨b, o, none⟩)] w fun e w' => ∃ B, e = .returned (.map (some B)) ∧ w.heap.size ≤ B ∧ MS w' B t.nodes t.freeB ∧ Below w.heap.size w w' := by
  induction hIn with
  | mk d l nam par cap sub ih =>
  intro b o w hAt0 hb hnd
  have hAt : d.At w b o := (show d.At w0 b o from hAt0).lower hb
  have hII : (Ex.mk d l).In w0 := .mk d l nam par cap sub
  have hlen : l.length = d.pn := by have := par.1; rw [flat_len Ex.cells_len] at this; omega
  have c0 := hAt.c0
  have c2 := hAt.c2
  have hbm : Below w.heap.size w (w.alloc (.map #[] 0)) := (Below.refl _ _).alloc (Nat.le_refl _) _
  have c0m := cell_below hbm c0
  have c2m := cell_below hbm c2
  have hown0 := World.ownsMap_made (H := Unit) w Tryz.prog 9 unitElem
  have hsl : d.s.length ≤ maxLen := by
    have := cap.2.2.1
    have e : (4000000 : Nat) ≤ maxLen := by decide
    omega
  have hmm := @run_makeMap Tryz.prog
  by_cases hk : d.kind = 3
  · obtain ⟨w2, hrun, hown2, hg2⟩ := hown0.update lawStr Tryz.underlying46 (by decide) (keyStr d.s hsl) (unitElem_mk (H := Unit))
    have hbw : Below w.heap.size w w2 := below_grown_some hbm hg2 (Nat.le_refl _) hbm.size
    have HX := Lib.hid (And.intro (MS.own hk hsl hown2) hbw)
    have hkb : (d.kind == 3) = true := by simpa using hk
    clear hown0 hown2 hg2 hbw hk hsl hbm c0 c2
    have c5 := (hAt.lower HX.out.2).c5
    go_enter Tryz.func19, Tryz.ntmps19
    go_wp2_with fail
    clear hmm hrun c0m c2m hkb c5
    have HAll := Lib.hid (And.intro hb (And.intro hAt (And.intro hAt0 (And.intro hII (And.intro hlen hnd)))))
    have HCAP := Lib.hid cap
    have HIH := Lib.hid (And.intro sub ih)
    clear hb hAt hAt0 hII hlen hnd nam par cap sub ih
    try go_frame
    go_loopw [25, 3] (fun i a wr => ∃ m B : Nat, i = .int .i64 m ∧ a = .map (some B) ∧ m ≤ d.pn ∧ w.heap.size ≤ B ∧ MS wr B (1 + enodesL (l.take m)) (fun x => (decide (d.kind = 3) && decide (x = d.s)) || freeLB d (l.take m) 0 x) ∧ Below w.heap.size w wr) (fun i _ _ => d.pn - (intOf i).toNat)
    case atStart => exact ⟨0, w.heap.size, rfl, rfl, Nat.zero_le _, Nat.le_refl _, HX.out.1.mono (by omega) (fun x _ => by simp [freeLB]), HX.out.2⟩
    case round =>
      obtain ⟨m, B, rfl, rfl, hm, hB, hMS, hbr⟩ := hrel
      have HJ := Lib.hid (And.intro hB (And.intro hMS hbr))
      clear hB hMS hbr
      by_cases hlt : m < d.pn
      · have hml : m < l.length := by rw [HAll.out.2.2.2.2.1]; exact hlt
        have hb0 : Below w0.heap.size w0 wr := HAll.out.1.trans (HJ.out.2.2.mono HAll.out.1.size)
        obtain ⟨pb, po, hpA, hAtP⟩ := HAll.out.2.2.2.1.part (k := m) hml
        have hpA' : d.pA = some ⟨pb, po, none⟩ := hpA
        have hAtM : (l[m]).d.At w0 pb (po + m * 6) := hAtP m hml
        have c5 := (HAll.out.2.1.lower HJ.out.2.2).c5
        rw [hpA'] at c5
        have hlti : (m : Int) < (d.pn : Int) := by omega
        have hmi : (m : Int) ≤ 4000000 := by have := HCAP.out.2.1.2.2; omega
        obtain ⟨x, hx⟩ : ∃ x, l[m] = x := ⟨_, rfl⟩
        rw [hx] at hAtM
        have hxm : x ∈ l := by rw [← hx]; exact List.getElem_mem hml
        have htk : l.take (m + 1) = l.take m ++ [x] := by rw [List.take_succ_eq_append_getElem hml, hx]
        have hnx : 1 + enodesL (l.take m) + x.nodes ≤ 4000000 := by
          have h1 := enodesL_take l (m + 1)
          rw [htk, enodesL_snoc] at h1
          have h2 := HAll.out.2.2.2.2.2
          simp only [Ex.nodes] at h2
          omega
        have HM := Lib.hid (HIH.out.2 x hxm pb (po + m * 6) wr hAtM hb0 (by omega))
        have HS := Lib.hid (And.intro htk (And.intro hnx (And.intro hb0 (And.intro hlt hml))))
        clear hpA hpA' hAtP hAtM hx hxm htk hnx hml hb0
        go_wp2_with fail
        refine HM.out.mono ?_
        rintro e w3 ⟨Bp, rfl, hBp, hMp, hb3⟩
        have hb3w : Below w.heap.size w w3 := HJ.out.2.2.trans (hb3.mono HJ.out.2.2.size)
        have HBD := Lib.hid (bound_any d l b o m (by omega) w3 (HAll.out.2.1.lower hb3w) (HAll.out.2.2.2.1.lower (HS.out.2.2.1.trans (hb3.mono HS.out.2.2.1.size))))
        have H3 := Lib.hid (And.intro hBp (And.intro hMp (And.intro hb3 hb3w)))
        clear HM hBp hMp hb3 hb3w c5
        go_wp2_with fail
        refine HBD.out.mono ?_
        rintro e w4 ⟨A, n, c, rfl, hrd, hn4, hb4⟩
        have hBne : B ≠ Bp := by have := HJ.out.2.1.lt; have := H3.out.1; omega
        have hBp' : w.heap.size ≤ Bp := by have := H3.out.1; have := HJ.out.2.2.size; omega
        have hbl := boundF_len HCAP.out.2.2.1 HCAP.out.2.2.2.1 HCAP.out.2.2.2.2 m
        obtain ⟨bd, hbd⟩ : ∃ bd, d.boundF m = bd := ⟨_, rfl⟩
        rw [hbd] at hrd hbl
        have hln : bd.length = n := rd_len hrd
        have HB4 := Lib.hid (And.intro hrd (And.intro hb4 (And.intro hBne (And.intro hBp' (And.intro hbl (And.intro hbd hln))))))
        clear HBD hrd hb4 hBne hBp' hbl hbd hln
        go_wp2_with fail
        try go_frame
        go_loopw [39] (fun i wq => ∃ k : Nat, i = .int .i64 k ∧ k ≤ n ∧ MS wq Bp x.nodes (fun y => x.freeB y && !decide (y ∈ bd.take k)) ∧ MS wq B (1 + enodesL (l.take m)) (fun y => (decide (d.kind = 3) && decide (y = d.s)) || freeLB d (l.take m) 0 y) ∧ Rd wq 1 A n (strs bd) ∧ Below w.heap.size w wq) (fun i _ => n - (intOf i).toNat)
        case atStart => exact ⟨0, rfl, Nat.zero_le _, (H3.out.2.1.below HB4.out.2.1).mono (Nat.le_refl _) (fun y _ => by simp), (HJ.out.2.1.below H3.out.2.2.1).below HB4.out.2.1, HB4.out.1, H3.out.2.2.2.trans (HB4.out.2.1.mono H3.out.2.2.2.size)⟩
        case round =>
          obtain ⟨k, rfl, hk, hMp, hMB, hrd, hbk⟩ := hrel
          have HK := Lib.hid (And.intro hMB (And.intro hrd hbk))
          by_cases hkn : k < n
          · have hkl : k < bd.length := by rw [HB4.out.2.2.2.2.2.2]; exact hkn
            obtain ⟨ab, ao, rfl, hcs⟩ := hrd.str hkl
            have hc := hcs k hkl
            have hkni : (k : Int) < (n : Int) := by omega
            have hki : (k : Int) ≤ 4000000 := by omega
            obtain ⟨s, hs⟩ : ∃ s, bd[k] = s := ⟨_, rfl⟩
            rw [hs] at hc
            have hsl : s.length ≤ maxLen := by
              have := HB4.out.2.2.2.2.1 s (by rw [← hs]; exact List.getElem_mem hkl)
              have e : (4000000 : Nat) ≤ maxLen := by decide
              omega
            have htk : bd.take (k + 1) = bd.take k ++ [s] := by rw [List.take_succ_eq_append_getElem hkl, hs]
            obtain ⟨Dp, hown, hQp⟩ := hMp
            have HD := Lib.hid (And.intro hown (And.intro hQp (And.intro hsl htk)))
            clear hMB hrd hbk hcs hs hown hQp hsl htk hkl
            go_wp2_with (first
              | (at_delete; refine wpList_delete_own _ rfl _ _ 46 9 rfl _ lawStr Tryz.underlying46 _ Bp _ Dp rfl HD.out.1 _ _ rfl (keyStr s HD.out.2.2.1) ?_; intro w5 hown5 hturn5)
              | fail)
            have H5 := Lib.hid (And.intro hown5 hturn5)
            clear hown5 hturn5
            go_wp2_with fail
            go_roundw
            case rel =>
              refine ⟨k + 1, by go_num, hkn, ?_, HK.out.1.kept H5.out.2 HB4.out.2.2.1, HK.out.2.1.keep (fun p _ => turned_cell H5.out.2 p), turned_below H5.out.2 HK.out.2.2 HB4.out.2.2.2.1 (Nat.le_refl _)⟩
              refine (MS.del H5.out.1 HD.out.2.1).mono (Nat.le_refl _) (fun y _ => ?_)
              rw [HD.out.2.2.2]
              by_cases e : y = s
              · subst e; simp
              · simp [e]
            case measure => simp [intOf] <;> omega
          · have hkni : ¬ (k : Int) < (n : Int) := by omega
            have hkk : k = n := by omega
            have htk : bd.take k = bd := List.take_of_length_le (by rw [HB4.out.2.2.2.2.2.2]; omega)
            rw [htk] at hMp
            have HUN := Lib.hid (union_any B Bp (1 + enodesL (l.take m)) x.nodes _ _ _ HB4.out.2.2.1 hMB hMp (by have := HS.out.2.1; have e : (4000000 : Nat) < maxLen := (by decide); omega))
            clear hMp hMB hrd hbk htk hkk
            go_wp2_with fail
            refine HUN.out.mono ?_
            rintro e w6 ⟨B', rfl, hB', hMS', hbu⟩
            have H6 := Lib.hid (And.intro hB' (And.intro hMS' (hbu w.heap.size HJ.out.1 HB4.out.2.2.2.1 HK.out.2.2.size)))
            clear HUN hB' hMS' hbu
            go_wp2_with fail
            go_roundw
            case rel =>
              refine ⟨m + 1, B', by go_num, rfl, HS.out.2.2.2.1, ?_, ?_, HK.out.2.2.trans H6.out.2.2⟩
              · have := H6.out.1
                have := HJ.out.1
                have := HB4.out.2.2.2.1
                rcases H6.out.1 with h | h <;> omega
              · refine H6.out.2.1.mono (by rw [HS.out.1, enodesL_snoc]; omega) (fun y _ => ?_)
                rw [HS.out.1, freeLB_snoc, List.length_take, Nat.zero_add, Nat.min_eq_left (Nat.le_of_lt HS.out.2.2.2.2), HB4.out.2.2.2.2.2.1, Bool.or_assoc]
            case measure => simp [intOf] <;> omega
      · have hlti : ¬ (m : Int) < (d.pn : Int) := by omega
        go_wp2_with fail
        go_returns
        have hmm : l.take m = l := List.take_of_length_le (by rw [HAll.out.2.2.2.2.1]; omega)
        have hq := HJ.out.2.1
        rw [hmm] at hq
        exact ⟨B, rfl, HJ.out.1, hq.mono (by simp [Ex.nodes]) (fun x _ => by simp [Ex.freeB]), HJ.out.2.2⟩
  · have HX := Lib.hid (And.intro (MS.none (d := d) hk (hown0.mono (Nat.zero_le 1))) hbm)
    have hkb : (d.kind == 3) = false := by simpa using hk
    clear hown0 hk hsl hbm c0 c2
    have c5 := (hAt.lower HX.out.2).c5
    go_enter Tryz.func19, Tryz.ntmps19
    go_wp2_with fail
    clear hmm c0m c2m hkb c5
    have HAll := Lib.hid (And.intro hb (And.intro hAt (And.intro hAt0 (And.intro hII (And.intro hlen hnd)))))
    have HCAP := Lib.hid cap
    have HIH := Lib.hid (And.intro sub ih)
    clear hb hAt hAt0 hII hlen hnd nam par cap sub ih
    try go_frame
    go_loopw [25, 3] (fun i a wr => ∃ m B : Nat, i = .int .i64 m ∧ a = .map (some B) ∧ m ≤ d.pn ∧ w.heap.size ≤ B ∧ MS wr B (1 + enodesL (l.take m)) (fun x => (decide (d.kind = 3) && decide (x = d.s)) || freeLB d (l.take m) 0 x) ∧ Below w.heap.size w wr) (fun i _ _ => d.pn - (intOf i).toNat)
    case atStart => exact ⟨0, w.heap.size, rfl, rfl, Nat.zero_le _, Nat.le_refl _, HX.out.1.mono (by omega) (fun x _ => by simp [freeLB]), HX.out.2⟩
    case round =>
      obtain ⟨m, B, rfl, rfl, hm, hB, hMS, hbr⟩ := hrel
      have HJ := Lib.hid (And.intro hB (And.intro hMS hbr))
      clear hB hMS hbr
      by_cases hlt : m < d.pn
      · have hml : m < l.length := by rw [HAll.out.2.2.2.2.1]; exact hlt
        have hb0 : Below w0.heap.size w0 wr := HAll.out.1.trans (HJ.out.2.2.mono HAll.out.1.size)
        obtain ⟨pb, po, hpA, hAtP⟩ := HAll.out.2.2.2.1.part (k := m) hml
        have hpA' : d.pA = some ⟨pb, po, none⟩ := hpA
        have hAtM : (l[m]).d.At w0 pb (po + m * 6) := hAtP m hml
        have c5 := (HAll.out.2.1.lower HJ.out.2.2).c5
        rw [hpA'] at c5
        have hlti : (m : Int) < (d.pn : Int) := by omega
        have hmi : (m : Int) ≤ 4000000 := by have := HCAP.out.2.1.2.2; omega
        obtain ⟨x, hx⟩ : ∃ x, l[m] = x := ⟨_, rfl⟩
        rw [hx] at hAtM
        have hxm : x ∈ l := by rw [← hx]; exact List.getElem_mem hml
        have htk : l.take (m + 1) = l.take m ++ [x] := by rw [List.take_succ_eq_append_getElem hml, hx]
        have hnx : 1 + enodesL (l.take m) + x.nodes ≤ 4000000 := by
          have h1 := enodesL_take l (m + 1)
          rw [htk, enodesL_snoc] at h1
          have h2 := HAll.out.2.2.2.2.2
          simp only [Ex.nodes] at h2
          omega
        have HM := Lib.hid (HIH.out.2 x hxm pb (po + m * 6) wr hAtM hb0 (by omega))
        have HS := Lib.hid (And.intro htk (And.intro hnx (And.intro hb0 (And.intro hlt hml))))
        clear hpA hpA' hAtP hAtM hx hxm htk hnx hml hb0
        go_wp2_with fail
        refine HM.out.mono ?_
        rintro e w3 ⟨Bp, rfl, hBp, hMp, hb3⟩
        have hb3w : Below w.heap.size w w3 := HJ.out.2.2.trans (hb3.mono HJ.out.2.2.size)
        have HBD := Lib.hid (bound_any d l b o m (by omega) w3 (HAll.out.2.1.lower hb3w) (HAll.out.2.2.2.1.lower (HS.out.2.2.1.trans (hb3.mono HS.out.2.2.1.size))))
        have H3 := Lib.hid (And.intro hBp (And.intro hMp (And.intro hb3 hb3w)))
        clear HM hBp hMp hb3 hb3w c5
        go_wp2_with fail
        refine HBD.out.mono ?_
        rintro e w4 ⟨A, n, c, rfl, hrd, hn4, hb4⟩
        have hBne : B ≠ Bp := by have := HJ.out.2.1.lt; have := H3.out.1; omega
        have hBp' : w.heap.size ≤ Bp := by have := H3.out.1; have := HJ.out.2.2.size; omega
        have hbl := boundF_len HCAP.out.2.2.1 HCAP.out.2.2.2.1 HCAP.out.2.2.2.2 m
        obtain ⟨bd, hbd⟩ : ∃ bd, d.boundF m = bd := ⟨_, rfl⟩
        rw [hbd] at hrd hbl
        have hln : bd.length = n := rd_len hrd
        have HB4 := Lib.hid (And.intro hrd (And.intro hb4 (And.intro hBne (And.intro hBp' (And.intro hbl (And.intro hbd hln))))))
        clear HBD hrd hb4 hBne hBp' hbl hbd hln
        go_wp2_with fail
        try go_frame
        go_loopw [39] (fun i wq => ∃ k : Nat, i = .int .i64 k ∧ k ≤ n ∧ MS wq Bp x.nodes (fun y => x.freeB y && !decide (y ∈ bd.take k)) ∧ MS wq B (1 + enodesL (l.take m)) (fun y => (decide (d.kind = 3) && decide (y = d.s)) || freeLB d (l.take m) 0 y) ∧ Rd wq 1 A n (strs bd) ∧ Below w.heap.size w wq) (fun i _ => n - (intOf i).toNat)
        case atStart => exact ⟨0, rfl, Nat.zero_le _, (H3.out.2.1.below HB4.out.2.1).mono (Nat.le_refl _) (fun y _ => by simp), (HJ.out.2.1.below H3.out.2.2.1).below HB4.out.2.1, HB4.out.1, H3.out.2.2.2.trans (HB4.out.2.1.mono H3.out.2.2.2.size)⟩
        case round =>
          obtain ⟨k, rfl, hk, hMp, hMB, hrd, hbk⟩ := hrel
          have HK := Lib.hid (And.intro hMB (And.intro hrd hbk))
          by_cases hkn : k < n
          · have hkl : k < bd.length := by rw [HB4.out.2.2.2.2.2.2]; exact hkn
            obtain ⟨ab, ao, rfl, hcs⟩ := hrd.str hkl
            have hc := hcs k hkl
            have hkni : (k : Int) < (n : Int) := by omega
            have hki : (k : Int) ≤ 4000000 := by omega
            obtain ⟨s, hs⟩ : ∃ s, bd[k] = s := ⟨_, rfl⟩
            rw [hs] at hc
            have hsl : s.length ≤ maxLen := by
              have := HB4.out.2.2.2.2.1 s (by rw [← hs]; exact List.getElem_mem hkl)
              have e : (4000000 : Nat) ≤ maxLen := by decide
              omega
            have htk : bd.take (k + 1) = bd.take k ++ [s] := by rw [List.take_succ_eq_append_getElem hkl, hs]
            obtain ⟨Dp, hown, hQp⟩ := hMp
            have HD := Lib.hid (And.intro hown (And.intro hQp (And.intro hsl htk)))
            clear hMB hrd hbk hcs hs hown hQp hsl htk hkl
            go_wp2_with (first
              | (at_delete; refine wpList_delete_own _ rfl _ _ 46 9 rfl _ lawStr Tryz.underlying46 _ Bp _ Dp rfl HD.out.1 _ _ rfl (keyStr s HD.out.2.2.1) ?_; intro w5 hown5 hturn5)
              | fail)
            have H5 := Lib.hid (And.intro hown5 hturn5)
            clear hown5 hturn5
            go_wp2_with fail
            go_roundw
            case rel =>
              refine ⟨k + 1, by go_num, hkn, ?_, HK.out.1.kept H5.out.2 HB4.out.2.2.1, HK.out.2.1.keep (fun p _ => turned_cell H5.out.2 p), turned_below H5.out.2 HK.out.2.2 HB4.out.2.2.2.1 (Nat.le_refl _)⟩
              refine (MS.del H5.out.1 HD.out.2.1).mono (Nat.le_refl _) (fun y _ => ?_)
              rw [HD.out.2.2.2]
              by_cases e : y = s
              · subst e; simp
              · simp [e]
            case measure => simp [intOf] <;> omega
          · have hkni : ¬ (k : Int) < (n : Int) := by omega
            have hkk : k = n := by omega
            have htk : bd.take k = bd := List.take_of_length_le (by rw [HB4.out.2.2.2.2.2.2]; omega)
            rw [htk] at hMp
            have HUN := Lib.hid (union_any B Bp (1 + enodesL (l.take m)) x.nodes _ _ _ HB4.out.2.2.1 hMB hMp (by have := HS.out.2.1; have e : (4000000 : Nat) < maxLen := (by decide); omega))
            clear hMp hMB hrd hbk htk hkk
            go_wp2_with fail
            refine HUN.out.mono ?_
            rintro e w6 ⟨B', rfl, hB', hMS', hbu⟩
            have H6 := Lib.hid (And.intro hB' (And.intro hMS' (hbu w.heap.size HJ.out.1 HB4.out.2.2.2.1 HK.out.2.2.size)))
            clear HUN hB' hMS' hbu
            go_wp2_with fail
            go_roundw
            case rel =>
              refine ⟨m + 1, B', by go_num, rfl, HS.out.2.2.2.1, ?_, ?_, HK.out.2.2.trans H6.out.2.2⟩
              · have := H6.out.1
                have := HJ.out.1
                have := HB4.out.2.2.2.1
                rcases H6.out.1 with h | h <;> omega
              · refine H6.out.2.1.mono (by rw [HS.out.1, enodesL_snoc]; omega) (fun y _ => ?_)
                rw [HS.out.1, freeLB_snoc, List.length_take, Nat.zero_add, Nat.min_eq_left (Nat.le_of_lt HS.out.2.2.2.2), HB4.out.2.2.2.2.2.1, Bool.or_assoc]
            case measure => simp [intOf] <;> omega
      · have hlti : ¬ (m : Int) < (d.pn : Int) := by omega
        go_wp2_with fail
        go_returns
        have hmm : l.take m = l := List.take_of_length_le (by rw [HAll.out.2.2.2.2.1]; omega)
        have hq := HJ.out.2.1
        rw [hmm] at hq
        exact ⟨B, rfl, HJ.out.1, hq.mono (by simp [Ex.nodes]) (fun x _ => by simp [Ex.freeB]), HJ.out.2.2⟩
end Go.Proofs.YtpdfjdomjklkbaaGreatDoor

namespace Go.Proofs.YtpdfjdomjklkbaaGreatDoor
open Go.ChangeShapes Go.WideShapes Go.ChangeAt Go.RowKit Go.Sort Go.Maps
set_option linter.unusedVariables false
set_option linter.unusedSimpArgs false

theorem mem_keys {w : World} {B n : Nat} {D : DataW Unit} (h : w.ownsMap (H := Unit) Tryz.prog 9 unitElem B n D) (x : Str) : x ∈ strKeys D ↔ Maps.has D (.string x) = true := by
  obtain ⟨es, rfl, hk⟩ := h.keysOf
  rw [has_eq, List.any_eq_true]
  show x ∈ es.map (fun p => strOf p.1) ↔ _
  rw [List.mem_map]
  constructor
  · rintro ⟨p, hp, e⟩
    obtain ⟨v, hv⟩ := hk p hp
    obtain ⟨y, _, _, hy⟩ := keyStr_inv hv
    refine ⟨p, hp, ?_⟩
    rw [hy] at e ⊢
    have : y = x := e
    rw [this, same_str]; simp
  · rintro ⟨p, hp, e⟩
    obtain ⟨v, hv⟩ := hk p hp
    obtain ⟨y, _, _, hy⟩ := keyStr_inv hv
    refine ⟨p, hp, ?_⟩
    rw [hy, same_str] at e
    rw [hy]
    exact (of_decide_eq_true e)

theorem keys_nodup {w : World} {B n : Nat} {D : DataW Unit} (h : w.ownsMap (H := Unit) Tryz.prog 9 unitElem B n D) : (strKeys D).Nodup := by
  obtain ⟨es, rfl, hpw⟩ := h.tidy lawStr
  obtain ⟨es', he, hk⟩ := h.keysOf
  injection he with he
  subst he
  show (es.map fun p => strOf p.1).Nodup
  refine List.pairwise_map.2 (hpw.imp_of_mem fun {p q} hp hq hne e => hne ?_)
  obtain ⟨v, hv⟩ := hk p hp
  obtain ⟨y, _, _, hy⟩ := keyStr_inv hv
  obtain ⟨v', hv'⟩ := hk q hq
  obtain ⟨y', _, _, hy'⟩ := keyStr_inv hv'
  rw [hy, hy'] at e ⊢
  exact congrArg _ e

theorem own_base {w : World} {b b' : Nat} {e : TypeId} {size n : Nat} {v : Value} {xs : List Value} (h : w.ownsRow b e size v n xs) (hb : b' ≤ b) : w.ownsRow b' e size v n xs := by
  refine ⟨h.1, ?_⟩
  rcases h.2 with q | ⟨g, cap, cur, h1, h2, h3⟩
  · exact .inl q
  · exact .inr ⟨g, cap, cur, h1, Nat.le_trans hb h2, h3⟩
/-- Free: a list of the free names. -/
theorem ms_order {l : List Str} (h : l.Nodup) : inOrder (l.mergeSort fun x y => decide (x ≤ y)) := by
  have h1 := sorted_ms l
  have h2 : (l.mergeSort fun x y => decide (x ≤ y)).Nodup := (List.mergeSort_perm l _).nodup_iff.2 h
  refine (List.Pairwise.and h1 h2).imp fun {a b} hab => ?_
  cases hc : slt a b with
  | true => rfl
  | false => exact absurd (slt_tri hc hab.1) hab.2
def FreNR (t : Ex) (w : World) (e : Ending) (w' : World) : Prop := ∃ A n c ss, e = .returned (.slice A n c) ∧ w'.ownsRow w.heap.size 9 1 (.slice A n c) n (strs ss) ∧ n ≤ 4000000 ∧ (∀ x ∈ ss, t.freeB x = true ∧ x.length ≤ maxLen) ∧ (∀ x : Str, x.length ≤ maxLen → t.freeB x = true → x ∈ ss) ∧ Below w.heap.size w w' ∧ ss.Nodup ∧ inOrder ss

set_option maxRecDepth 100000 in
set_option maxHeartbeats 2000000 in
theorem Free_any (t : Ex) (w : World) (hIn : t.In w) (hnd : t.nodes ≤ 4000000) :
    Calls Tryz.prog 7 #[.agg t.d.arr] w fun e w' => FreNR t w e w' := by
  have hb1 : Below w.heap.size w (w.alloc (.cells t.d.arr 25)) := (Below.refl _ _).alloc (Nat.le_refl _) _
  have HM := Lib.hid (free_any _ t (hIn.lower hb1) w.heap.size 0 _ (ex_box w t.d) (Below.refl _ _) hnd)
  have HB := Lib.hid hb1
  have HND := Lib.hid hnd
  clear hb1 hIn hnd
  go_enter Tryz.func7, Tryz.ntmps7
  go_wp2_with fail
  refine HM.out.mono ?_
  rintro e w1 ⟨B, rfl, hB, ⟨D, hown, hQ⟩, hb⟩
  have HK := Lib.hid (callsIn_wide.1 (Tryz.maps_Keys_18 (some B) w1))
  have hsz : Maps.size D ≤ 4000000 := Nat.le_trans hown.size_le HND.out
  have e4 : (4000000 : Nat) ≤ maxLen := by decide
  have HS := Lib.hid (callsIn_wide.1 (Tryz.slices_Sorted_keys_17_18 B t.nodes D unitElem w1 hown (Nat.le_trans hsz e4) (by omega)))
  have H1 := Lib.hid (And.intro hown (And.intro hQ (And.intro hb hsz)))
  clear HM hB hown hQ hb hsz e4
  go_wp2_with fail
  refine HK.out.mono ?_
  rintro e w2 ⟨rfl, rfl⟩
  go_wp2_with fail
  refine HS.out.mono ?_
  rintro e w3 ⟨v, ss, rfl, hp, hrow, _, hb3⟩
  obtain ⟨A, c, rfl, _⟩ := own_cap hrow
  have hb2 : Below w1.heap.size w1 (w1.alloc (.cells #[.map (some B)] 46)) := (Below.refl _ _).alloc (Nat.le_refl _) _
  have hmem : ∀ x, x ∈ (ss.mergeSort (fun x y => decide (x ≤ y)) : List Str) ↔ Maps.has D (.string x) = true := fun x => ((List.mergeSort_perm ss _).mem_iff.trans hp.mem_iff).trans (mem_keys H1.out.1 x)
  have hle := strKeys_le H1.out.1 Tryz.underlying9
  have hpl : ss.length ≤ 4000000 := by
    have := hp.length_eq
    obtain ⟨es, he, _⟩ := H1.out.1.keysOf
    have h2 := H1.out.2.2.2
    rw [he] at this h2
    rw [this]
    simpa [strKeys, Maps.size] using h2
  have hbw : Below w.heap.size w w3 := HB.out.trans ((H1.out.2.2.1.trans (hb2.mono H1.out.2.2.1.size) |>.trans (hb3.mono (Nat.le_trans H1.out.2.2.1.size hb2.size))).mono HB.out.size)
  have HF := Lib.hid (show FreNR t w (.returned (.slice A ss.length c)) w3 from ⟨A, ss.length, c, ss.mergeSort (fun x y => decide (x ≤ y)), rfl, own_base hrow (Nat.le_trans (Nat.le_trans HB.out.size H1.out.2.2.1.size) hb2.size), hpl, fun x hx => by
      have hl : x.length ≤ maxLen := hle x (((List.mergeSort_perm ss _).mem_iff.trans hp.mem_iff).1 hx)
      exact ⟨by rw [← H1.out.2.1 x hl]; exact (hmem x).1 hx, hl⟩, fun x hl hx => (hmem x).2 (by rw [H1.out.2.1 x hl]; exact hx), hbw, (List.mergeSort_perm ss _).nodup_iff.2 (hp.nodup_iff.2 (keys_nodup H1.out.1)), ms_order (hp.nodup_iff.2 (keys_nodup H1.out.1))⟩)
  clear hp hrow hb3 hb2 hmem hle hpl hbw
  go_wp2_with fail
  go_returns
  exact HF.out

end Go.Proofs.YtpdfjdomjklkbaaGreatDoor

namespace Go.Proofs.YtpdfjdomjklkbaaGreatDoor
open Go.ChangeShapes Go.WideShapes Go.ChangeAt Go.RowKit
set_option linter.unusedVariables false
set_option linter.unusedSimpArgs false
theorem elStrZ : ElemTy Tryz.prog 22 9 (.string ByteArray.empty) 1 16 := ⟨Tryz.underlying22, by kernel_rfl, rfl, by decide, by decide⟩
set_option maxRecDepth 100000 in
set_option maxHeartbeats 1000000 in
theorem refHas_any (A : Option Addr) (l : List Str) (s : Str) (n c : Nat) (w : World) (hr : Rd w 1 A n (strs l)) (hm : n ≤ 4000000) :
    Calls Tryz.prog 55 #[.slice A n c, .string (bstr s)] w fun e w' => e = .returned (.bool (decide (s ∈ l))) ∧ Below w.heap.size w w' := by
  have hl := rd_len hr
  have HR := Lib.hid (And.intro hr (And.intro hl hm))
  clear hr hl hm
  go_enter Tryz.func55, Tryz.ntmps55
  go_wp2_with fail
  go_loopw [5] (fun i wr => ∃ k : Nat, i = .int .i64 k ∧ k ≤ n ∧ s ∉ l.take k ∧ Below w.heap.size w wr) (fun i _ => n - (intOf i).toNat)
  case atStart => exact ⟨0, rfl, Nat.zero_le _, by simp, Below.refl _ _⟩
  case round =>
    obtain ⟨k, rfl, hk, hn, hb⟩ := hrel
    have HB := Lib.hid (And.intro hn hb)
    by_cases hlt : k < n
    · have hkl : k < l.length := by rw [HR.out.2.1]; exact hlt
      obtain ⟨b, o, rfl, hc⟩ := (HR.out.1.below hb).str hkl
      have h1 := hc k hkl
      have HTK := Lib.hid (show l.take (k + 1) = l.take k ++ [l[k]] from List.take_succ_eq_append_getElem hkl)
      have HMM := Lib.hid (show l[k] ∈ l from List.getElem_mem hkl)
      obtain ⟨x, hx⟩ : ∃ x, l[k] = x := ⟨_, rfl⟩
      rw [hx] at h1 HTK HMM
      have hki : (k : Int) < (n : Int) := by omega
      have hk0 : (0 : Int) ≤ (k : Int) := by omega
      have hk4 : (k : Int) ≤ 4000000 := by have := HR.out.2.2; omega
      clear hc hx hn hb hkl
      by_cases e1 : x = s
      · have g1 : ((bstr x).toList == (bstr s).toList) = true := by rw [beq_bstr]; simpa using e1
        have HD := Lib.hid (show decide (s ∈ l) = true by rw [← e1]; exact decide_eq_true HMM.out)
        clear e1
        go_wp2_with fail
        go_returns
        exact ⟨by rw [HD.out]; rfl, HB.out.2⟩
      · have g1 : ((bstr x).toList == (bstr s).toList) = false := by rw [beq_bstr]; simpa using e1
        have HD := Lib.hid (show s ∉ l.take (k + 1) by
          rw [HTK.out]
          intro hm
          rcases List.mem_append.1 hm with q | q
          · exact HB.out.1 q
          · rw [List.mem_singleton] at q; exact e1 q.symm)
        clear e1
        go_wp2_with fail
        go_roundw
        case rel => exact ⟨k + 1, by go_num, hlt, HD.out, HB.out.2⟩
        case measure => simp [intOf] <;> omega
    · have hki : ¬ (k : Int) < (n : Int) := by omega
      have hmm : l.take k = l := List.take_of_length_le (by rw [HR.out.2.1]; omega)
      have HD := Lib.hid (show decide (s ∈ l) = false by rw [hmm] at hn; exact decide_eq_false hn)
      clear hn hb
      go_wp2_with fail
      go_returns
      exact ⟨by rw [HD.out]; rfl, HB.out.2⟩

theorem offs_take_succ (l : List Str) (s : Str) (k : Nat) (h : k < l.length) : offs (l.take (k + 1)) s = offs (l.take k) s + (if slt l[k] s = true then 1 else 0) := by
  unfold offs
  rw [List.take_succ_eq_append_getElem h, List.countP_append]
  simp [List.countP_cons]

theorem refOffset_any (A : Option Addr) (l : List Str) (s : Str) (n c : Nat) (w : World) (hr : Rd w 1 A n (strs l)) (hm : n ≤ maxLen) :
    Calls Tryz.prog 56 #[.slice A n c, .string (bstr s)] w fun e w' => e = .returned (.int .i64 (offs l s)) ∧ Below w.heap.size w w' := by
  have hl := rd_len hr
  subst hl
  unfold maxLen at hm
  go_enter Tryz.func56, Tryz.ntmps56
  go_wp2
  go_loopw [5, 6] (fun m i wr => ∃ k q : Nat, m = .int .i64 q ∧ i = .int .i64 k ∧ k ≤ l.length ∧ q = offs (l.take k) s ∧ Below w.heap.size w wr) (fun _ i _ => l.length - (intOf i).toNat)
  case atStart => exact ⟨0, 0, rfl, rfl, by omega, by simp [offs], by go_grown⟩
  case round =>
    obtain ⟨k, q, rfl, rfl, hk, hq, hb⟩ := hrel
    have hq2 : q ≤ k := by rw [hq]; refine Nat.le_trans (offs_le _ _) ?_; exact List.length_take_le _ _
    by_cases hlt : k < l.length
    · obtain ⟨b, o, rfl, hc⟩ := (hr.below hb).str (k := k) hlt
      have h1 := hc k hlt
      clear hc hr
      have hge := bytesLess_bstr l[k] s
      have hst := offs_take_succ l s k hlt
      rw [← hq] at hst
      have HQ := Lib.hid hq
      clear hq
      cases hc : slt l[k] s
      · rw [hc] at hge hst
        have HS := Lib.hid hst
        clear hst
        go_wp2
        go_roundw
        case rel => exact ⟨k + 1, q, rfl, by go_num, by omega, by simpa using HS.out.symm, hb⟩
        case measure => simp [intOf] <;> omega
      · rw [hc] at hge hst
        have HS := Lib.hid hst
        clear hst
        go_wp2
        go_roundw
        case rel => exact ⟨k + 1, q + 1, by go_num, by go_num, by omega, by simpa using HS.out.symm, hb⟩
        case measure => simp [intOf] <;> omega
    · go_wp2
      go_returns
      obtain rfl : k = l.length := by omega
      rw [List.take_length] at hq
      exact ⟨by rw [← hq]; rfl, hb⟩
theorem own_monoZ {w : World} {base B : Nat} {e : TypeId} {size n : Nat} {v : Value} {xs : List Value} (h : w.ownsRow base e size v n xs) (hB : B ≤ base) : w.ownsRow B e size v n xs := by
  refine ⟨h.1, ?_⟩
  rcases h.2 with hn | ⟨g, cap, cur, rfl, hb, rest⟩
  · exact .inl hn
  · exact .inr ⟨g, cap, cur, rfl, by omega, rest⟩

theorem Rd.take_ {w : World} {size n m : Nat} {A : Option Addr} {cs : List Value} (h : Rd w size A n cs) (hm : m ≤ n) : Rd w size A m (cs.take (m * size)) := by
  have h1 := h.cut (lo := 0) (hi := m) (k := 0) (by omega) hm (by omega)
  rw [Nat.zero_mul, List.drop_zero, Nat.sub_zero] at h1
  have eB : A.map (fun x => x.add 0) = A := by cases A <;> simp [add_zero]
  rwa [eB] at h1

theorem refAdd_any (w : World) (base : Nat) (v : Value) (l : List Str) (s : Str) (h : w.ownsRow base 9 1 v l.length (strs l)) (hB : base ≤ w.heap.size) (hm : l.length ≤ 4000000) :
    Calls Tryz.prog 35 #[v, .string (bstr s)] w fun e w' => ∃ v', e = .returned v' ∧ w'.ownsRow base 9 1 v' (addL l s).length (strs (addL l s)) ∧ Below w.heap.size w w' := by
  have hmx : l.length ≤ maxLen := by unfold maxLen; omega
  have hof := offs_le l s
  have hr0 : ∃ A c, v = .slice A l.length c ∧ Rd w 1 A l.length (strs l) := by
    obtain ⟨A, c, rfl, _⟩ := own_cap h
    exact ⟨A, c, rfl, Rd.of_own h⟩
  by_cases hs : s ∈ l
  · obtain ⟨A, c, rfl, hr⟩ := hr0
    go_enter Tryz.func35, Tryz.ntmps35
    go_wp2_with fail
    refine (refHas_any A l s l.length c _ hr hm).mono ?_
    rw [decide_eq_true hs]
    rintro e w1 ⟨rfl, hb1⟩
    go_wp2_with fail
    go_returns
    refine ⟨_, rfl, ?_, hb1⟩
    have ea : addL l s = l := by unfold addL; rw [if_pos hs]
    rw [ea]
    exact own_below h hb1
  · rcases h.2 with ⟨rfl, h0⟩ | ⟨g, c, cur, rfl, hbg, _, hc, hc2, _, _⟩
    · obtain rfl := List.eq_nil_of_length_eq_zero h0
      obtain ⟨A, c, hv, hr⟩ := hr0
      injection hv with e1 e2 e3
      subst e1
      subst e3
      clear hof e2
      have HS := Lib.hid hs
      clear hs
      go_enter Tryz.func35, Tryz.ntmps35
      go_wp2_with fail
      refine (refHas_any _ [] s 0 0 _ hr (by omega)).mono ?_
      rw [decide_eq_false HS.out]
      rintro e w1 ⟨rfl, hb1⟩
      go_wp2_with fail
      refine (refOffset_any _ [] s 0 0 _ (hr.below hb1) hmx).mono ?_
      rw [show ((offs [] s : Nat) : Int) = 0 from rfl]
      rintro e w2 ⟨rfl, hb2⟩
      have hb2' := below_then hb1 hb2
      clear hb1 hb2
      have hn : Rd w2 1 none 0 [] := Rd.nil _ _ _
      go_wp2_with (first
        | (at_builtin; refine wpList_app elStrZ _ rfl (.tmp 21) (.tmp 23) rfl w2.heap.size v3 0 _ rfl (hown3.alloc _) (some ⟨w3.heap.size, 0, none⟩) 1 1 _ rfl (Rd.lit w3 _ _ rfl) (strs_one [s]) (by omega) (by have := hb3.size; simp at *; omega) ?_; intro v4 w4 hown4 hb4 _ _)
        | (at_builtin; refine wpList_app elStrZ _ rfl (.tmp 25) (.tmp 28) rfl w2.heap.size v4 1 _ rfl hown4 none 0 0 [] rfl (Rd.nil _ _ _) (by simp) (by omega) (by have := hb3.size; have := hb4.size; simp at *; omega) ?_; intro v5 w5 hown5 hb5 _ _)
        | (at_builtin; refine wpList_app elStrZ _ rfl (.tmp 16) (.tmp 19) rfl w2.heap.size (.slice (some ⟨w2.heap.size, 0, none⟩) 0 0) 0 [] rfl (World.ownsRow_lit w2 #[] 0 (by simp) (by simp [maxLen]) rfl) none 0 0 [] rfl (Rd.nil _ _ _) (by simp) (by omega) (by simp) ?_; intro v3 w3 hown3 hb3 _ _))
      go_returns
      have hB3 : Below w2.heap.size w2 w3 := ((Below.refl _ _).alloc (Nat.le_refl _) _).trans hb3
      have hB4 : Below w2.heap.size w2 w4 := (hB3.alloc hB3.size _).trans hb4
      refine ⟨_, rfl, own_monoZ (by simpa [addL, offs, strs] using hown5) (Nat.le_trans hB hb2'.size), below_then hb2' (hB4.trans hb5)⟩
    · obtain ⟨A, c0, hv, hr⟩ := hr0
      injection hv with e1 e2 e3
      subst e1
      subst e3
      clear e2
      have HS := Lib.hid hs
      clear hs
      go_enter Tryz.func35, Tryz.ntmps35
      go_wp2_with fail
      refine (refHas_any _ l s _ c _ hr hm).mono ?_
      rw [decide_eq_false HS.out]
      rintro e w1 ⟨rfl, hb1⟩
      go_wp2_with fail
      refine (refOffset_any _ l s _ c _ (hr.below hb1) hmx).mono ?_
      rintro e w2 ⟨rfl, hb2⟩
      have hb2' := below_then hb1 hb2
      have hr2 := hr.below hb2'
      clear hb1 hb2
      have hf := hr2.from_ (lo := offs l s) (c := c) (k := offs l s) hof hc (by omega)
      rw [strs_drop] at hf
      simp only [Option.map_some, Addr.add_lit, Nat.zero_add] at hf
      have HF := Lib.hid hf
      clear hf
      go_wp2_with (first
        | (at_builtin
           have hB3 : Below w2.heap.size w2 w3 := ((Below.refl _ _).alloc (Nat.le_refl _) _).trans hb3
           have hB4 : Below w2.heap.size w2 w4 := (hB3.alloc hB3.size _).trans hb4
           refine wpList_app elStrZ _ rfl (.tmp 25) (.tmp 28) rfl w2.heap.size v4 (offs l s + 1) _ rfl hown4 (if c = offs l s then some ⟨g, 0, none⟩ else some ⟨g, offs l s, none⟩) (l.length - offs l s) (c - offs l s) (strs (l.drop (offs l s))) rfl (HF.out.below hB4) (strs_one _) (by omega) hB4.size ?_
           intro v5 w5 hown5 hb5 _ _)
        | (at_builtin; refine wpList_app elStrZ _ rfl (.tmp 21) (.tmp 23) rfl w2.heap.size v3 (offs l s) _ rfl (hown3.alloc _) (some ⟨w3.heap.size, 0, none⟩) 1 1 _ rfl (Rd.lit w3 _ _ rfl) (strs_one [s]) (by omega) (by have := hb3.size; simp at *; omega) ?_; intro v4 w4 hown4 hb4 _ _)
        | (at_builtin; refine wpList_app elStrZ _ rfl (.tmp 16) (.tmp 19) rfl w2.heap.size (.slice (some ⟨w2.heap.size, 0, none⟩) 0 0) 0 [] rfl (World.ownsRow_lit w2 #[] 0 (by simp) (by simp [maxLen]) rfl) (some ⟨g, 0, none⟩) (offs l s) c _ rfl ((hr2.alloc _).take_ hof) (by rw [strs_take]; exact strs_one _) (by omega) (by simp) ?_; intro v3 w3 hown3 hb3 _ _; rw [Nat.zero_add] at hown3))
      all_goals
        go_returns
        have ea : addL l s = l.take (offs l s) ++ [s] ++ l.drop (offs l s) := by unfold addL; rw [if_neg HS.out]
        have el : (addL l s).length = offs l s + 1 + (l.length - offs l s) := by rw [ea]; simp; omega
        refine ⟨_, rfl, own_monoZ ?_ (Nat.le_trans hB hb2'.size), below_then hb2' (hB4.trans hb5)⟩
        rw [el, ea]
        rw [strs_take, List.nil_append] at hown5
        rw [strs_append, strs_append]
        exact hown5
theorem refOf_any (A : Option Addr) (l : List Str) (n c : Nat) (w : World) (hr : Rd w 1 A n (strs l)) (hm : n ≤ 4000000) :
    Calls Tryz.prog 20 #[.slice A n c] w fun e w' => ∃ v, e = .returned v ∧ w'.ownsRow w.heap.size 9 1 v (setOf l).length (strs (setOf l)) ∧ Below w.heap.size w w' := by
  have hl := rd_len hr
  subst hl
  go_enter Tryz.func20, Tryz.ntmps20
  go_wp2_with fail
  go_loopw [3, 4] (fun v i wr => ∃ k : Nat, i = .int .i64 k ∧ k ≤ l.length ∧ wr.ownsRow w.heap.size 9 1 v (ofTo l k).length (strs (ofTo l k)) ∧ Below w.heap.size w wr) (fun _ i _ => l.length - (intOf i).toNat)
  case atStart => exact ⟨0, rfl, by omega, World.ownsRow_nil _ _ _ _, Below.refl _ _⟩
  case round =>
    obtain ⟨k, rfl, hk, hown, hb⟩ := hrel
    by_cases hlt : k < l.length
    · obtain ⟨b, o, rfl, hc⟩ := (hr.below hb).str (k := k) hlt
      have hc1 := hc k hlt
      have hlk := ofTo_length l k hk
      have hs := ofTo_succ l k hlt
      have HS := Lib.hid hs
      clear hc hr hs
      go_wp2_with fail
      refine (refAdd_any _ w.heap.size _ (ofTo l k) l[k] hown hb.size (by omega)).mono ?_
      rintro e w1 ⟨v1, rfl, hown1, hb1⟩
      go_wp2_with fail
      go_roundw
      case rel => exact ⟨k + 1, by go_num, by omega, by rw [HS.out]; exact hown1, hb.trans (hb1.mono hb.size)⟩
      case measure => simp [intOf] <;> omega
    · go_wp2_with fail
      go_returns
      obtain rfl : k = l.length := by omega
      rw [ofTo_all] at hown
      exact ⟨_, rfl, hown, hb⟩

end Go.Proofs.YtpdfjdomjklkbaaGreatDoor

namespace Go.Proofs.YtpdfjdomjklkbaaGreatDoor
open Go.ChangeShapes Go.WideShapes Go.ChangeAt Go.RowKit
set_option linter.unusedVariables false
set_option linter.unusedSimpArgs false

def BdR (r : Bool) (w : World) (e : Ending) (w' : World) : Prop := e = .returned (.bool r) ∧ Below w.heap.size w w'
theorem bdr_of {r r' : Bool} {w : World} {e : Ending} {w' : World} (h : r = r') (hb : e = .returned (.bool r') ∧ Below w.heap.size w w') : BdR r w e w' := by subst h; exact hb

set_option maxRecDepth 100000 in
set_option maxHeartbeats 1000000 in
theorem binds_4y (d : ExD) (l : List Ex) (x : Str) (i : Nat) (iv : Int) (hiv : iv = (i : Int)) (hi4 : i ≤ 4000000) (w : World) (hI : (Ex.mk d l).In w) (hk : d.kind = 4) (h0 : i = 0) (hg1 : x = d.s) (r : Bool) (hr : decide (x ∈ d.boundF i) = r) : Calls Tryz.prog 36 #[.agg #[.int .i64 d.kind, .int .i64 d.n, .string (bstr d.s), .string (bstr d.t), .slice d.nA d.nn d.nc, .slice d.pA d.pn d.pc], .int .i64 iv, .string (bstr x)] w (BdR r w) := by
  have he : d.boundF i = [d.s] := by unfold ExD.boundF; simp [hk, h0]
  rw [he] at hr
  obtain rfl : r = true := by rw [← hr]; simp [hg1]
  clear hr he
  have hr : true = true := rfl
  have hb1 : Below w.heap.size w (w.alloc (.cells #[.int .i64 d.kind, .int .i64 d.n, .string (bstr d.s), .string (bstr d.t), .slice d.nA d.nn d.nc, .slice d.pA d.pn d.pc] 25)) := (Below.refl _ _).alloc (Nat.le_refl _) _
  have HB1 := Lib.hid hb1
  obtain ⟨c0, c1, c2, c3, c4, c5⟩ := ex_box w d
  have hn4 : (d.nn : Int) ≤ 4000000 := by have : d.nn ≤ 4000000 := hI.cap.1.2.2; omega
  have q4 : (d.kind == 4) = true := by rw [hk]; rfl
  have q6 : (d.kind == 6) = false := by rw [hk]; rfl
  have q7 : (d.kind == 7) = false := by rw [hk]; rfl
  have q14 : (d.kind == 14) = false := by rw [hk]; rfl
  have i0 : (iv == 0) = true := by rw [beq_iff_eq]; omega
  have g1 : ((bstr x).toList == (bstr d.s).toList) = true := by rw [beq_bstr]; simpa using hg1
  clear hiv hk hI hr hb1
  go_enter Tryz.func36, Tryz.ntmps36
  go_wp2_with fail
  all_goals
    go_returns
    exact bdr_of rfl ⟨rfl, HB1.out⟩

set_option maxRecDepth 100000 in
set_option maxHeartbeats 1000000 in
theorem binds_4n (d : ExD) (l : List Ex) (x : Str) (i : Nat) (iv : Int) (hiv : iv = (i : Int)) (hi4 : i ≤ 4000000) (w : World) (hI : (Ex.mk d l).In w) (hk : d.kind = 4) (h0 : i = 0) (hg1 : ¬ x = d.s) (r : Bool) (hr : decide (x ∈ d.boundF i) = r) : Calls Tryz.prog 36 #[.agg #[.int .i64 d.kind, .int .i64 d.n, .string (bstr d.s), .string (bstr d.t), .slice d.nA d.nn d.nc, .slice d.pA d.pn d.pc], .int .i64 iv, .string (bstr x)] w (BdR r w) := by
  have he : d.boundF i = [d.s] := by unfold ExD.boundF; simp [hk, h0]
  rw [he] at hr
  obtain rfl : r = false := by rw [← hr]; simp [hg1]
  clear hr he
  have hr : false = false := rfl
  have hb1 : Below w.heap.size w (w.alloc (.cells #[.int .i64 d.kind, .int .i64 d.n, .string (bstr d.s), .string (bstr d.t), .slice d.nA d.nn d.nc, .slice d.pA d.pn d.pc] 25)) := (Below.refl _ _).alloc (Nat.le_refl _) _
  have HB1 := Lib.hid hb1
  obtain ⟨c0, c1, c2, c3, c4, c5⟩ := ex_box w d
  have hn4 : (d.nn : Int) ≤ 4000000 := by have : d.nn ≤ 4000000 := hI.cap.1.2.2; omega
  have q4 : (d.kind == 4) = true := by rw [hk]; rfl
  have q6 : (d.kind == 6) = false := by rw [hk]; rfl
  have q7 : (d.kind == 7) = false := by rw [hk]; rfl
  have q14 : (d.kind == 14) = false := by rw [hk]; rfl
  have i0 : (iv == 0) = true := by rw [beq_iff_eq]; omega
  have g1 : ((bstr x).toList == (bstr d.s).toList) = false := by rw [beq_bstr]; simpa using hg1
  clear hiv hk hI hr hb1
  go_enter Tryz.func36, Tryz.ntmps36
  go_wp2_with fail
  all_goals
    go_returns
    exact bdr_of rfl ⟨rfl, HB1.out⟩

set_option maxRecDepth 100000 in
set_option maxHeartbeats 1000000 in
theorem binds_4o (d : ExD) (l : List Ex) (x : Str) (i : Nat) (iv : Int) (hiv : iv = (i : Int)) (hi4 : i ≤ 4000000) (w : World) (hI : (Ex.mk d l).In w) (hk : d.kind = 4) (h0 : ¬ i = 0) (r : Bool) (hr : decide (x ∈ d.boundF i) = r) : Calls Tryz.prog 36 #[.agg #[.int .i64 d.kind, .int .i64 d.n, .string (bstr d.s), .string (bstr d.t), .slice d.nA d.nn d.nc, .slice d.pA d.pn d.pc], .int .i64 iv, .string (bstr x)] w (BdR r w) := by
  have he : d.boundF i = [] := by unfold ExD.boundF; simp [hk, h0]
  rw [he] at hr
  obtain rfl : r = false := by rw [← hr]; simp []
  clear hr he
  have hr : false = false := rfl
  have hb1 : Below w.heap.size w (w.alloc (.cells #[.int .i64 d.kind, .int .i64 d.n, .string (bstr d.s), .string (bstr d.t), .slice d.nA d.nn d.nc, .slice d.pA d.pn d.pc] 25)) := (Below.refl _ _).alloc (Nat.le_refl _) _
  have HB1 := Lib.hid hb1
  obtain ⟨c0, c1, c2, c3, c4, c5⟩ := ex_box w d
  have hn4 : (d.nn : Int) ≤ 4000000 := by have : d.nn ≤ 4000000 := hI.cap.1.2.2; omega
  have q4 : (d.kind == 4) = true := by rw [hk]; rfl
  have q6 : (d.kind == 6) = false := by rw [hk]; rfl
  have q7 : (d.kind == 7) = false := by rw [hk]; rfl
  have q14 : (d.kind == 14) = false := by rw [hk]; rfl
  have i0 : (iv == 0) = false := by rw [beq_eq_false_iff_ne]; omega
  clear hiv hk hI hr hb1
  go_enter Tryz.func36, Tryz.ntmps36
  go_wp2_with fail
  all_goals
    go_returns
    exact bdr_of rfl ⟨rfl, HB1.out⟩

set_option maxRecDepth 100000 in
set_option maxHeartbeats 1000000 in
theorem binds_6y (d : ExD) (l : List Ex) (x : Str) (i : Nat) (iv : Int) (hiv : iv = (i : Int)) (hi4 : i ≤ 4000000) (w : World) (hI : (Ex.mk d l).In w) (hk : d.kind = 6) (h0 : i = 1) (hg1 : x = d.s) (r : Bool) (hr : decide (x ∈ d.boundF i) = r) : Calls Tryz.prog 36 #[.agg #[.int .i64 d.kind, .int .i64 d.n, .string (bstr d.s), .string (bstr d.t), .slice d.nA d.nn d.nc, .slice d.pA d.pn d.pc], .int .i64 iv, .string (bstr x)] w (BdR r w) := by
  have he : d.boundF i = [d.s] := by unfold ExD.boundF; simp [hk, h0]
  rw [he] at hr
  obtain rfl : r = true := by rw [← hr]; simp [hg1]
  clear hr he
  have hr : true = true := rfl
  have hb1 : Below w.heap.size w (w.alloc (.cells #[.int .i64 d.kind, .int .i64 d.n, .string (bstr d.s), .string (bstr d.t), .slice d.nA d.nn d.nc, .slice d.pA d.pn d.pc] 25)) := (Below.refl _ _).alloc (Nat.le_refl _) _
  have HB1 := Lib.hid hb1
  obtain ⟨c0, c1, c2, c3, c4, c5⟩ := ex_box w d
  have hn4 : (d.nn : Int) ≤ 4000000 := by have : d.nn ≤ 4000000 := hI.cap.1.2.2; omega
  have q4 : (d.kind == 4) = false := by rw [hk]; rfl
  have q6 : (d.kind == 6) = true := by rw [hk]; rfl
  have q7 : (d.kind == 7) = false := by rw [hk]; rfl
  have q14 : (d.kind == 14) = false := by rw [hk]; rfl
  have i0 : (iv == 1) = true := by rw [beq_iff_eq]; omega
  have g1 : ((bstr x).toList == (bstr d.s).toList) = true := by rw [beq_bstr]; simpa using hg1
  clear hiv hk hI hr hb1
  go_enter Tryz.func36, Tryz.ntmps36
  go_wp2_with fail
  all_goals
    go_returns
    exact bdr_of rfl ⟨rfl, HB1.out⟩

set_option maxRecDepth 100000 in
set_option maxHeartbeats 1000000 in
theorem binds_6n (d : ExD) (l : List Ex) (x : Str) (i : Nat) (iv : Int) (hiv : iv = (i : Int)) (hi4 : i ≤ 4000000) (w : World) (hI : (Ex.mk d l).In w) (hk : d.kind = 6) (h0 : i = 1) (hg1 : ¬ x = d.s) (r : Bool) (hr : decide (x ∈ d.boundF i) = r) : Calls Tryz.prog 36 #[.agg #[.int .i64 d.kind, .int .i64 d.n, .string (bstr d.s), .string (bstr d.t), .slice d.nA d.nn d.nc, .slice d.pA d.pn d.pc], .int .i64 iv, .string (bstr x)] w (BdR r w) := by
  have he : d.boundF i = [d.s] := by unfold ExD.boundF; simp [hk, h0]
  rw [he] at hr
  obtain rfl : r = false := by rw [← hr]; simp [hg1]
  clear hr he
  have hr : false = false := rfl
  have hb1 : Below w.heap.size w (w.alloc (.cells #[.int .i64 d.kind, .int .i64 d.n, .string (bstr d.s), .string (bstr d.t), .slice d.nA d.nn d.nc, .slice d.pA d.pn d.pc] 25)) := (Below.refl _ _).alloc (Nat.le_refl _) _
  have HB1 := Lib.hid hb1
  obtain ⟨c0, c1, c2, c3, c4, c5⟩ := ex_box w d
  have hn4 : (d.nn : Int) ≤ 4000000 := by have : d.nn ≤ 4000000 := hI.cap.1.2.2; omega
  have q4 : (d.kind == 4) = false := by rw [hk]; rfl
  have q6 : (d.kind == 6) = true := by rw [hk]; rfl
  have q7 : (d.kind == 7) = false := by rw [hk]; rfl
  have q14 : (d.kind == 14) = false := by rw [hk]; rfl
  have i0 : (iv == 1) = true := by rw [beq_iff_eq]; omega
  have g1 : ((bstr x).toList == (bstr d.s).toList) = false := by rw [beq_bstr]; simpa using hg1
  clear hiv hk hI hr hb1
  go_enter Tryz.func36, Tryz.ntmps36
  go_wp2_with fail
  all_goals
    go_returns
    exact bdr_of rfl ⟨rfl, HB1.out⟩

set_option maxRecDepth 100000 in
set_option maxHeartbeats 1000000 in
theorem binds_6o (d : ExD) (l : List Ex) (x : Str) (i : Nat) (iv : Int) (hiv : iv = (i : Int)) (hi4 : i ≤ 4000000) (w : World) (hI : (Ex.mk d l).In w) (hk : d.kind = 6) (h0 : ¬ i = 1) (r : Bool) (hr : decide (x ∈ d.boundF i) = r) : Calls Tryz.prog 36 #[.agg #[.int .i64 d.kind, .int .i64 d.n, .string (bstr d.s), .string (bstr d.t), .slice d.nA d.nn d.nc, .slice d.pA d.pn d.pc], .int .i64 iv, .string (bstr x)] w (BdR r w) := by
  have he : d.boundF i = [] := by unfold ExD.boundF; simp [hk, h0]
  rw [he] at hr
  obtain rfl : r = false := by rw [← hr]; simp []
  clear hr he
  have hr : false = false := rfl
  have hb1 : Below w.heap.size w (w.alloc (.cells #[.int .i64 d.kind, .int .i64 d.n, .string (bstr d.s), .string (bstr d.t), .slice d.nA d.nn d.nc, .slice d.pA d.pn d.pc] 25)) := (Below.refl _ _).alloc (Nat.le_refl _) _
  have HB1 := Lib.hid hb1
  obtain ⟨c0, c1, c2, c3, c4, c5⟩ := ex_box w d
  have hn4 : (d.nn : Int) ≤ 4000000 := by have : d.nn ≤ 4000000 := hI.cap.1.2.2; omega
  have q4 : (d.kind == 4) = false := by rw [hk]; rfl
  have q6 : (d.kind == 6) = true := by rw [hk]; rfl
  have q7 : (d.kind == 7) = false := by rw [hk]; rfl
  have q14 : (d.kind == 14) = false := by rw [hk]; rfl
  have i0 : (iv == 1) = false := by rw [beq_eq_false_iff_ne]; omega
  clear hiv hk hI hr hb1
  go_enter Tryz.func36, Tryz.ntmps36
  go_wp2_with fail
  all_goals
    go_returns
    exact bdr_of rfl ⟨rfl, HB1.out⟩

set_option maxRecDepth 100000 in
set_option maxHeartbeats 1000000 in
theorem binds_71y (d : ExD) (l : List Ex) (x : Str) (i : Nat) (iv : Int) (hiv : iv = (i : Int)) (hi4 : i ≤ 4000000) (w : World) (hI : (Ex.mk d l).In w) (hk : d.kind = 7) (h0 : i = 1) (hg1 : x = d.s) (r : Bool) (hr : decide (x ∈ d.boundF i) = r) : Calls Tryz.prog 36 #[.agg #[.int .i64 d.kind, .int .i64 d.n, .string (bstr d.s), .string (bstr d.t), .slice d.nA d.nn d.nc, .slice d.pA d.pn d.pc], .int .i64 iv, .string (bstr x)] w (BdR r w) := by
  have he : d.boundF i = [d.s] := by unfold ExD.boundF; simp [hk, h0]
  rw [he] at hr
  obtain rfl : r = true := by rw [← hr]; simp [hg1]
  clear hr he
  have hr : true = true := rfl
  have hb1 : Below w.heap.size w (w.alloc (.cells #[.int .i64 d.kind, .int .i64 d.n, .string (bstr d.s), .string (bstr d.t), .slice d.nA d.nn d.nc, .slice d.pA d.pn d.pc] 25)) := (Below.refl _ _).alloc (Nat.le_refl _) _
  have HB1 := Lib.hid hb1
  obtain ⟨c0, c1, c2, c3, c4, c5⟩ := ex_box w d
  have hn4 : (d.nn : Int) ≤ 4000000 := by have : d.nn ≤ 4000000 := hI.cap.1.2.2; omega
  have q4 : (d.kind == 4) = false := by rw [hk]; rfl
  have q6 : (d.kind == 6) = false := by rw [hk]; rfl
  have q7 : (d.kind == 7) = true := by rw [hk]; rfl
  have q14 : (d.kind == 14) = false := by rw [hk]; rfl
  have i1 : iv < 2 := by omega
  have i0 : (iv == 0) = false := by rw [beq_eq_false_iff_ne]; omega
  have g1 : ((bstr x).toList == (bstr d.s).toList) = true := by rw [beq_bstr]; simpa using hg1
  clear hiv hk hI hr hb1
  go_enter Tryz.func36, Tryz.ntmps36
  go_wp2_with fail
  all_goals
    go_returns
    exact bdr_of rfl ⟨rfl, HB1.out⟩

set_option maxRecDepth 100000 in
set_option maxHeartbeats 1000000 in
theorem binds_71n (d : ExD) (l : List Ex) (x : Str) (i : Nat) (iv : Int) (hiv : iv = (i : Int)) (hi4 : i ≤ 4000000) (w : World) (hI : (Ex.mk d l).In w) (hk : d.kind = 7) (h0 : i = 1) (hg1 : ¬ x = d.s) (r : Bool) (hr : decide (x ∈ d.boundF i) = r) : Calls Tryz.prog 36 #[.agg #[.int .i64 d.kind, .int .i64 d.n, .string (bstr d.s), .string (bstr d.t), .slice d.nA d.nn d.nc, .slice d.pA d.pn d.pc], .int .i64 iv, .string (bstr x)] w (BdR r w) := by
  have he : d.boundF i = [d.s] := by unfold ExD.boundF; simp [hk, h0]
  rw [he] at hr
  obtain rfl : r = false := by rw [← hr]; simp [hg1]
  clear hr he
  have hr : false = false := rfl
  have hb1 : Below w.heap.size w (w.alloc (.cells #[.int .i64 d.kind, .int .i64 d.n, .string (bstr d.s), .string (bstr d.t), .slice d.nA d.nn d.nc, .slice d.pA d.pn d.pc] 25)) := (Below.refl _ _).alloc (Nat.le_refl _) _
  have HB1 := Lib.hid hb1
  obtain ⟨c0, c1, c2, c3, c4, c5⟩ := ex_box w d
  have hn4 : (d.nn : Int) ≤ 4000000 := by have : d.nn ≤ 4000000 := hI.cap.1.2.2; omega
  have q4 : (d.kind == 4) = false := by rw [hk]; rfl
  have q6 : (d.kind == 6) = false := by rw [hk]; rfl
  have q7 : (d.kind == 7) = true := by rw [hk]; rfl
  have q14 : (d.kind == 14) = false := by rw [hk]; rfl
  have i1 : iv < 2 := by omega
  have i0 : (iv == 0) = false := by rw [beq_eq_false_iff_ne]; omega
  have g1 : ((bstr x).toList == (bstr d.s).toList) = false := by rw [beq_bstr]; simpa using hg1
  clear hiv hk hI hr hb1
  go_enter Tryz.func36, Tryz.ntmps36
  go_wp2_with fail
  all_goals
    go_returns
    exact bdr_of rfl ⟨rfl, HB1.out⟩

set_option maxRecDepth 100000 in
set_option maxHeartbeats 1000000 in
theorem binds_70y (d : ExD) (l : List Ex) (x : Str) (i : Nat) (iv : Int) (hiv : iv = (i : Int)) (hi4 : i ≤ 4000000) (w : World) (hI : (Ex.mk d l).In w) (hk : d.kind = 7) (h0 : i = 0) (hg1 : x = d.s) (r : Bool) (hr : decide (x ∈ d.boundF i) = r) : Calls Tryz.prog 36 #[.agg #[.int .i64 d.kind, .int .i64 d.n, .string (bstr d.s), .string (bstr d.t), .slice d.nA d.nn d.nc, .slice d.pA d.pn d.pc], .int .i64 iv, .string (bstr x)] w (BdR r w) := by
  have he : d.boundF i = [d.s, d.t] := by unfold ExD.boundF; simp [hk, h0]
  rw [he] at hr
  obtain rfl : r = true := by rw [← hr]; simp [hg1]
  clear hr he
  have hr : true = true := rfl
  have hb1 : Below w.heap.size w (w.alloc (.cells #[.int .i64 d.kind, .int .i64 d.n, .string (bstr d.s), .string (bstr d.t), .slice d.nA d.nn d.nc, .slice d.pA d.pn d.pc] 25)) := (Below.refl _ _).alloc (Nat.le_refl _) _
  have HB1 := Lib.hid hb1
  obtain ⟨c0, c1, c2, c3, c4, c5⟩ := ex_box w d
  have hn4 : (d.nn : Int) ≤ 4000000 := by have : d.nn ≤ 4000000 := hI.cap.1.2.2; omega
  have q4 : (d.kind == 4) = false := by rw [hk]; rfl
  have q6 : (d.kind == 6) = false := by rw [hk]; rfl
  have q7 : (d.kind == 7) = true := by rw [hk]; rfl
  have q14 : (d.kind == 14) = false := by rw [hk]; rfl
  have i1 : iv < 2 := by omega
  have i0 : (iv == 0) = true := by rw [beq_iff_eq]; omega
  have g1 : ((bstr x).toList == (bstr d.s).toList) = true := by rw [beq_bstr]; simpa using hg1
  clear hiv hk hI hr hb1
  go_enter Tryz.func36, Tryz.ntmps36
  go_wp2_with fail
  all_goals
    go_returns
    exact bdr_of rfl ⟨rfl, HB1.out⟩

set_option maxRecDepth 100000 in
set_option maxHeartbeats 1000000 in
theorem binds_70ny (d : ExD) (l : List Ex) (x : Str) (i : Nat) (iv : Int) (hiv : iv = (i : Int)) (hi4 : i ≤ 4000000) (w : World) (hI : (Ex.mk d l).In w) (hk : d.kind = 7) (h0 : i = 0) (hg1 : ¬ x = d.s) (hg2 : x = d.t) (r : Bool) (hr : decide (x ∈ d.boundF i) = r) : Calls Tryz.prog 36 #[.agg #[.int .i64 d.kind, .int .i64 d.n, .string (bstr d.s), .string (bstr d.t), .slice d.nA d.nn d.nc, .slice d.pA d.pn d.pc], .int .i64 iv, .string (bstr x)] w (BdR r w) := by
  have he : d.boundF i = [d.s, d.t] := by unfold ExD.boundF; simp [hk, h0]
  rw [he] at hr
  obtain rfl : r = true := by rw [← hr]; simp [hg1, hg2]
  clear hr he
  have hr : true = true := rfl
  have hb1 : Below w.heap.size w (w.alloc (.cells #[.int .i64 d.kind, .int .i64 d.n, .string (bstr d.s), .string (bstr d.t), .slice d.nA d.nn d.nc, .slice d.pA d.pn d.pc] 25)) := (Below.refl _ _).alloc (Nat.le_refl _) _
  have HB1 := Lib.hid hb1
  obtain ⟨c0, c1, c2, c3, c4, c5⟩ := ex_box w d
  have hn4 : (d.nn : Int) ≤ 4000000 := by have : d.nn ≤ 4000000 := hI.cap.1.2.2; omega
  have q4 : (d.kind == 4) = false := by rw [hk]; rfl
  have q6 : (d.kind == 6) = false := by rw [hk]; rfl
  have q7 : (d.kind == 7) = true := by rw [hk]; rfl
  have q14 : (d.kind == 14) = false := by rw [hk]; rfl
  have i1 : iv < 2 := by omega
  have i0 : (iv == 0) = true := by rw [beq_iff_eq]; omega
  have g1 : ((bstr x).toList == (bstr d.s).toList) = false := by rw [beq_bstr]; simpa using hg1
  have g2 : ((bstr x).toList == (bstr d.t).toList) = true := by rw [beq_bstr]; simpa using hg2
  clear hiv hk hI hr hb1
  go_enter Tryz.func36, Tryz.ntmps36
  go_wp2_with fail
  all_goals
    go_returns
    exact bdr_of rfl ⟨rfl, HB1.out⟩

set_option maxRecDepth 100000 in
set_option maxHeartbeats 1000000 in
theorem binds_70nn (d : ExD) (l : List Ex) (x : Str) (i : Nat) (iv : Int) (hiv : iv = (i : Int)) (hi4 : i ≤ 4000000) (w : World) (hI : (Ex.mk d l).In w) (hk : d.kind = 7) (h0 : i = 0) (hg1 : ¬ x = d.s) (hg2 : ¬ x = d.t) (r : Bool) (hr : decide (x ∈ d.boundF i) = r) : Calls Tryz.prog 36 #[.agg #[.int .i64 d.kind, .int .i64 d.n, .string (bstr d.s), .string (bstr d.t), .slice d.nA d.nn d.nc, .slice d.pA d.pn d.pc], .int .i64 iv, .string (bstr x)] w (BdR r w) := by
  have he : d.boundF i = [d.s, d.t] := by unfold ExD.boundF; simp [hk, h0]
  rw [he] at hr
  obtain rfl : r = false := by rw [← hr]; simp [hg1, hg2]
  clear hr he
  have hr : false = false := rfl
  have hb1 : Below w.heap.size w (w.alloc (.cells #[.int .i64 d.kind, .int .i64 d.n, .string (bstr d.s), .string (bstr d.t), .slice d.nA d.nn d.nc, .slice d.pA d.pn d.pc] 25)) := (Below.refl _ _).alloc (Nat.le_refl _) _
  have HB1 := Lib.hid hb1
  obtain ⟨c0, c1, c2, c3, c4, c5⟩ := ex_box w d
  have hn4 : (d.nn : Int) ≤ 4000000 := by have : d.nn ≤ 4000000 := hI.cap.1.2.2; omega
  have q4 : (d.kind == 4) = false := by rw [hk]; rfl
  have q6 : (d.kind == 6) = false := by rw [hk]; rfl
  have q7 : (d.kind == 7) = true := by rw [hk]; rfl
  have q14 : (d.kind == 14) = false := by rw [hk]; rfl
  have i1 : iv < 2 := by omega
  have i0 : (iv == 0) = true := by rw [beq_iff_eq]; omega
  have g1 : ((bstr x).toList == (bstr d.s).toList) = false := by rw [beq_bstr]; simpa using hg1
  have g2 : ((bstr x).toList == (bstr d.t).toList) = false := by rw [beq_bstr]; simpa using hg2
  clear hiv hk hI hr hb1
  go_enter Tryz.func36, Tryz.ntmps36
  go_wp2_with fail
  all_goals
    go_returns
    exact bdr_of rfl ⟨rfl, HB1.out⟩

set_option maxRecDepth 100000 in
set_option maxHeartbeats 1000000 in
theorem binds_7o (d : ExD) (l : List Ex) (x : Str) (i : Nat) (iv : Int) (hiv : iv = (i : Int)) (hi4 : i ≤ 4000000) (w : World) (hI : (Ex.mk d l).In w) (hk : d.kind = 7) (h0 : 1 < i) (r : Bool) (hr : decide (x ∈ d.boundF i) = r) : Calls Tryz.prog 36 #[.agg #[.int .i64 d.kind, .int .i64 d.n, .string (bstr d.s), .string (bstr d.t), .slice d.nA d.nn d.nc, .slice d.pA d.pn d.pc], .int .i64 iv, .string (bstr x)] w (BdR r w) := by
  have he : d.boundF i = [] := by unfold ExD.boundF; rw [if_neg (by omega), if_neg (by omega), if_neg (by omega), if_neg (by omega)]
  rw [he] at hr
  obtain rfl : r = false := by rw [← hr]; simp []
  clear hr he
  have hr : false = false := rfl
  have hb1 : Below w.heap.size w (w.alloc (.cells #[.int .i64 d.kind, .int .i64 d.n, .string (bstr d.s), .string (bstr d.t), .slice d.nA d.nn d.nc, .slice d.pA d.pn d.pc] 25)) := (Below.refl _ _).alloc (Nat.le_refl _) _
  have HB1 := Lib.hid hb1
  obtain ⟨c0, c1, c2, c3, c4, c5⟩ := ex_box w d
  have hn4 : (d.nn : Int) ≤ 4000000 := by have : d.nn ≤ 4000000 := hI.cap.1.2.2; omega
  have q4 : (d.kind == 4) = false := by rw [hk]; rfl
  have q6 : (d.kind == 6) = false := by rw [hk]; rfl
  have q7 : (d.kind == 7) = true := by rw [hk]; rfl
  have q14 : (d.kind == 14) = false := by rw [hk]; rfl
  have i1 : ¬ iv < 2 := by omega
  have i0 : (iv == 0) = false := by rw [beq_eq_false_iff_ne]; omega
  clear hiv hk hI hr hb1
  go_enter Tryz.func36, Tryz.ntmps36
  go_wp2_with fail
  all_goals
    go_returns
    exact bdr_of rfl ⟨rfl, HB1.out⟩

set_option maxRecDepth 100000 in
set_option maxHeartbeats 1000000 in
theorem binds_14z (d : ExD) (l : List Ex) (x : Str) (i : Nat) (iv : Int) (hiv : iv = (i : Int)) (hi4 : i ≤ 4000000) (w : World) (hI : (Ex.mk d l).In w) (hk : d.kind = 14) (h0 : i = 0) (r : Bool) (hr : decide (x ∈ d.boundF i) = r) : Calls Tryz.prog 36 #[.agg #[.int .i64 d.kind, .int .i64 d.n, .string (bstr d.s), .string (bstr d.t), .slice d.nA d.nn d.nc, .slice d.pA d.pn d.pc], .int .i64 iv, .string (bstr x)] w (BdR r w) := by
  have he : d.boundF i = [] := by unfold ExD.boundF; simp [hk, h0]
  rw [he] at hr
  obtain rfl : r = false := by rw [← hr]; simp []
  clear hr he
  have hr : false = false := rfl
  have hb1 : Below w.heap.size w (w.alloc (.cells #[.int .i64 d.kind, .int .i64 d.n, .string (bstr d.s), .string (bstr d.t), .slice d.nA d.nn d.nc, .slice d.pA d.pn d.pc] 25)) := (Below.refl _ _).alloc (Nat.le_refl _) _
  have HB1 := Lib.hid hb1
  obtain ⟨c0, c1, c2, c3, c4, c5⟩ := ex_box w d
  have hn4 : (d.nn : Int) ≤ 4000000 := by have : d.nn ≤ 4000000 := hI.cap.1.2.2; omega
  have q4 : (d.kind == 4) = false := by rw [hk]; rfl
  have q6 : (d.kind == 6) = false := by rw [hk]; rfl
  have q7 : (d.kind == 7) = false := by rw [hk]; rfl
  have q14 : (d.kind == 14) = true := by rw [hk]; rfl
  have i0 : (iv == 0) = true := by rw [beq_iff_eq]; omega
  clear hiv hk hI hr hb1
  go_enter Tryz.func36, Tryz.ntmps36
  go_wp2_with fail
  all_goals
    go_returns
    exact bdr_of rfl ⟨rfl, HB1.out⟩

set_option maxRecDepth 100000 in
set_option maxHeartbeats 1000000 in
theorem binds_14ty (d : ExD) (l : List Ex) (x : Str) (i : Nat) (iv : Int) (hiv : iv = (i : Int)) (hi4 : i ≤ 4000000) (w : World) (hI : (Ex.mk d l).In w) (hk : d.kind = 14) (h0 : 2 * d.nn < i) (hg1 : x = d.t) (r : Bool) (hr : decide (x ∈ d.boundF i) = r) : Calls Tryz.prog 36 #[.agg #[.int .i64 d.kind, .int .i64 d.n, .string (bstr d.s), .string (bstr d.t), .slice d.nA d.nn d.nc, .slice d.pA d.pn d.pc], .int .i64 iv, .string (bstr x)] w (BdR r w) := by
  have he : d.boundF i = [d.t] := by unfold ExD.boundF; rw [if_neg (by omega), if_neg (by omega), if_pos ⟨hk, h0⟩]
  rw [he] at hr
  obtain rfl : r = true := by rw [← hr]; simp [hg1]
  clear hr he
  have hr : true = true := rfl
  have hb1 : Below w.heap.size w (w.alloc (.cells #[.int .i64 d.kind, .int .i64 d.n, .string (bstr d.s), .string (bstr d.t), .slice d.nA d.nn d.nc, .slice d.pA d.pn d.pc] 25)) := (Below.refl _ _).alloc (Nat.le_refl _) _
  have HB1 := Lib.hid hb1
  obtain ⟨c0, c1, c2, c3, c4, c5⟩ := ex_box w d
  have hn4 : (d.nn : Int) ≤ 4000000 := by have : d.nn ≤ 4000000 := hI.cap.1.2.2; omega
  have q4 : (d.kind == 4) = false := by rw [hk]; rfl
  have q6 : (d.kind == 6) = false := by rw [hk]; rfl
  have q7 : (d.kind == 7) = false := by rw [hk]; rfl
  have q14 : (d.kind == 14) = true := by rw [hk]; rfl
  have i0 : (iv == 0) = false := by rw [beq_eq_false_iff_ne]; omega
  have i4 : iv ≤ 4000000 := by omega
  have i3 : 0 ≤ iv := by omega
  obtain ⟨j, hj⟩ : ∃ j, (i - 1) / 2 = j := ⟨_, rfl⟩
  have f0 : (iv - 1) / 2 = (j : Int) := by omega
  have f1 : ¬ (j : Int) < (d.nn : Int) := by omega
  have f2 : 0 ≤ iv - 1 := by omega
  clear hj h0
  have g1 : ((bstr x).toList == (bstr d.t).toList) = true := by rw [beq_bstr]; simpa using hg1
  clear hiv hk hI hr hb1
  go_enter Tryz.func36, Tryz.ntmps36
  go_wp2_with fail
  all_goals
    go_returns
    exact bdr_of rfl ⟨rfl, HB1.out⟩

set_option maxRecDepth 100000 in
set_option maxHeartbeats 1000000 in
theorem binds_14tn (d : ExD) (l : List Ex) (x : Str) (i : Nat) (iv : Int) (hiv : iv = (i : Int)) (hi4 : i ≤ 4000000) (w : World) (hI : (Ex.mk d l).In w) (hk : d.kind = 14) (h0 : 2 * d.nn < i) (hg1 : ¬ x = d.t) (r : Bool) (hr : decide (x ∈ d.boundF i) = r) : Calls Tryz.prog 36 #[.agg #[.int .i64 d.kind, .int .i64 d.n, .string (bstr d.s), .string (bstr d.t), .slice d.nA d.nn d.nc, .slice d.pA d.pn d.pc], .int .i64 iv, .string (bstr x)] w (BdR r w) := by
  have he : d.boundF i = [d.t] := by unfold ExD.boundF; rw [if_neg (by omega), if_neg (by omega), if_pos ⟨hk, h0⟩]
  rw [he] at hr
  obtain rfl : r = false := by rw [← hr]; simp [hg1]
  clear hr he
  have hr : false = false := rfl
  have hb1 : Below w.heap.size w (w.alloc (.cells #[.int .i64 d.kind, .int .i64 d.n, .string (bstr d.s), .string (bstr d.t), .slice d.nA d.nn d.nc, .slice d.pA d.pn d.pc] 25)) := (Below.refl _ _).alloc (Nat.le_refl _) _
  have HB1 := Lib.hid hb1
  obtain ⟨c0, c1, c2, c3, c4, c5⟩ := ex_box w d
  have hn4 : (d.nn : Int) ≤ 4000000 := by have : d.nn ≤ 4000000 := hI.cap.1.2.2; omega
  have q4 : (d.kind == 4) = false := by rw [hk]; rfl
  have q6 : (d.kind == 6) = false := by rw [hk]; rfl
  have q7 : (d.kind == 7) = false := by rw [hk]; rfl
  have q14 : (d.kind == 14) = true := by rw [hk]; rfl
  have i0 : (iv == 0) = false := by rw [beq_eq_false_iff_ne]; omega
  have i4 : iv ≤ 4000000 := by omega
  have i3 : 0 ≤ iv := by omega
  obtain ⟨j, hj⟩ : ∃ j, (i - 1) / 2 = j := ⟨_, rfl⟩
  have f0 : (iv - 1) / 2 = (j : Int) := by omega
  have f1 : ¬ (j : Int) < (d.nn : Int) := by omega
  have f2 : 0 ≤ iv - 1 := by omega
  clear hj h0
  have g1 : ((bstr x).toList == (bstr d.t).toList) = false := by rw [beq_bstr]; simpa using hg1
  clear hiv hk hI hr hb1
  go_enter Tryz.func36, Tryz.ntmps36
  go_wp2_with fail
  all_goals
    go_returns
    exact bdr_of rfl ⟨rfl, HB1.out⟩

set_option maxRecDepth 100000 in
set_option maxHeartbeats 1000000 in
theorem binds_14n (d : ExD) (l : List Ex) (x : Str) (i : Nat) (iv : Int) (hiv : iv = (i : Int)) (hi4 : i ≤ 4000000) (w : World) (hI : (Ex.mk d l).In w) (hk : d.kind = 14) (h0 : ¬ 2 * d.nn < i) (h1 : 0 < i) (h2 : ¬ i % 2 = 0) (r : Bool) (hr : decide (x ∈ d.boundF i) = r) : Calls Tryz.prog 36 #[.agg #[.int .i64 d.kind, .int .i64 d.n, .string (bstr d.s), .string (bstr d.t), .slice d.nA d.nn d.nc, .slice d.pA d.pn d.pc], .int .i64 iv, .string (bstr x)] w (BdR r w) := by
  have he : d.boundF i = [] := by unfold ExD.boundF; rw [if_neg (by omega), if_neg (by omega), if_neg (by omega), if_neg (by omega)]
  rw [he] at hr
  obtain rfl : r = false := by rw [← hr]; simp []
  clear hr he
  have hr : false = false := rfl
  have hb1 : Below w.heap.size w (w.alloc (.cells #[.int .i64 d.kind, .int .i64 d.n, .string (bstr d.s), .string (bstr d.t), .slice d.nA d.nn d.nc, .slice d.pA d.pn d.pc] 25)) := (Below.refl _ _).alloc (Nat.le_refl _) _
  have HB1 := Lib.hid hb1
  obtain ⟨c0, c1, c2, c3, c4, c5⟩ := ex_box w d
  have hn4 : (d.nn : Int) ≤ 4000000 := by have : d.nn ≤ 4000000 := hI.cap.1.2.2; omega
  have q4 : (d.kind == 4) = false := by rw [hk]; rfl
  have q6 : (d.kind == 6) = false := by rw [hk]; rfl
  have q7 : (d.kind == 7) = false := by rw [hk]; rfl
  have q14 : (d.kind == 14) = true := by rw [hk]; rfl
  have i0 : (iv == 0) = false := by rw [beq_eq_false_iff_ne]; omega
  have i4 : iv ≤ 4000000 := by omega
  have i3 : 0 ≤ iv := by omega
  obtain ⟨j, hj⟩ : ∃ j, (i - 1) / 2 = j := ⟨_, rfl⟩
  have f0 : (iv - 1) / 2 = (j : Int) := by omega
  have f1 : (j : Int) < (d.nn : Int) := by omega
  have f2 : 0 ≤ iv - 1 := by omega
  have i5 : (iv % 2 == 0) = false := by rw [beq_eq_false_iff_ne]; omega
  clear hj h0 h1 h2
  clear hiv hk hI hr hb1
  go_enter Tryz.func36, Tryz.ntmps36
  go_wp2_with fail
  all_goals
    go_returns
    exact bdr_of rfl ⟨rfl, HB1.out⟩

set_option maxRecDepth 100000 in
set_option maxHeartbeats 1000000 in
theorem binds_14yy (d : ExD) (l : List Ex) (x : Str) (i : Nat) (iv : Int) (hiv : iv = (i : Int)) (hi4 : i ≤ 4000000) (w : World) (hI : (Ex.mk d l).In w) (hk : d.kind = 14) (h0 : ¬ 2 * d.nn < i) (h1 : 0 < i) (h2 : i % 2 = 0) (j : Nat) (hj : (i - 1) / 2 = j) (hjn : j < d.names.length) (hg1 : x = d.names[j]) (r : Bool) (hr : decide (x ∈ d.boundF i) = r) : Calls Tryz.prog 36 #[.agg #[.int .i64 d.kind, .int .i64 d.n, .string (bstr d.s), .string (bstr d.t), .slice d.nA d.nn d.nc, .slice d.pA d.pn d.pc], .int .i64 iv, .string (bstr x)] w (BdR r w) := by
  have he : d.boundF i = [d.names[j]] := by
    unfold ExD.boundF
    rw [if_neg (by omega), if_neg (by omega), if_neg (by omega), if_pos ⟨hk, h1, h2⟩, show i / 2 - 1 = j by omega, List.drop_eq_getElem_cons hjn]
    rfl
  rw [he] at hr
  obtain ⟨s, hs⟩ : ∃ s, d.names[j] = s := ⟨_, rfl⟩
  rw [hs] at hg1 hr
  obtain rfl : r = true := by rw [← hr]; simp [hg1]
  clear hr he
  have hb1 : Below w.heap.size w (w.alloc (.cells #[.int .i64 d.kind, .int .i64 d.n, .string (bstr d.s), .string (bstr d.t), .slice d.nA d.nn d.nc, .slice d.pA d.pn d.pc] 25)) := (Below.refl _ _).alloc (Nat.le_refl _) _
  have HB1 := Lib.hid hb1
  obtain ⟨c0, c1, c2, c3, c4, c5⟩ := ex_box w d
  have hn4 : (d.nn : Int) ≤ 4000000 := by have : d.nn ≤ 4000000 := hI.cap.1.2.2; omega
  have q4 : (d.kind == 4) = false := by rw [hk]; rfl
  have q6 : (d.kind == 6) = false := by rw [hk]; rfl
  have q7 : (d.kind == 7) = false := by rw [hk]; rfl
  have q14 : (d.kind == 14) = true := by rw [hk]; rfl
  have i0 : (iv == 0) = false := by rw [beq_eq_false_iff_ne]; omega
  have i4 : iv ≤ 4000000 := by omega
  have i3 : 0 ≤ iv := by omega
  have f0 : (iv - 1) / 2 = (j : Int) := by omega
  have h9 : d.names.length = d.nn := hI.namLen
  have f1 : (j : Int) < (d.nn : Int) := by omega
  have f2 : 0 ≤ iv - 1 := by omega
  have f3 : (0 : Int) ≤ (j : Int) := by omega
  have f4 : (j : Int) ≤ 4000000 := by omega
  have i5 : (iv % 2 == 0) = true := by rw [beq_iff_eq]; omega
  obtain ⟨nb, no, hnA, hcs⟩ := Rd.str (show Rd (w.alloc (.cells #[.int .i64 d.kind, .int .i64 d.n, .string (bstr d.s), .string (bstr d.t), .slice d.nA d.nn d.nc, .slice d.pA d.pn d.pc] 25)) 1 d.nA d.nn (strs d.names) from (hI.nam).below hb1) hjn
  have hc := hcs j hjn
  rw [hs] at hc
  rw [hnA] at c4
  have g1 : ((bstr x).toList == (bstr s).toList) = true := by rw [beq_bstr]; simpa using hg1
  clear hiv hk hI hb1 hcs hnA hs hjn hj h0 h1 h2 h9
  go_enter Tryz.func36, Tryz.ntmps36
  go_wp2_with fail
  all_goals
    go_returns
    exact bdr_of rfl ⟨rfl, HB1.out⟩

set_option maxRecDepth 100000 in
set_option maxHeartbeats 1000000 in
theorem binds_14yn (d : ExD) (l : List Ex) (x : Str) (i : Nat) (iv : Int) (hiv : iv = (i : Int)) (hi4 : i ≤ 4000000) (w : World) (hI : (Ex.mk d l).In w) (hk : d.kind = 14) (h0 : ¬ 2 * d.nn < i) (h1 : 0 < i) (h2 : i % 2 = 0) (j : Nat) (hj : (i - 1) / 2 = j) (hjn : j < d.names.length) (hg1 : ¬ x = d.names[j]) (r : Bool) (hr : decide (x ∈ d.boundF i) = r) : Calls Tryz.prog 36 #[.agg #[.int .i64 d.kind, .int .i64 d.n, .string (bstr d.s), .string (bstr d.t), .slice d.nA d.nn d.nc, .slice d.pA d.pn d.pc], .int .i64 iv, .string (bstr x)] w (BdR r w) := by
  have he : d.boundF i = [d.names[j]] := by
    unfold ExD.boundF
    rw [if_neg (by omega), if_neg (by omega), if_neg (by omega), if_pos ⟨hk, h1, h2⟩, show i / 2 - 1 = j by omega, List.drop_eq_getElem_cons hjn]
    rfl
  rw [he] at hr
  obtain ⟨s, hs⟩ : ∃ s, d.names[j] = s := ⟨_, rfl⟩
  rw [hs] at hg1 hr
  obtain rfl : r = false := by rw [← hr]; simp [hg1]
  clear hr he
  have hb1 : Below w.heap.size w (w.alloc (.cells #[.int .i64 d.kind, .int .i64 d.n, .string (bstr d.s), .string (bstr d.t), .slice d.nA d.nn d.nc, .slice d.pA d.pn d.pc] 25)) := (Below.refl _ _).alloc (Nat.le_refl _) _
  have HB1 := Lib.hid hb1
  obtain ⟨c0, c1, c2, c3, c4, c5⟩ := ex_box w d
  have hn4 : (d.nn : Int) ≤ 4000000 := by have : d.nn ≤ 4000000 := hI.cap.1.2.2; omega
  have q4 : (d.kind == 4) = false := by rw [hk]; rfl
  have q6 : (d.kind == 6) = false := by rw [hk]; rfl
  have q7 : (d.kind == 7) = false := by rw [hk]; rfl
  have q14 : (d.kind == 14) = true := by rw [hk]; rfl
  have i0 : (iv == 0) = false := by rw [beq_eq_false_iff_ne]; omega
  have i4 : iv ≤ 4000000 := by omega
  have i3 : 0 ≤ iv := by omega
  have f0 : (iv - 1) / 2 = (j : Int) := by omega
  have h9 : d.names.length = d.nn := hI.namLen
  have f1 : (j : Int) < (d.nn : Int) := by omega
  have f2 : 0 ≤ iv - 1 := by omega
  have f3 : (0 : Int) ≤ (j : Int) := by omega
  have f4 : (j : Int) ≤ 4000000 := by omega
  have i5 : (iv % 2 == 0) = true := by rw [beq_iff_eq]; omega
  obtain ⟨nb, no, hnA, hcs⟩ := Rd.str (show Rd (w.alloc (.cells #[.int .i64 d.kind, .int .i64 d.n, .string (bstr d.s), .string (bstr d.t), .slice d.nA d.nn d.nc, .slice d.pA d.pn d.pc] 25)) 1 d.nA d.nn (strs d.names) from (hI.nam).below hb1) hjn
  have hc := hcs j hjn
  rw [hs] at hc
  rw [hnA] at c4
  have g1 : ((bstr x).toList == (bstr s).toList) = false := by rw [beq_bstr]; simpa using hg1
  clear hiv hk hI hb1 hcs hnA hs hjn hj h0 h1 h2 h9
  go_enter Tryz.func36, Tryz.ntmps36
  go_wp2_with fail
  all_goals
    go_returns
    exact bdr_of rfl ⟨rfl, HB1.out⟩

set_option maxRecDepth 100000 in
set_option maxHeartbeats 1000000 in
theorem binds_o (d : ExD) (l : List Ex) (x : Str) (i : Nat) (iv : Int) (hiv : iv = (i : Int)) (hi4 : i ≤ 4000000) (w : World) (hI : (Ex.mk d l).In w) (h4 : ¬ d.kind = 4) (h6 : ¬ d.kind = 6) (h7 : ¬ d.kind = 7) (h14 : ¬ d.kind = 14)  (r : Bool) (hr : decide (x ∈ d.boundF i) = r) : Calls Tryz.prog 36 #[.agg #[.int .i64 d.kind, .int .i64 d.n, .string (bstr d.s), .string (bstr d.t), .slice d.nA d.nn d.nc, .slice d.pA d.pn d.pc], .int .i64 iv, .string (bstr x)] w (BdR r w) := by
  have he : d.boundF i = [] := by unfold ExD.boundF; simp [h4, h6, h7, h14]
  rw [he] at hr
  obtain rfl : r = false := by rw [← hr]; simp []
  clear hr he
  have hr : false = false := rfl
  have hb1 : Below w.heap.size w (w.alloc (.cells #[.int .i64 d.kind, .int .i64 d.n, .string (bstr d.s), .string (bstr d.t), .slice d.nA d.nn d.nc, .slice d.pA d.pn d.pc] 25)) := (Below.refl _ _).alloc (Nat.le_refl _) _
  have HB1 := Lib.hid hb1
  obtain ⟨c0, c1, c2, c3, c4, c5⟩ := ex_box w d
  have hn4 : (d.nn : Int) ≤ 4000000 := by have : d.nn ≤ 4000000 := hI.cap.1.2.2; omega
  have q4 : (d.kind == 4) = false := by simpa using h4
  have q6 : (d.kind == 6) = false := by simpa using h6
  have q7 : (d.kind == 7) = false := by simpa using h7
  have q14 : (d.kind == 14) = false := by simpa using h14
  clear hiv h4 h6 h7 h14 hI hr hb1
  go_enter Tryz.func36, Tryz.ntmps36
  go_wp2_with fail
  all_goals
    go_returns
    exact bdr_of rfl ⟨rfl, HB1.out⟩

theorem binds_any (d : ExD) (l : List Ex) (x : Str) (i : Nat) (hi4 : i ≤ 4000000) (w : World) (hI : (Ex.mk d l).In w) : Calls Tryz.prog 36 #[.agg #[.int .i64 d.kind, .int .i64 d.n, .string (bstr d.s), .string (bstr d.t), .slice d.nA d.nn d.nc, .slice d.pA d.pn d.pc], .int .i64 (i : Int), .string (bstr x)] w (BdR (decide (x ∈ d.boundF i)) w) := by
  by_cases h4 : d.kind = 4
  · by_cases h0 : i = 0
    · by_cases g : x = d.s
      · exact binds_4y d l x i _ rfl hi4 w hI h4 h0 g _ rfl
      · exact binds_4n d l x i _ rfl hi4 w hI h4 h0 g _ rfl
    · exact binds_4o d l x i _ rfl hi4 w hI h4 h0 _ rfl
  · by_cases h6 : d.kind = 6
    · by_cases h0 : i = 1
      · by_cases g : x = d.s
        · exact binds_6y d l x i _ rfl hi4 w hI h6 h0 g _ rfl
        · exact binds_6n d l x i _ rfl hi4 w hI h6 h0 g _ rfl
      · exact binds_6o d l x i _ rfl hi4 w hI h6 h0 _ rfl
    · by_cases h7 : d.kind = 7
      · by_cases h0 : i = 0
        · by_cases g : x = d.s
          · exact binds_70y d l x i _ rfl hi4 w hI h7 h0 g _ rfl
          · by_cases g2 : x = d.t
            · exact binds_70ny d l x i _ rfl hi4 w hI h7 h0 g g2 _ rfl
            · exact binds_70nn d l x i _ rfl hi4 w hI h7 h0 g g2 _ rfl
        · by_cases h1 : i = 1
          · by_cases g : x = d.s
            · exact binds_71y d l x i _ rfl hi4 w hI h7 h1 g _ rfl
            · exact binds_71n d l x i _ rfl hi4 w hI h7 h1 g _ rfl
          · exact binds_7o d l x i _ rfl hi4 w hI h7 (by omega) _ rfl
      · by_cases h14 : d.kind = 14
        · by_cases h0 : i = 0
          · exact binds_14z d l x i _ rfl hi4 w hI h14 h0 _ rfl
          · by_cases h1 : 2 * d.nn < i
            · by_cases g : x = d.t
              · exact binds_14ty d l x i _ rfl hi4 w hI h14 h1 g _ rfl
              · exact binds_14tn d l x i _ rfl hi4 w hI h14 h1 g _ rfl
            · by_cases h2 : i % 2 = 0
              · have hjn : (i - 1) / 2 < d.names.length := by have h9 : d.names.length = d.nn := hI.namLen; omega
                by_cases g : x = d.names[(i - 1) / 2]
                · exact binds_14yy d l x i _ rfl hi4 w hI h14 h1 (by omega) h2 _ rfl hjn g _ rfl
                · exact binds_14yn d l x i _ rfl hi4 w hI h14 h1 (by omega) h2 _ rfl hjn g _ rfl
              · exact binds_14n d l x i _ rfl hi4 w hI h14 h1 (by omega) h2 _ rfl
        · exact binds_o d l x i _ rfl hi4 w hI h4 h6 h7 h14 _ rfl
end Go.Proofs.YtpdfjdomjklkbaaGreatDoor

namespace Go.Proofs.YtpdfjdomjklkbaaGreatDoor
open Go.ChangeShapes Go.WideShapes Go.ChangeAt Go.RowKit Go.Sort
set_option linter.unusedVariables false
set_option linter.unusedSimpArgs false
attribute [local irreducible] Go.wpQuiet
theorem Rd.lt_ {w : World} {n : Nat} {A : Option Addr} {cs : List Value} (h : Rd w 1 A n cs) (h0 : 0 < n) {a : Addr} (ha : A = some a) : a.block < w.heap.size := by
  obtain ⟨a', e, hb, _⟩ := h.addr (by rw [h.1]; omega)
  rw [ha] at e; cases e
  exact hb

def LsR (t : Ex) (w : World) (e : Ending) (w' : World) : Prop := ∃ v ss, e = .returned v ∧ w'.ownsRow w.heap.size 9 1 v ss.length (strs ss) ∧ (∀ x, x ∈ ss ↔ t.freeB x = true) ∧ ss.length ≤ t.nodes ∧ Below w.heap.size w w'
/-- The list under way. -/
structure FrS (w1 wr : World) (v : Value) (xs : List Str) : Prop where
  own : wr.ownsRow w1.heap.size 9 1 v xs.length (strs xs)
  b : Below w1.heap.size w1 wr
/-- Another list, in other blocks. -/
structure OtL (wr : World) (v : Value) (A : Option Addr) (ll : List Str) : Prop where
  rd : Rd wr 1 A ll.length (strs ll)
  sep : 0 < ll.length → ∀ a, A = some a → some a.block ≠ v.ownBlock
theorem FrS.below {w1 wr wz : World} {v : Value} {xs : List Str} (h : FrS w1 wr v xs) (hb : Below wr.heap.size wr wz) : FrS w1 wz v xs := ⟨own_below h.own hb, below_then h.b hb⟩
theorem OtL.below {wr wz : World} {v : Value} {A : Option Addr} {ll : List Str} (h : OtL wr v A ll) (hb : Below wr.heap.size wr wz) : OtL wz v A ll := ⟨h.rd.below hb, h.sep⟩
theorem FrS.app {w1 wr wz : World} {v v' : Value} {xs news : List Str} {n : Nat} (h : FrS w1 wr v xs) (hown : wz.ownsRow w1.heap.size 9 1 v' n (strs xs ++ strs news)) (hn : n = (xs ++ news).length) (hb : Below w1.heap.size wr wz) : FrS w1 wz v' (xs ++ news) := by
  subst hn
  rw [← strs_append] at hown
  exact ⟨hown, h.b.trans hb⟩
theorem OtL.app {wr wz : World} {v v' : Value} {A : Option Addr} {ll : List Str} (h : OtL wr v A ll) (hg : wr.grownBy wz v.ownBlock) (ho : v'.ownBlock = v.ownBlock ∨ v'.ownBlock = some wr.heap.size) : OtL wz v' A ll := by
  refine ⟨rd_keepP (P := fun b => some b ≠ v.ownBlock) h.rd h.sep (fun b hb hl => hg.block b hl hb), fun hn a ha => ?_⟩
  rcases ho with q | q
  · rw [q]; exact h.sep hn a ha
  · rw [q]
    intro e
    injection e with e
    have := h.rd.lt_ hn ha
    omega
/-- A name's list comes to this. -/
structure FrO (d : ExD) (l : List Ex) (k : Nat) (w1 wr : World) (v : Value) (xs : List Str) : Prop where
  s : FrS w1 wr v xs
  m : ∀ x, x ∈ xs ↔ ((d.kind = 3 ∧ x = d.s) ∨ freeLB d (l.take k) 0 x = true)
  n : xs.length ≤ 1 + enodesL (l.take k)
structure FrI (d : ExD) (i : Nat) (ll : List Str) (k : Nat) (xs0 : List Str) (A : Option Addr) (w1 wr : World) (v : Value) (xs : List Str) : Prop where
  s : FrS w1 wr v xs
  o : OtL wr v A ll
  m : ∀ x, x ∈ xs ↔ (x ∈ xs0 ∨ (x ∈ ll.take k ∧ x ∉ d.boundF i))
  n : xs.length ≤ xs0.length + k
theorem FrI.done {d : ExD} {l : List Ex} {k : Nat} {ll : List Str} {xs0 xs : List Str} {A : Option Addr} {w1 wr w2 : World} {v v0 : Value} {y : Ex} (h0 : FrO d l k w1 w2 v0 xs0) (hk : k < l.length) (hy : l.take (k + 1) = l.take k ++ [y]) (hm : ∀ x, x ∈ ll ↔ y.freeB x = true) (hn : ll.length ≤ y.nodes) (h : FrI d k ll ll.length xs0 A w1 wr v xs) : FrO d l (k + 1) w1 wr v xs := by
  have ht : (l.take k).length = k := by rw [List.length_take]; omega
  refine ⟨h.s, fun x => ?_, ?_⟩
  · rw [h.m x, h0.m x, List.take_length, hm x, hy, freeLB_snoc, ht, Nat.zero_add, Bool.or_eq_true, Bool.and_eq_true, Bool.not_eq_true', decide_eq_false_iff_not, or_assoc]
  · have h1 := h.n
    have h2 := h0.n
    rw [hy, enodesL_snoc]
    omega
theorem FrI.skip {d : ExD} {i k : Nat} {ll : List Str} {xs0 xs : List Str} {A : Option Addr} {w1 wr wz : World} {v : Value} {x : Str} (h : FrI d i ll k xs0 A w1 wr v xs) (hx : ll.take (k + 1) = ll.take k ++ [x]) (hb : x ∈ d.boundF i) (hw : Below wr.heap.size wr wz) : FrI d i ll (k + 1) xs0 A w1 wz v xs := by
  refine ⟨h.s.below hw, h.o.below hw, fun y => ?_, by have := h.n; omega⟩
  rw [h.m y, hx]
  constructor
  · rintro (q | ⟨q, r⟩)
    · exact .inl q
    · exact .inr ⟨List.mem_append_left _ q, r⟩
  · rintro (q | ⟨q, r⟩)
    · exact .inl q
    · rcases List.mem_append.1 q with q | q
      · exact .inr ⟨q, r⟩
      · rw [List.mem_singleton] at q; subst q; exact absurd hb r
theorem FrI.put {d : ExD} {i k : Nat} {ll : List Str} {xs0 xs : List Str} {A : Option Addr} {w1 wr wy wz : World} {v v' : Value} {x : Str} (h : FrI d i ll k xs0 A w1 wr v xs) (hx : ll.take (k + 1) = ll.take k ++ [x]) (hb : x ∉ d.boundF i) (hw : Below wr.heap.size wr wy) (hown : wz.ownsRow w1.heap.size 9 1 v' (xs.length + 1) (strs xs ++ strs [x])) (hbz : Below w1.heap.size wy wz) (hg : wy.grownBy wz v.ownBlock) (ho : v'.ownBlock = v.ownBlock ∨ v'.ownBlock = some wy.heap.size) : FrI d i ll (k + 1) xs0 A w1 wz v' (xs ++ [x]) := by
  refine ⟨(h.s.below hw).app hown (by simp) hbz, (h.o.below hw).app hg ho, fun y => ?_, by have := h.n; simp; omega⟩
  rw [List.mem_append, h.m y, hx]
  constructor
  · rintro ((q | ⟨q, r⟩) | q)
    · exact .inl q
    · exact .inr ⟨List.mem_append_left _ q, r⟩
    · rw [List.mem_singleton] at q; subst q; exact .inr ⟨List.mem_append_right _ (by simp), hb⟩
  · rintro (q | ⟨q, r⟩)
    · exact .inl (.inl q)
    · rcases List.mem_append.1 q with q | q
      · exact .inl (.inr ⟨q, r⟩)
      · exact .inr q

set_option maxRecDepth 100000 in
set_option maxHeartbeats 2000000 in
theorem rfree_any (w0 : World) (t : Ex) (hIn : t.In w0) : ∀ (w : World), Below w0.heap.size w0 w → t.nodes ≤ 4000000 →
    Calls Tryz.prog 21 #[.agg t.d.arr] w (LsR t w) := by
  induction hIn with
  | mk d l nam par cap sub ih =>
  intro w hb hnd
  have hlen : l.length = d.pn := by have := par.1; rw [flat_len Ex.cells_len] at this; omega
  have hb1 : Below w.heap.size w (w.alloc (.cells d.arr 25)) := (Below.refl _ _).alloc (Nat.le_refl _) _
  have HAT := Lib.hid (show d.At (w.alloc (.cells d.arr 25)) w.heap.size 0 from ex_box w d)
  have HI := Lib.hid (show (Ex.mk d l).In (w.alloc (.cells d.arr 25)) from (Ex.In.mk d l nam par cap sub).lower (below_then hb hb1))
  have HIH := Lib.hid (show ∀ x ∈ l, ∀ V, Below (w.alloc (.cells d.arr 25)).heap.size (w.alloc (.cells d.arr 25)) V → Calls Tryz.prog 21 #[.agg x.d.arr] V (LsR x V) from fun x hx V h => ih x hx V (below_then (below_then hb hb1) h) (by have := enodesL_mem l x hx; unfold Ex.nodes at hnd; omega))
  have HB1 := Lib.hid hb1
  have HL := Lib.hid hlen
  have HND := Lib.hid (show 1 + enodesL l ≤ 4000000 from hnd)
  have HCP := Lib.hid cap
  have c0 := (ex_box w d).c0
  have c2 := (ex_box w d).c2
  clear hb1 nam par cap sub ih hb hlen hnd
  go_enter Tryz.func21, Tryz.ntmps21
  show _
  unfold Ex.d
  go_upto_if 10 with fail
  generalize (w.alloc (.cells d.arr 25)) = w1 at *
  go_cut [3] from 8 to 15 (fun v wx => ∃ xs, FrO d l 0 w1 wx v xs)
  case first =>
    by_cases hk : d.kind = 3
    · have HK := Lib.hid hk
      rw [hk]
      clear hk
      go_wp2_with (at_builtin; refine wpList_app elStrZ _ rfl (.tmp 11) (.tmp 14) rfl w1.heap.size (.slice none 0 0) 0 [] rfl (World.ownsRow_nil _ _ _ _) (some ⟨w1.heap.size, 0, none⟩) 1 1 _ rfl (Rd.lit w1 _ _ rfl) (strs_one [d.s]) (by omega) (by simp) ?_; intro v4 w4 hown4 hb4 _ _)
      go_meet
      have hb5 : Below w1.heap.size w1 w4 := ((Below.refl _ _).alloc (Nat.le_refl _) _).trans hb4
      exact ⟨[d.s], ⟨by simpa [strs] using hown4, hb5⟩, (fun x => by simp [freeLB, HK.out]), by simp [enodesL]⟩
    · have hk3 : (d.kind == 3) = false := by simpa using hk
      have HK := Lib.hid hk
      clear hk
      go_wp2_with fail
      go_meet
      exact ⟨[], ⟨World.ownsRow_nil _ _ _ _, Below.refl _ _⟩, (fun x => by simp [freeLB, HK.out]), by simp [enodesL]⟩
  case rest =>
  obtain ⟨xs0, hs0⟩ := hcut
  clear c0 c2
  go_wp2_with fail
  go_loopw [3, 4] (fun v i wr => ∃ (k : Nat) (xs : List Str), i = .int .i64 k ∧ k ≤ d.pn ∧ FrO d l k w1 wr v xs) (fun _ i _ => d.pn - (intOf i).toNat)
  case atStart => exact ⟨0, xs0, rfl, Nat.zero_le _, hs0⟩
  case round =>
    clear hs0
    obtain ⟨k, xs, rfl, hk, hO⟩ := hrel
    have HO := Lib.hid hO
    have cc := (HAT.out.lower hO.s.b).c5
    clear hO
    by_cases hlt : k < d.pn
    · have HLT := Lib.hid hlt
      have hkl : k < l.length := by rw [HL.out]; exact hlt
      obtain ⟨pb, po, hpA, hAtP⟩ := HI.out.part (k := k) hkl
      have hpA' : d.pA = some ⟨pb, po, none⟩ := hpA
      rw [hpA'] at cc
      have hAtM : (l[k]).d.At w1 pb (po + k * 6) := hAtP k hkl
      have HTK := Lib.hid (show l.take (k + 1) = l.take k ++ [l[k]] from List.take_succ_eq_append_getElem hkl)
      obtain ⟨x, hx⟩ : ∃ x, l[k] = x := ⟨_, rfl⟩
      rw [hx] at hAtM HTK
      have hxm : x ∈ l := by rw [← hx]; exact List.getElem_mem hkl
      have HM := Lib.hid (HIH.out x hxm _ HO.out.s.b)
      have HXN := Lib.hid (show xs.length + x.nodes ≤ 4000000 from by
        have h1 := HO.out.n
        have h2 := HND.out
        have h3 := enodesL_take l (k + 1)
        rw [HTK.out, enodesL_snoc] at h3
        omega)
      obtain ⟨p0, p1, p2, p3, p4, p5⟩ := hAtM.lower HO.out.s.b
      have hki : (k : Int) < (d.pn : Int) := by omega
      have hk0 : (0 : Int) ≤ (k : Int) := by omega
      have hk4 : (k : Int) ≤ 4000000 := by have := HCP.out.2.1.2.2; omega
      clear hpA hpA' hAtP hAtM hx hxm
      go_wp2_with fail
      refine HM.out.mono ?_
      rintro e w3 ⟨lv, ll, rfl, hown, hmem, hln, hb3⟩
      obtain ⟨LA, lc, rfl, _⟩ := own_cap hown
      have HMM := Lib.hid (And.intro hmem hln)
      have HS := Lib.hid (show FrI d k ll 0 xs LA w1 w3 u3 xs from ⟨HO.out.s.below hb3, ⟨Rd.of_own hown, fun hn a ha e => by
          have h1 := (HO.out.s.own.lt _ e.symm).2
          have h2 := (hown.lt a.block (by rw [ha]; rfl)).1
          omega⟩, fun x => by simp, Nat.le_refl _⟩)
      clear hown hmem hln hb3 HM cc p0 p1 p2 p3 p4 p5
      go_wp2_with fail
      go_loopw [3, 6] (fun v i wr => ∃ (j : Nat) (ys : List Str), i = .int .i64 j ∧ j ≤ ll.length ∧ FrI d k ll j xs LA w1 wr v ys) (fun _ i _ => ll.length - (intOf i).toNat)
      case atStart => exact ⟨0, xs, rfl, Nat.zero_le _, HS.out⟩
      case round =>
        obtain ⟨j, ys, rfl, hj, hIn⟩ := hrel
        have HN := Lib.hid hIn
        clear hIn
        by_cases hjl : j < ll.length
        · have HJL := Lib.hid hjl
          obtain ⟨sb, so, hLA, hsc⟩ := HN.out.o.rd.str hjl
          have HTJ := Lib.hid (show ll.take (j + 1) = ll.take j ++ [ll[j]] from List.take_succ_eq_append_getElem hjl)
          obtain ⟨s, hs⟩ : ∃ s, ll[j] = s := ⟨_, rfl⟩
          have h1 : wr.cell? ⟨sb, so + j, none⟩ = some (.string (bstr s)) := by rw [← hs]; exact hsc j hjl
          rw [hs] at HTJ
          have H1 := Lib.hid h1
          have HLA := Lib.hid hLA
          have hji : (j : Int) < (ll.length : Int) := by omega
          have hj0 : (0 : Int) ≤ (j : Int) := by omega
          have hj4 : (j : Int) ≤ 4000000 := by have := HMM.out.2; have := HXN.out; omega
          have HYL := Lib.hid (show ys.length + 1 ≤ 4000000 from by have := HN.out.n; have := HMM.out.2; have := HXN.out; omega)
          obtain ⟨q0, q1, q2, q3, q4, q5⟩ := HAT.out.lower HN.out.s.b
          have r0 := cell_regrown q0
          have r1 := cell_regrown q1
          have r2 := cell_regrown q2
          have r3 := cell_regrown q3
          have r4 := cell_regrown q4
          have r5 := cell_regrown q5
          have r6 := cell_regrown h1
          have HBQ : RowKit.Hid (∀ dd os, Calls Tryz.prog 36 #[.agg #[.int .i64 d.kind, .int .i64 d.n, .string (bstr d.s), .string (bstr d.t), .slice d.nA d.nn d.nc, .slice d.pA d.pn d.pc], .int .i64 (k : Int), .string (bstr s)] (grow (redrawn wr dd) os) fun e w'' => e = .returned (.bool (decide (s ∈ d.boundF k))) ∧ ∃ p : Regrown, w'' = grow (redrawn wr p.d) p.os) := Lib.hid fun dd os => Calls.regrown_of (binds_any d l s k (by have := HCP.out.2.1.2.2; have := HLT.out; omega) (grow (redrawn wr dd) os) ((HI.out.lower HN.out.s.b).lower (below_regrown _ _ _)))
          clear hsc hs hjl h1 q0 q1 q2 q3 q4 q5
          subst hLA
          go_upto_region 11 with fail
          refine wp_region_quiet_below (by kernel_rfl) (by kernel_rfl) ?_
          iterate 8 (quiet_step (first | (go_at_call 36; with_reducible exact HBQ.out _ _) | fail))
          refine wpQuiet_nil ?_
          intro _ hw
          obtain ⟨⟨dq, osq⟩, hw2⟩ := hw
          subst hw2
          have HV := Lib.hid (below_regrown wr dq osq)
          clear r0 r1 r2 r3 r4 r5 r6 HBQ
          generalize grow (redrawn wr dq) osq = V2 at *
          by_cases hc : s ∈ d.boundF k
          · have HC := Lib.hid hc
            rw [decide_eq_true hc]
            clear hc
            go_wp2_with fail
            go_roundw
            case rel => exact ⟨j + 1, ys, by go_num, HJL.out, HN.out.skip HTJ.out HC.out HV.out⟩
            case measure => have := HJL.out; simp [intOf] <;> omega
          · have HC := Lib.hid hc
            rw [decide_eq_false hc]
            have h2 := cell_below HV.out H1.out
            have HOW := Lib.hid (HN.out.s.below HV.out).own
            have HVS := Lib.hid (HN.out.s.below HV.out).b
            clear hc
            go_wp2_with (at_builtin; refine wpList_app elStrZ _ rfl (.tmp 44) (.tmp 49) rfl w1.heap.size u3 ys.length _ rfl (HOW.out.alloc _) (some ⟨V2.heap.size, 0, none⟩) 1 1 _ rfl (Rd.lit V2 _ _ rfl) (strs_one [s]) (by have := HYL.out; omega) (by have := HVS.out.size; simp; omega) ?_; intro v4 w4 hown4 hb4 hg4 ho4)
            go_roundw
            case rel => exact ⟨j + 1, ys ++ [s], by go_num, HJL.out, HN.out.put HTJ.out HC.out (HV.out.alloc HV.out.size _) hown4 hb4 hg4 ho4⟩
            case measure => have := HJL.out; simp [intOf] <;> omega
        · have hji : ¬ (j : Int) < (ll.length : Int) := by omega
          obtain rfl : j = ll.length := by omega
          have HKL := Lib.hid hkl
          clear hjl hj hkl
          go_wp2_with fail
          go_roundw
          case rel => exact ⟨k + 1, ys, by go_num, HLT.out, HN.out.done HO.out HKL.out HTK.out HMM.out.1 HMM.out.2⟩
          case measure => have := HLT.out; simp [intOf] <;> omega
    · have hki : ¬ (k : Int) < (d.pn : Int) := by omega
      obtain rfl : k = d.pn := by omega
      clear hlt hk
      go_wp2_with fail
      go_returns
      have hm := HO.out.m
      have hn := HO.out.n
      rw [List.take_of_length_le (by rw [HL.out]; exact Nat.le_refl _)] at hm hn
      refine ⟨_, xs, rfl, own_monoZ HO.out.s.own HB1.out.size, fun x => ?_, hn, below_then HB1.out HO.out.s.b⟩
      rw [hm x]
      show _ ↔ ((decide (d.kind = 3) && decide (x = d.s)) || freeLB d l 0 x) = true
      simp
end Go.Proofs.YtpdfjdomjklkbaaGreatDoor

namespace Go.Proofs.YtpdfjdomjklkbaaGreatDoor
open Go.ChangeShapes Go.WideShapes Go.ChangeAt Go.RowKit Go.Sort
set_option linter.unusedVariables false
set_option linter.unusedSimpArgs false
attribute [local irreducible] Go.wpQuiet

mutual
/-- All that two expressions tell is the same, wherever they lie. -/
def Ex.eqv : Ex → Ex → Prop
  | .mk d l, .mk e m => d.kind = e.kind ∧ d.n = e.n ∧ d.s = e.s ∧ d.t = e.t ∧ d.names = e.names ∧ exL l m
def exL : List Ex → List Ex → Prop
  | [], [] => True
  | x :: l, y :: m => x.eqv y ∧ exL l m
  | _, _ => False
end
theorem exL_len : ∀ {l m : List Ex}, exL l m → l.length = m.length
  | [], [], _ => rfl
  | x :: l, y :: m, h => by unfold exL at h; simp [exL_len h.2]
  | [], _ :: _, h => by simp [exL] at h
  | _ :: _, [], h => by simp [exL] at h
theorem eqv_refl : ∀ x : Ex, x.eqv x := by
  have key : ∀ x : Ex, x.eqv x := fun x => Ex.rec (motive_1 := fun x => x.eqv x) (motive_2 := fun l => exL l l) (fun d l h => ⟨rfl, rfl, rfl, rfl, rfl, h⟩) trivial (fun x l h1 h2 => ⟨h1, h2⟩) x
  exact key

noncomputable def eqB (x y : Ex) : Bool := @decide (x.eqv y) (Classical.propDecidable _)
theorem eqB_true {x y : Ex} (h : x.eqv y) : eqB x y = true := @decide_eq_true _ (Classical.propDecidable _) h
theorem eqB_false {x y : Ex} (h : ¬ x.eqv y) : eqB x y = false := @decide_eq_false _ (Classical.propDecidable _) h
theorem eqB_iff {x y : Ex} : eqB x y = true ↔ x.eqv y := @decide_eq_true_iff _ (Classical.propDecidable _)
theorem exL_iff : ∀ (l m : List Ex), l.length = m.length → (exL l m ↔ ∀ j (h : j < l.length) (h' : j < m.length), l[j].eqv m[j])
  | [], [], _ => by simp [exL]
  | x :: l, y :: m, h => by
    simp only [exL]
    rw [exL_iff l m (by simpa using h)]
    constructor
    · intro hh j hj hj'
      cases j with
      | zero => exact hh.1
      | succ j => exact hh.2 j (by simpa using hj) (by simpa using hj')
    · intro hh
      exact ⟨hh 0 (by simp) (by simp), fun j hj hj' => hh (j + 1) (by simpa using hj) (by simpa using hj')⟩
  | [], y :: m, h => by simp at h
  | x :: l, [], h => by simp at h
set_option maxRecDepth 100000 in
set_option maxHeartbeats 2000000 in
theorem texts05_any (A B : Option Addr) (l m : List Str) (n n' c c' : Nat) (w : World) (hr : Rd w 1 A n (strs l)) (hr' : Rd w 1 B n' (strs m)) (hm : n ≤ 9223372036854775807) (hm' : n' ≤ 9223372036854775807) :
    Calls Tryz.prog 16 #[.slice A n c, .slice B n' c'] w fun e w' => e = .returned (.bool (decide (l = m))) ∧ Below w.heap.size w w' := by
  have hl := rd_len hr
  have hl' := rd_len hr'
  have HR := Lib.hid (And.intro hr (And.intro hr' (And.intro hl hl')))
  by_cases hne : n = n'
  · have q1 : ((n : Int) != (n' : Int)) = false := by rw [hne]; simp
    have HNE := Lib.hid hne
    clear hr hr' hl hl' hne
    go_enter Tryz.func16, Tryz.ntmps16
    go_wp2_with fail
    go_loopw [5] (fun i wr => ∃ k : Nat, i = .int .i64 k ∧ k ≤ n ∧ (∀ j (h : j < l.length) (h' : j < m.length), j < k → l[j] = m[j]) ∧ Below w.heap.size w wr) (fun i _ => n - (intOf i).toNat)
    case atStart => exact ⟨0, rfl, Nat.zero_le _, (by intro j _ _ h; omega), Below.refl _ _⟩
    case round =>
      obtain ⟨k, rfl, hk, hall, hb⟩ := hrel
      have HALL := Lib.hid hall
      have HB := Lib.hid hb
      clear hall
      by_cases hlt : k < n
      · have hkl : k < l.length := by rw [HR.out.2.2.1]; exact hlt
        have hkm : k < m.length := by rw [HR.out.2.2.2, ← HNE.out]; exact hlt
        obtain ⟨b1, o1, rfl, hc1⟩ := (HR.out.1.below hb).str hkl
        obtain ⟨b2, o2, rfl, hc2⟩ := (HR.out.2.1.below hb).str hkm
        have h1 := hc1 k hkl
        have h2 := hc2 k hkm
        have hki : (k : Int) < (n : Int) := by omega
        have hki' : (k : Int) < (n' : Int) := by rw [← HNE.out]; omega
        have hk0 : (0 : Int) ≤ (k : Int) := by omega
        have hk9 : (k : Int) ≤ 9223372036854775806 := by omega
        have hwr : IntKind.i64.wrap (k : Int) = (k : Int) := by rw [IntKind.wrap_i64]; omega
        by_cases he : l[k] = m[k]
        · have hf := ne_facts l[k] m[k] true (decide_eq_true he)
          have HE := Lib.hid he
          obtain ⟨x, hx⟩ : ∃ x, l[k] = x := ⟨_, rfl⟩
          obtain ⟨y, hy⟩ : ∃ y, m[k] = y := ⟨_, rfl⟩
          rw [hx] at h1 hf
          rw [hy] at h2 hf
          obtain ⟨g1, g2⟩ := hf
          simp only [Bool.not_true] at g2
          clear hc1 hc2 hb hx hy he
          go_wp2_with fail
          go_quiet (fail)
          clear h1 h2
          go_wp2_with fail
          go_roundw
          case rel => exact ⟨k + 1, by go_num, hlt, fun j hj hj' hjk => (Nat.lt_succ_iff_lt_or_eq.1 hjk).elim (fun h => HALL.out j hj hj' h) (fun h => by subst h; exact HE.out), below_drewN HB.out _⟩
          case measure => simp [intOf] <;> omega
        · have hf := ne_facts l[k] m[k] false (decide_eq_false he)
          have HA := Lib.hid (show decide (l = m) = false from decide_eq_false (fun e => he (by subst e; rfl)))
          obtain ⟨x, hx⟩ : ∃ x, l[k] = x := ⟨_, rfl⟩
          obtain ⟨y, hy⟩ : ∃ y, m[k] = y := ⟨_, rfl⟩
          rw [hx] at h1 hf
          rw [hy] at h2 hf
          obtain ⟨g1, g2⟩ := hf
          simp only [Bool.not_false] at g2
          clear hc1 hc2 hb hx hy he
          go_wp2_with fail
          go_quiet (fail)
          clear h1 h2
          go_wp2_with fail
          go_returns
          exact ⟨by rw [HA.out]; rfl, below_drewN HB.out _⟩
      · have hki : ¬ (k : Int) < (n : Int) := by omega
        have HA := Lib.hid (show decide (l = m) = true from decide_eq_true (list_eq (by rw [HR.out.2.2.1, HR.out.2.2.2, HNE.out]) (fun j h h' => HALL.out j h h' (by rw [HR.out.2.2.1] at h; omega))))
        clear hb
        go_wp2_with fail
        go_returns
        exact ⟨by rw [HA.out]; rfl, HB.out⟩
  · have q1 : ((n : Int) != (n' : Int)) = true := by rw [bne_iff_ne]; omega
    have HA := Lib.hid (show decide (l = m) = false from decide_eq_false (fun e => hne (by rw [← hl, ← hl', e])))
    clear hr hr' hl hl' hne
    go_enter Tryz.func16, Tryz.ntmps16
    go_wp2_with fail
    go_returns
    exact ⟨by rw [HA.out]; rfl, Below.refl _ _⟩

theorem Texts05_any (A B : Option Addr) (l m : List Str) (n n' c c' : Nat) (w : World) (hr : Rd w 1 A n (strs l)) (hr' : Rd w 1 B n' (strs m)) (hm : n ≤ 9223372036854775807) (hm' : n' ≤ 9223372036854775807) :
    Calls Tryz.prog 6 #[.slice A n c, .slice B n' c'] w fun e w' => e = .returned (.bool (decide (l = m))) ∧ Below w.heap.size w w' := by
  have HT := Lib.hid (texts05_any A B l m n n' c c' w hr hr' hm hm')
  clear hr hr' hm hm'
  go_enter Tryz.func6, Tryz.ntmps6
  go_wp2_with fail
  refine HT.out.mono ?_
  rintro e w1 ⟨rfl, hb1⟩
  go_wp2_with fail
  go_returns
  exact ⟨rfl, hb1⟩

set_option maxRecDepth 100000 in
set_option maxHeartbeats 8000000 in
theorem same14_any (w0 : World) (x : Ex) (hIn : x.In w0) : ∀ (y : Ex), y.In w0 → ∀ (W : World), Below w0.heap.size w0 W →
    Calls Tryz.prog 12 #[.agg x.d.arr, .agg y.d.arr] W fun r w' => r = .returned (.bool (eqB x y)) ∧ Below W.heap.size W w' := by
  induction hIn with
  | mk d l nam par cap sub ih =>
  intro y hy W hb
  obtain ⟨e, m⟩ := y
  have HI := Lib.hid (Ex.In.mk d l nam par cap sub)
  have HY := Lib.hid hy
  have HIH := Lib.hid ih
  have hX0 := ex_box W d
  have hb1 : Below W.heap.size W (W.alloc (.cells d.arr 25)) := (Below.refl _ _).alloc (Nat.le_refl _) _
  have hY0 := ex_box (W.alloc (.cells d.arr 25)) e
  have hb2 : Below W.heap.size W ((W.alloc (.cells d.arr 25)).alloc (.cells e.arr 25)) := hb1.alloc hb1.size _
  have hb12 : Below (W.alloc (.cells d.arr 25)).heap.size (W.alloc (.cells d.arr 25)) ((W.alloc (.cells d.arr 25)).alloc (.cells e.arr 25)) := (Below.refl _ _).alloc (Nat.le_refl _) _
  have hX1 := hX0.lower hb12
  have HB2 := Lib.hid hb2
  have HW := Lib.hid (below_then hb hb2)
  have hsz : (W.alloc (.cells d.arr 25)).heap.size = W.heap.size + 1 := by simp
  rw [hsz] at hY0
  have HLP := Lib.hid (And.intro (show l.length = d.pn from HI.out.len) (show m.length = e.pn from HY.out.len))
  have HCX := Lib.hid (show _ from HI.out.cap)
  have HCY := Lib.hid (show _ from HY.out.cap)
  have HLX := Lib.hid (show Rd w0 1 d.nA d.nn (strs d.names) from HI.out.nam)
  have HLY := Lib.hid (show Rd w0 1 e.nA e.nn (strs e.names) from HY.out.nam)
  clear nam par cap sub ih hy hb hb1 hb2 hb12 hX0 hsz
  show Calls Tryz.prog 12 #[.agg d.arr, .agg e.arr] W _
  go_enter Tryz.func12, Tryz.ntmps12
  go_wp2_with fail
  obtain ⟨bx, hbx⟩ : ∃ bx, W.heap.size = bx := ⟨_, rfl⟩
  rw [hbx] at hX1 hY0
  try rw [hbx]
  obtain ⟨bY, hbY⟩ : ∃ bY, bx + 1 = bY := ⟨_, rfl⟩
  rw [hbY] at hY0
  try rw [hbY]
  clear hbx hbY
  generalize ((W.alloc (.cells d.arr 25)).alloc (.cells e.arr 25)) = w1 at *
  have HX := Lib.hid (fun V (h : Below w1.heap.size w1 V) => hX1.lower h)
  have HYA := Lib.hid (fun V (h : Below w1.heap.size w1 V) => hY0.lower h)
  obtain ⟨c0, c1, c2, c3, c4, c5⟩ := hX1
  obtain ⟨f0, f1, f2, f3, f4, f5⟩ := hY0
  go_wp2_with fail
  refine (texts14_any d.nA e.nA d.names e.names d.nn e.nn d.nc e.nc w1 (HLX.out.below HW.out) (HLY.out.below HW.out) (by have := HCX.out.1.2.2; simp only [Ex.d] at this; omega) (by have := HCY.out.1.2.2; simp only [Ex.d] at this; omega)).mono ?_
  rintro r w3 ⟨rfl, hb3⟩
  have H3 := Lib.hid hb3
  clear hb3 c0 c1 c2 c3 c4 c5 f0 f1 f2 f3 f4 f5
  obtain ⟨c0, c1, c2, c3, c4, c5⟩ := HX.out _ H3.out
  obtain ⟨f0, f1, f2, f3, f4, f5⟩ := HYA.out _ H3.out
  obtain ⟨bn, hbn⟩ : ∃ b, decide (d.names = e.names) = b := ⟨_, rfl⟩
  rw [hbn]
  have HBL := Lib.hid hbn
  clear hbn
  by_cases h1 : ¬ (d.kind = e.kind)
  · have HA := Lib.hid (show eqB (.mk d l) (.mk e m) = false from eqB_false (fun h => h1 (h.1)))
    have q : (d.kind != e.kind) = true := by rw [bne_iff_ne]; omega
    clear h1
    go_wp2_with fail
    go_returns
    exact ⟨by rw [HA.out]; rfl, below_then HB2.out H3.out⟩
  have h1 : d.kind = e.kind := Classical.not_not.1 h1
  have qh1 : (d.kind != e.kind) = false := by rw [h1]; simp
  by_cases h2 : ¬ (d.n = e.n)
  · have HA := Lib.hid (show eqB (.mk d l) (.mk e m) = false from eqB_false (fun h => h2 (h.2.1)))
    have q : (d.n != e.n) = true := by rw [bne_iff_ne]; omega
    clear h2
    go_wp2_with fail
    go_returns
    exact ⟨by rw [HA.out]; rfl, below_then HB2.out H3.out⟩
  have h2 : d.n = e.n := Classical.not_not.1 h2
  have qh2 : (d.n != e.n) = false := by rw [h2]; simp
  by_cases h3 : ¬ (d.s = e.s)
  · have HA := Lib.hid (show eqB (.mk d l) (.mk e m) = false from eqB_false (fun h => h3 (h.2.2.1)))
    obtain ⟨g1, g2⟩ := ne_facts d.s e.s false (decide_eq_false h3)
    simp only [Bool.not_false] at g2
    clear h3
    go_wp2_with fail
    go_returns
    exact ⟨by rw [HA.out]; rfl, below_then HB2.out H3.out⟩
  have h3 : d.s = e.s := Classical.not_not.1 h3
  obtain ⟨gh3, kh3⟩ := ne_facts d.s e.s true (decide_eq_true h3)
  simp only [Bool.not_true] at kh3
  by_cases h4 : ¬ (d.t = e.t)
  · have HA := Lib.hid (show eqB (.mk d l) (.mk e m) = false from eqB_false (fun h => h4 (h.2.2.2.1)))
    obtain ⟨g1, g2⟩ := ne_facts d.t e.t false (decide_eq_false h4)
    simp only [Bool.not_false] at g2
    clear h4
    go_wp2_with fail
    go_returns
    exact ⟨by rw [HA.out]; rfl, below_then HB2.out H3.out⟩
  have h4 : d.t = e.t := Classical.not_not.1 h4
  obtain ⟨gh4, kh4⟩ := ne_facts d.t e.t true (decide_eq_true h4)
  simp only [Bool.not_true] at kh4
  cases bn with
  | false =>
    have HA := Lib.hid (show eqB (.mk d l) (.mk e m) = false from eqB_false (fun h => absurd h.2.2.2.2.1 (of_decide_eq_false HBL.out)))
    go_wp2_with fail
    go_returns
    exact ⟨by rw [HA.out]; rfl, below_then HB2.out H3.out⟩
  | true =>
  by_cases h7 : ¬ (d.pn = e.pn)
  · have HA := Lib.hid (show eqB (.mk d l) (.mk e m) = false from eqB_false (fun h => h7 (by rw [← HLP.out.1, ← HLP.out.2]; exact exL_len h.2.2.2.2.2)))
    have q : ((d.pn : Int) != (e.pn : Int)) = true := by rw [bne_iff_ne]; omega
    clear h7
    go_wp2_with fail
    go_returns
    exact ⟨by rw [HA.out]; rfl, below_then HB2.out H3.out⟩
  have h7 : d.pn = e.pn := Classical.not_not.1 h7
  have qh7 : ((d.pn : Int) != (e.pn : Int)) = false := by rw [h7]; simp
  have HQ := Lib.hid (And.intro h1 (And.intro h2 (And.intro h3 (And.intro h4 h7))))
  clear h1 h2 h3 h4 h7
  go_wp2_with fail
  clear c0 c1 c2 c3 c4 c5 f0 f1 f2 f3 f4 f5
  go_loopw [6] (fun i wr => ∃ k : Nat, i = .int .i64 k ∧ k ≤ d.pn ∧ (∀ j (h : j < l.length) (h' : j < m.length), j < k → (l[j]).eqv m[j]) ∧ Below w1.heap.size w1 wr) (fun i _ => d.pn - (intOf i).toNat)
  case atStart => exact ⟨0, rfl, Nat.zero_le _, (by intro j _ _ h; omega), H3.out⟩
  case round =>
    obtain ⟨k, rfl, hk, hall, hbr⟩ := hrel
    have HALL := Lib.hid hall
    have HR := Lib.hid hbr
    clear hall
    have c7 := (HX.out _ hbr).c5
    by_cases hlt : k < d.pn
    · have hkl : k < l.length := by rw [HLP.out.1]; exact hlt
      have hkm : k < m.length := by rw [HLP.out.2, ← HQ.out.2.2.2.2]; exact hlt
      obtain ⟨pb, po, hpA, hAtP⟩ := HI.out.part (k := k) hkl
      have hpA' : d.pA = some ⟨pb, po, none⟩ := hpA
      obtain ⟨pb', po', hpB, hAtQ⟩ := HY.out.part (k := k) hkm
      have hpB' : e.pA = some ⟨pb', po', none⟩ := hpB
      have f7 := (HYA.out _ hbr).c5
      rw [hpA'] at c7
      rw [hpB'] at f7
      have hAx : (l[k]).d.At w0 pb (po + k * 6) := hAtP k hkl
      have hAy : (m[k]).d.At w0 pb' (po' + k * 6) := hAtQ k hkm
      have hy : (m[k]).In w0 := HY.out.sub m[k] (List.getElem_mem hkm)
      have HC := HIH.out l[k] (List.getElem_mem hkl) m[k] hy
      obtain ⟨p0, p1, p2, p3, p4, p5⟩ := hAx.lower (below_then HW.out hbr)
      obtain ⟨r0, r1, r2, r3, r4, r5⟩ := hAy.lower (below_then HW.out hbr)
      have CX := Lib.hid (fun dd os => Calls.regrown_of ((HC (grow (redrawn wr dd) os) (below_then (below_then HW.out HR.out) (below_regrown wr dd os))).mono fun e w' hh => ⟨hh.1, hh.2⟩))
      have HEX := Lib.hid (show ∀ (h : k < l.length) (h' : k < m.length), eqB l[k] m[k] = true → (l[k]).eqv m[k] from fun _ _ h => eqB_iff.1 h)
      have HEN := Lib.hid (show eqB l[k] m[k] = false → eqB (.mk d l) (.mk e m) = false from fun h => eqB_false (fun hh => by
        have := (exL_iff l m (exL_len hh.2.2.2.2.2)).1 hh.2.2.2.2.2 k hkl hkm
        rw [eqB_true this] at h; cases h))
      obtain ⟨x, hx⟩ : ∃ x, l[k] = x := ⟨_, rfl⟩
      obtain ⟨z, hz⟩ : ∃ z, m[k] = z := ⟨_, rfl⟩
      rw [hx] at p0 p1 p2 p3 p4 p5 CX HEN
      rw [hz] at r0 r1 r2 r3 r4 r5 CX HEN
      have HXZ := Lib.hid (And.intro hx hz)
      obtain ⟨v, hv⟩ : ∃ v, eqB x z = v := ⟨_, rfl⟩
      rw [hv] at CX HEN
      have HV := Lib.hid hv
      obtain ⟨dx, hdx⟩ : ∃ dx, x.d = dx := ⟨_, rfl⟩
      rw [hdx] at p0 p1 p2 p3 p4 p5 CX
      obtain ⟨dz, hdz⟩ : ∃ dz, z.d = dz := ⟨_, rfl⟩
      rw [hdz] at r0 r1 r2 r3 r4 r5 CX
      have kc := cell_regrown c7
      have kf := cell_regrown f7
      have kp0 := cell_regrown p0
      have kr0 := cell_regrown r0
      have kp1 := cell_regrown p1
      have kr1 := cell_regrown r1
      have kp2 := cell_regrown p2
      have kr2 := cell_regrown r2
      have kp3 := cell_regrown p3
      have kr3 := cell_regrown r3
      have kp4 := cell_regrown p4
      have kr4 := cell_regrown r4
      have kp5 := cell_regrown p5
      have kr5 := cell_regrown r5
      have hki : (k : Int) < (d.pn : Int) := by omega
      have hki' : (k : Int) < (e.pn : Int) := by rw [← HQ.out.2.2.2.2]; omega
      have hk0 : (0 : Int) ≤ (k : Int) := by omega
      have hk9 : (k : Int) ≤ 9223372036854775806 := by have := HCX.out.2.1.2.2; simp only [Ex.d] at this; omega
      have hwr : IntKind.i64.wrap (k : Int) = (k : Int) := by rw [IntKind.wrap_i64]; omega
      clear hbr hpA hpA' hpB hpB' hAtP hAtQ hAx hAy hy HC hx hz hv hdx hdz p0 p1 p2 p3 p4 p5 r0 r1 r2 r3 r4 r5 f7
      go_wp2_with fail
      refine wp_region_quiet_below (by kernel_rfl) (by kernel_rfl) ?_
      iterate 12 (quiet_step ((go_at_call 12; with_reducible exact CX.out _ _)))
      refine wpQuiet_nil ?_
      intro _ hw
      obtain ⟨⟨dq, osq⟩, hw''⟩ := hw
      subst hw''
      have hbq := below_regrown wr dq osq
      have H5 := Lib.hid (below_then HR.out hbq)
      clear hbq
      cases v with
      | true =>
        go_wp2_with fail
        go_roundw
        case rel => exact ⟨k + 1, by go_num, hlt, fun j hj hj' hjk => (Nat.lt_succ_iff_lt_or_eq.1 hjk).elim (fun h => HALL.out j hj hj' h) (fun h => by subst h; exact HEX.out hj hj' (by rw [HXZ.out.1, HXZ.out.2]; exact HV.out)), H5.out⟩
        case measure => simp [intOf] <;> omega
      | false =>
        have HA := Lib.hid (HEN.out rfl)
        go_wp2_with fail
        go_returns
        exact ⟨by rw [HA.out]; rfl, below_then HB2.out H5.out⟩
    · have hki : ¬ (k : Int) < (d.pn : Int) := by omega
      have HA := Lib.hid (show eqB (.mk d l) (.mk e m) = true from eqB_true ⟨HQ.out.1, HQ.out.2.1, HQ.out.2.2.1, HQ.out.2.2.2.1, of_decide_eq_true HBL.out, (exL_iff l m (by rw [HLP.out.1, HLP.out.2, HQ.out.2.2.2.2])).2 (fun j h h' => HALL.out j h h' (by rw [HLP.out.1] at h; omega))⟩)
      clear hbr
      go_wp2_with fail
      go_returns
      exact ⟨by rw [HA.out]; rfl, below_then HB2.out HR.out⟩
end Go.Proofs.YtpdfjdomjklkbaaGreatDoor
