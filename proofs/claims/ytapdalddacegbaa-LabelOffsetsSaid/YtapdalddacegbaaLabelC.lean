/-
  The set of a list of labels, by the code: copied, sorted, compacted.
-/
import Derived.Test.YtapdalddacegbaaLabelB
import Derived.Test.YtapdalddacegbaaShelf
import Derived.Sort.OwnSorted
namespace Go.Proofs.Ytapdalddacegbaa
open Go.ChangeShapes Go.WideShapes Go.ChangeAt Go.RowKit
set_option linter.unusedVariables false

theorem ms_len (l : List Str) : (l.mergeSort fun x y => decide (x ≤ y)).length = l.length := by simp

theorem row_len {w : World} {base : Nat} {e : TypeId} {v : Value} {n : Nat} {l : List Str} (h : w.ownsRow base e 1 v n (strs l)) : n = l.length := by
  have := h.1; rw [strs_length] at this; omega

theorem sort_own (w : World) (base : Nat) (v : Value) (l : List Str) (h : w.ownsRow base 9 1 v l.length (strs l)) (hB : base ≤ w.heap.size) (hm : l.length ≤ 100000) :
    Calls Try.prog 25 #[v] w fun e w' => e = .returned (.tuple #[]) ∧ w'.ownsRow base 9 1 v l.length (strs (l.mergeSort fun x y => decide (x ≤ y))) ∧ Below base w w' := by
  rcases h.2 with ⟨rfl, h0⟩ | ⟨g, cap, cur, rfl, hbase, hb, h1, h2, h3, h4⟩
  · have hl : l = [] := List.eq_nil_of_length_eq_zero h0
    subst hl
    refine (Try.slices_Sort_string_none none 0 w).mono ?_
    rintro e w' ⟨rfl, rfl⟩
    exact ⟨rfl, by simpa [strs] using h, Below.refl _ _⟩
  · refine (Try.slices_Sort_string g 0 cap l w (holds_of_block hb (by rw [Nat.mul_one] at h4; exact h4)) (Array.getElem?_eq_some_iff.1 hb).1 (by omega)).mono ?_
    rintro e w' ⟨rfl, n, os, rfl⟩
    refine ⟨rfl, ownsRow_sorted (ms_len l) hbase hb h1 h2 h3, ?_⟩
    exact (Below.refl _ _).grown (grownBy_sorted _) hB (by intro k hk; injection hk with hk; omega)

theorem compact_own (w : World) (base : Nat) (v : Value) (l : List Str) (h : w.ownsRow base 9 1 v l.length (strs l)) (hB : base ≤ w.heap.size) (hm : l.length ≤ 100000) :
    Calls Try.prog 26 #[v] w fun e w' => ∃ v', e = .returned v' ∧ w'.ownsRow base 9 1 v' (Lib.compact l).length (strs (Lib.compact l)) ∧ Below base w w' := by
  rcases h.2 with ⟨rfl, h0⟩ | ⟨g, cap, cur, rfl, hbase, hb, h1, h2, h3, h4⟩
  · have hl : l = [] := List.eq_nil_of_length_eq_zero h0
    subst hl
    refine (Try.slices_Compact_string_empty none 0 w).mono ?_
    rintro e w' ⟨rfl, rfl⟩
    exact ⟨_, rfl, by simpa [strs, Lib.compact, Lib.compactUpTo] using h, Below.refl _ _⟩
  · refine (Try.slices_Compact_string g 0 cap l w (holds_of_block hb (by rw [Nat.mul_one] at h4; exact h4)) (by omega) h1).mono ?_
    rintro e w' ⟨rfl, q, rfl⟩
    have hlen : (Lib.compact l).length ≤ l.length := by
      unfold Lib.compact Lib.compactUpTo
      rw [List.length_map]
      refine Nat.le_trans (List.length_filter_le _ _) ?_
      simp
    have hl2 : (Lib.compact l ++ List.replicate (l.length - (Lib.compact l).length) []).length = l.length := by simp; omega
    have hrow := ownsRow_sorted (n := q) (os := #[]) hl2 hbase hb h1 h2 h3
    rw [Sort.grow_empty] at hrow
    refine ⟨_, rfl, ?_, ?_⟩
    · rcases hrow.2 with ⟨hx, _⟩ | ⟨g', cap', cur', hv, hbase', hb', h1', h2', h3', h4'⟩
      · cases hx
      · injection hv with hg hn hc
        injection hg with hg
        injection hg with hg
        subst hg
        subst hc
        refine ⟨by simp [strs], .inr ⟨g, cap, cur', rfl, hbase', hb', by omega, h2', h3', ?_⟩⟩
        have e := congrArg (List.take (Lib.compact l).length) h4'
        rw [List.take_take, Nat.mul_one, Nat.min_eq_left hlen, List.map_append, List.take_append_of_le_length (by simp), List.take_of_length_le (l := List.map _ _) (by simp)] at e
        rw [Nat.mul_one, e]; rfl
    · have hg := grownBy_sorted (w := w) (g := g) (n := q) (os := #[]) (Lib.compact l ++ List.replicate (l.length - (Lib.compact l).length) []).toArray
      rw [Sort.grow_empty] at hg
      exact (Below.refl _ _).grown hg hB (by intro k hk; injection hk with hk; omega)

theorem clone_own (A : Option Addr) (l : List Str) (n c : Nat) (w : World) (hr : Rd w 1 A n (strs l)) (hm : n ≤ 100000) :
    Calls Try.prog 24 #[.slice A n c] w fun e w' => ∃ v, e = .returned v ∧ w'.ownsRow w.heap.size 9 1 v l.length (strs l) ∧ Below w.heap.size w w' := by
  have hl := rd_len hr
  subst hl
  rcases Nat.eq_zero_or_pos l.length with h0 | h0
  · have hl : l = [] := List.eq_nil_of_length_eq_zero h0
    subst hl
    cases A with
    | none =>
      refine (Try.slices_Clone_string_nil 0 c w).mono ?_
      rintro e w' ⟨rfl, rfl⟩
      exact ⟨_, rfl, World.ownsRow_nil _ _ _ _, Below.refl _ _⟩
    | some a =>
      refine (Try.slices_Clone_string_zero a c w).mono ?_
      rintro e w' ⟨v, rfl, hrow, _, hb⟩
      exact ⟨_, rfl, hrow, hb⟩
  · obtain ⟨b, o, rfl, hc⟩ := hr.str (k := 0) h0
    refine (Try.slices_Clone_string b o l.length c (l.map bstr) w (by simp) (by omega) (by intro j hj; have hj' : j < l.length := by simpa using hj
                                                                                           rw [hc j hj']; simp [hj'])).mono ?_
    rintro e w' ⟨v, rfl, hrow, _, hb⟩
    refine ⟨v, rfl, ?_, hb⟩
    have e : ((l.map bstr).take l.length).map Value.string = strs l := by rw [List.take_of_length_le (by simp)]; simp [strs]
    rw [e] at hrow
    exact hrow

theorem of_any (A : Option Addr) (l : List Str) (n c : Nat) (w : World) (hr : Rd w 1 A n (strs l)) (hm : n ≤ 100000) :
    Calls Try.prog 11 #[.slice A n c] w fun e w' => ∃ v, e = .returned v ∧ w'.ownsRow w.heap.size 9 1 v (setOf l).length (strs (setOf l)) ∧ Below w.heap.size w w' := by
  have hl := rd_len hr
  go_enter Try.func11, Try.ntmps11
  go_wp2_with fail
  refine (clone_own A l n c _ hr hm).mono ?_
  rintro e w1 ⟨v1, rfl, hrow1, hb1⟩
  go_wp2_with fail
  refine (sort_own _ _ v1 l hrow1 hb1.size (by omega)).mono ?_
  rintro e w2 ⟨rfl, hrow2, hb2⟩
  have hB := hb1.trans hb2
  go_wp2_with fail
  refine (compact_own _ _ v1 _ (by rw [ms_len]; exact hrow2) hB.size (by rw [ms_len]; omega)).mono ?_
  rintro e w3 ⟨v3, rfl, hrow3, hb3⟩
  go_wp2_with fail
  go_returns
  exact ⟨_, rfl, hrow3, hB.trans hb3⟩
end Go.Proofs.Ytapdalddacegbaa
