/-
  Reading an image's parts; whether an image is small.
-/
import Derived.Test.YthdnnlelmelegaaCodeOpen
namespace Go.Proofs.Ythdnnlelmelegaa
open Go.ChangeShapes Go.WideShapes Go.ChangeAt Go.RowKit
set_option linter.unusedVariables false

theorem flat_at {α : Type} {f : α → List Value} {q : Nat} (hq : ∀ y, (f y).length = q) : ∀ (l : List α) (k i : Nat) (hk : k < l.length), i < q → (l.flatMap f)[k * q + i]? = (f l[k])[i]?
  | [], k, i, hk, hi => by simp at hk
  | x :: l, 0, i, hk, hi => by
    rw [List.flatMap_cons, Nat.zero_mul, Nat.zero_add, List.getElem?_append_left (by rw [hq]; exact hi)]; rfl
  | x :: l, k + 1, i, hk, hi => by
    rw [List.flatMap_cons, List.getElem?_append_right (by rw [hq, Nat.add_mul]; omega), hq, show (k + 1) * q + i - q = k * q + i from by rw [Nat.add_mul]; omega]
    rw [flat_at hq l k i (by simpa using hk) hi]; rfl
theorem flat_len {α : Type} {f : α → List Value} {q : Nat} (hq : ∀ y, (f y).length = q) (l : List α) : (l.flatMap f).length = l.length * q := by
  induction l with
  | nil => simp
  | cons x l ih => rw [List.flatMap_cons, List.length_append, hq, ih, List.length_cons, Nat.add_mul]; omega

theorem Rd.ints {w : World} {A : Option Addr} {n : Nat} {l : List Int} (h : Rd w 1 A n (i64s l)) : l.length = n := by have := h.1; rw [i64s_length] at this; omega
theorem Rd.insN {w : World} {A : Option Addr} {n : Nat} {l : List AIns} (h : Rd w 3 A n (l.flatMap AIns.cells)) : l.length = n := by have := h.1; rw [flat_len (q := 3) (fun _ => rfl)] at this; omega
theorem Rd.fncN {w : World} {A : Option Addr} {n : Nat} {l : List AFnc} (h : Rd w 3 A n (l.flatMap AFnc.cells)) : l.length = n := by have := h.1; rw [flat_len (q := 3) (fun _ => rfl)] at this; omega
theorem Rd.strN {w : World} {A : Option Addr} {n : Nat} {l : List Str} (h : Rd w 1 A n (strs l)) : l.length = n := by have := h.1; rw [strs_length] at this; omega

theorem Rd.int {w : World} {A : Option Addr} {n : Nat} {l : List Int} (h : Rd w 1 A n (i64s l)) {k : Nat} (hk : k < l.length) : ∃ b o, A = some ⟨b, o, none⟩ ∧ b < w.heap.size ∧ ∀ j (hj : j < l.length), w.cell? ⟨b, o + j, none⟩ = some (.int .i64 l[j]) := by
  obtain ⟨b, o, rfl, hb, hh⟩ := h.base (by rw [i64s_length]; omega)
  exact ⟨b, o, rfl, hb, fun j hj => hh j _ (i64s_at l j hj)⟩
theorem Rd.str {w : World} {A : Option Addr} {n : Nat} {l : List Str} (h : Rd w 1 A n (strs l)) {k : Nat} (hk : k < l.length) : ∃ b o, A = some ⟨b, o, none⟩ ∧ b < w.heap.size ∧ ∀ j (hj : j < l.length), w.cell? ⟨b, o + j, none⟩ = some (.string (bstr l[j])) := by
  obtain ⟨b, o, rfl, hb, hh⟩ := h.base (by rw [strs_length]; omega)
  exact ⟨b, o, rfl, hb, fun j hj => hh j _ (strs_at l j hj)⟩
theorem Rd.ins {w : World} {A : Option Addr} {n : Nat} {l : List AIns} (h : Rd w 3 A n (l.flatMap AIns.cells)) {k : Nat} (hk : k < l.length) : ∃ b o, A = some ⟨b, o, none⟩ ∧ b < w.heap.size ∧
    ∀ j (hj : j < l.length), w.cell? ⟨b, o + j * 3, none⟩ = some (.int .i64 l[j].op) ∧ w.cell? ⟨b, o + j * 3 + 1, none⟩ = some (.int .i64 l[j].a) ∧ w.cell? ⟨b, o + j * 3 + 2, none⟩ = some (.slice l[j].A l[j].n l[j].c) := by
  obtain ⟨b, o, rfl, hb, hh⟩ := h.base (by rw [flat_len (q := 3) (fun _ => rfl)]; omega)
  refine ⟨b, o, rfl, hb, fun j hj => ⟨?_, ?_, ?_⟩⟩
  · exact hh (j * 3 + 0) _ (flat_at (q := 3) (fun _ => rfl) l j 0 hj (by omega))
  · exact hh (j * 3 + 1) _ (flat_at (q := 3) (fun _ => rfl) l j 1 hj (by omega))
  · exact hh (j * 3 + 2) _ (flat_at (q := 3) (fun _ => rfl) l j 2 hj (by omega))
theorem Rd.fnc {w : World} {A : Option Addr} {n : Nat} {l : List AFnc} (h : Rd w 3 A n (l.flatMap AFnc.cells)) {k : Nat} (hk : k < l.length) : ∃ b o, A = some ⟨b, o, none⟩ ∧ b < w.heap.size ∧
    ∀ j (hj : j < l.length), w.cell? ⟨b, o + j * 3, none⟩ = some (.int .i64 l[j].regs) ∧ w.cell? ⟨b, o + j * 3 + 1, none⟩ = some (.int .i64 l[j].caps) ∧ w.cell? ⟨b, o + j * 3 + 2, none⟩ = some (.slice l[j].A l[j].n l[j].c) := by
  obtain ⟨b, o, rfl, hb, hh⟩ := h.base (by rw [flat_len (q := 3) (fun _ => rfl)]; omega)
  refine ⟨b, o, rfl, hb, fun j hj => ⟨?_, ?_, ?_⟩⟩
  · exact hh (j * 3 + 0) _ (flat_at (q := 3) (fun _ => rfl) l j 0 hj (by omega))
  · exact hh (j * 3 + 1) _ (flat_at (q := 3) (fun _ => rfl) l j 1 hj (by omega))
  · exact hh (j * 3 + 2) _ (flat_at (q := 3) (fun _ => rfl) l j 2 hj (by omega))

/-- A number from 0 on, below another one. -/
def isInB (n m : Int) : Bool := decide (0 ≤ n ∧ n < m)

theorem isIn_any (n m : Int) (w : World) : Calls Try.prog 48 #[.int .i64 n, .int .i64 m] w fun e w' => e = .returned (.bool (isInB n m)) ∧ w' = w := by
  by_cases h0 : 0 ≤ n
  · by_cases h1 : n < m
    · go_enter Try.func48, Try.ntmps48
      go_wp2_with fail
      go_returns
      exact ⟨by rw [show isInB n m = true from decide_eq_true (by omega)]; rfl, rfl⟩
    · go_enter Try.func48, Try.ntmps48
      go_wp2_with fail
      go_returns
      exact ⟨by rw [show isInB n m = false from decide_eq_false (by omega)]; rfl, rfl⟩
  · go_enter Try.func48, Try.ntmps48
    go_wp2_with fail
    go_returns
    exact ⟨by rw [show isInB n m = false from decide_eq_false (by omega)]; rfl, rfl⟩

theorem refIn_any (n m : Int) (w : World) : Calls Try.prog 27 #[.int .i64 n, .int .i64 m] w fun e w' => e = .returned (.bool (isInB n m)) ∧ w' = w := by
  by_cases h0 : 0 ≤ n
  · by_cases h1 : n < m
    · go_enter Try.func27, Try.ntmps27
      go_wp2_with fail
      go_returns
      exact ⟨by rw [show isInB n m = true from decide_eq_true (by omega)]; rfl, rfl⟩
    · go_enter Try.func27, Try.ntmps27
      go_wp2_with fail
      go_returns
      exact ⟨by rw [show isInB n m = false from decide_eq_false (by omega)]; rfl, rfl⟩
  · go_enter Try.func27, Try.ntmps27
    go_wp2_with fail
    go_returns
    exact ⟨by rw [show isInB n m = false from decide_eq_false (by omega)]; rfl, rfl⟩
end Go.Proofs.Ythdnnlelmelegaa
