/-
  The law HeapKeeps: the deeds as they lie in memory.
-/
import Derived.Test.YthblcfhflkapmaaHpAQ
namespace Go.Proofs.Ythblcfhflkapmaa
open Go Go.ChangeShapes Go.WideShapes Go.ChangeAt Go.RowKit Go.Sort
set_option linter.unusedVariables false
set_option linter.unusedSimpArgs false

/-- A deed. -/
structure Dd where
  what : Int
  kind : Int
  place : Int
  i : Int
  near : Bool
  u : Wd
  A : Option Addr
  c : Nat
  l : List Wd
def Dd.cells (d : Dd) : List Value := [.int .i64 d.what, .int .i64 d.kind, .int .i64 d.place, .int .i64 d.i, .bool d.near, .bool d.u.ptr, .int .i64 d.u.v, .slice d.A d.l.length d.c]
def I64 (n : Int) : Prop := -9223372036854775808 ≤ n ∧ n ≤ 9223372036854775807
/-- The deeds in memory, each with its words. -/
structure DR (w : World) (A : Option Addr) (ds : List Dd) : Prop where
  row : Rd w 8 A ds.length (ds.flatMap Dd.cells)
  ws : ∀ d ∈ ds, Rd w 2 d.A d.l.length (wcells d.l)
  rg : ∀ d ∈ ds, ∀ u ∈ d.l, I64 u.v
theorem DR.below {w w' : World} {A : Option Addr} {ds : List Dd} (h : DR w A ds) (hb : Below w.heap.size w w') : DR w' A ds := ⟨h.row.below hb, fun d hd => (h.ws d hd).below hb, h.rg⟩
theorem dd_at {ds : List Dd} {k : Nat} {d : Dd} (h : ds[k]? = some d) (j : Nat) (u : Value) (hj : j < 8) (hu : d.cells[j]? = some u) : (ds.flatMap Dd.cells)[k * 8 + j]? = some u := by
  induction ds generalizing k with
  | nil => simp at h
  | cons x l ih =>
    rw [List.flatMap_cons]
    cases k with
    | zero =>
      simp only [List.getElem?_cons_zero, Option.some.injEq] at h
      subst h
      rw [Nat.zero_mul, Nat.zero_add, List.getElem?_append_left (by show j < 8; exact hj)]
      exact hu
    | succ k =>
      rw [List.getElem?_append_right (by show 8 ≤ _; omega), show (k + 1) * 8 + j - x.cells.length = k * 8 + j by show (k + 1) * 8 + j - 8 = _; omega]
      exact ih (by simpa using h)
theorem dds_len (ds : List Dd) : (ds.flatMap Dd.cells).length = ds.length * 8 := by
  induction ds with
  | nil => rfl
  | cons x l ih => rw [List.flatMap_cons, List.length_append, ih, List.length_cons]; show 8 + _ = _; omega
/-- A deed's cells. -/
theorem DR.at {w : World} {A : Option Addr} {ds : List Dd} (h : DR w A ds) {k : Nat} {d : Dd} (hk : ds[k]? = some d) : ∃ b o, A = some ⟨b, o, none⟩ ∧ b < w.heap.size ∧ w.cell? ⟨b, o + (k * 8 + 1), none⟩ = some (.int .i64 d.kind) ∧ w.cell? ⟨b, o + (k * 8 + 3), none⟩ = some (.int .i64 d.i) ∧ w.cell? ⟨b, o + (k * 8 + 7), none⟩ = some (.slice d.A d.l.length d.c) := by
  have hkl := (List.getElem?_eq_some_iff.1 hk).1
  obtain ⟨b, o, rfl, hb, hh⟩ := h.row.base (by rw [dds_len]; omega)
  exact ⟨b, o, rfl, hb, hh _ _ (dd_at hk 1 _ (by omega) rfl), hh _ _ (dd_at hk 3 _ (by omega) rfl), hh _ _ (dd_at hk 7 _ (by omega) rfl)⟩
end Go.Proofs.Ythblcfhflkapmaa
