/-
  Types as they lie in memory; whether a type's own fields may be.
-/
import Derived.Test.YtlgmddnpmmggdaaDoorSetB
import Derived.Test.YtlgmddnpmmggdaaDoorCodes
import Derived.Lib.QuietBelow
import Derived.Lib.Hide
namespace Go.Proofs.YtlgmddnpmmggdaaDoor
open Go.ChangeShapes Go.WideShapes Go.ChangeAt Go.RowKit Go.Sort
set_option linter.unusedVariables false
set_option linter.unusedSimpArgs false

/-- A type's own fields, and where its lists lie. -/
structure TyD where
  kind : Int
  n : Int
  pA : Option Addr
  pn : Nat
  pc : Nat
  lA : Option Addr
  ln : Nat
  lc : Nat
  labels : List Str
  tail : Int
inductive Ty where
  | mk (d : TyD) (l : List Ty)
def Ty.d : Ty → TyD
  | .mk d _ => d
def Ty.l : Ty → List Ty
  | .mk _ l => l
def TyD.cells (d : TyD) : List Value := [.int .i64 d.kind, .int .i64 d.n, .slice d.pA d.pn d.pc, .slice d.lA d.ln d.lc, .int .i64 d.tail]
def Ty.cells (t : Ty) : List Value := t.d.cells
abbrev TyD.arr (d : TyD) : Array Value := #[.int .i64 d.kind, .int .i64 d.n, .slice d.pA d.pn d.pc, .slice d.lA d.ln d.lc, .int .i64 d.tail]
theorem Ty.cells_len (t : Ty) : t.cells.length = 5 := rfl

inductive Ty.In (w : World) : Ty → Prop
  | mk (d : TyD) (l : List Ty) (lab : Rd w 1 d.lA d.ln (strs d.labels)) (par : Rd w 5 d.pA d.pn (l.flatMap Ty.cells)) (cap : d.ln ≤ d.lc ∧ d.lc ≤ maxLen ∧ d.pn ≤ d.pc ∧ d.pc ≤ maxLen ∧ d.ln ≤ 4000000 ∧ d.pn ≤ 4000000) (sub : ∀ x ∈ l, Ty.In w x) : Ty.In w (.mk d l)
theorem Ty.In.lab {w : World} {t : Ty} (h : t.In w) : Rd w 1 t.d.lA t.d.ln (strs t.d.labels) := by cases h; assumption
theorem Ty.In.par {w : World} {t : Ty} (h : t.In w) : Rd w 5 t.d.pA t.d.pn (t.l.flatMap Ty.cells) := by cases h; assumption
theorem Ty.In.cap {w : World} {t : Ty} (h : t.In w) : t.d.ln ≤ t.d.lc ∧ t.d.lc ≤ maxLen ∧ t.d.pn ≤ t.d.pc ∧ t.d.pc ≤ maxLen ∧ t.d.ln ≤ 4000000 ∧ t.d.pn ≤ 4000000 := by cases h; assumption
theorem Ty.In.sub {w : World} {t : Ty} (h : t.In w) : ∀ x ∈ t.l, Ty.In w x := by cases h; assumption
theorem Ty.In.lower {w w' : World} {t : Ty} (h : t.In w) (hb : Below w.heap.size w w') : t.In w' := by
  induction h with
  | mk d l lab par cap sub ih => exact .mk d l (lab.below hb) (par.below hb) cap ih

theorem flat_at {α : Type} {f : α → List Value} {q : Nat} (hq : ∀ y, (f y).length = q) : ∀ (l : List α) (k i : Nat) (hk : k < l.length), i < q → (l.flatMap f)[k * q + i]? = (f l[k])[i]?
  | [], k, i, hk, hi => by simp at hk
  | x :: l, 0, i, hk, hi => by
    rw [List.flatMap_cons, Nat.zero_mul, Nat.zero_add, List.getElem?_append_left (by rw [hq]; exact hi)]; rfl
  | x :: l, k + 1, i, hk, hi => by
    rw [List.flatMap_cons, List.getElem?_append_right (by rw [hq, Nat.add_mul]; omega), hq, show (k + 1) * q + i - q = k * q + i from by rw [Nat.add_mul]; omega]
    rw [flat_at hq l k i (by simpa using hk) hi]; rfl
theorem flat_len {α : Type} {f : α → List Value} {q : Nat} (hq : ∀ y, (f y).length = q) (l : List α) : (l.flatMap f).length = l.length * q := by
  induction l with
  | nil => simp
  | cons x l ih => rw [List.flatMap_cons, List.length_append, hq, ih, List.length_cons, Nat.add_mul]; omega
theorem Ty.In.len {w : World} {t : Ty} (h : t.In w) : t.l.length = t.d.pn := by have := h.par.1; rw [flat_len Ty.cells_len] at this; omega
theorem Ty.In.labLen {w : World} {t : Ty} (h : t.In w) : t.d.labels.length = t.d.ln := by have := h.lab.1; rw [strs_length] at this; omega

/-- A type's own fields lie at a place. -/
structure TyD.At (d : TyD) (w : World) (b o : Nat) : Prop where
  c0 : w.cell? ⟨b, o, none⟩ = some (.int .i64 d.kind)
  c1 : w.cell? ⟨b, o + 1, none⟩ = some (.int .i64 d.n)
  c2 : w.cell? ⟨b, o + 2, none⟩ = some (.slice d.pA d.pn d.pc)
  c3 : w.cell? ⟨b, o + 3, none⟩ = some (.slice d.lA d.ln d.lc)
  c4 : w.cell? ⟨b, o + 4, none⟩ = some (.int .i64 d.tail)
theorem TyD.At.lower {d : TyD} {w w' : World} {b o : Nat} (h : d.At w b o) (hb : Below w.heap.size w w') : d.At w' b o :=
  ⟨cell_below hb h.c0, cell_below hb h.c1, cell_below hb h.c2, cell_below hb h.c3, cell_below hb h.c4⟩
theorem TyD.At.lt {d : TyD} {w : World} {b o : Nat} (h : d.At w b o) : b < w.heap.size := World.block_lt_of_cell? w _ h.c0
/-- The parts, each where it lies. -/
theorem Ty.In.part {w : World} {t : Ty} (h : t.In w) {k : Nat} (hk : k < t.l.length) : ∃ b o, t.d.pA = some ⟨b, o, none⟩ ∧ ∀ j (hj : j < t.l.length), (t.l[j]).d.At w b (o + j * 5) := by
  obtain ⟨b, o, e, hb, hh⟩ := h.par.base (by rw [flat_len Ty.cells_len]; omega)
  refine ⟨b, o, e, fun j hj => ⟨?_, ?_, ?_, ?_, ?_⟩⟩
  · exact hh (j * 5 + 0) _ (flat_at Ty.cells_len t.l j 0 hj (by omega))
  · exact hh (j * 5 + 1) _ (flat_at Ty.cells_len t.l j 1 hj (by omega))
  · exact hh (j * 5 + 2) _ (flat_at Ty.cells_len t.l j 2 hj (by omega))
  · exact hh (j * 5 + 3) _ (flat_at Ty.cells_len t.l j 3 hj (by omega))
  · exact hh (j * 5 + 4) _ (flat_at Ty.cells_len t.l j 4 hj (by omega))

/-! ### A type's own fields -/
def TyD.bareB (d : TyD) (m : Int) : Bool := decide ((d.pn : Int) = m) && decide (d.ln = 0) && decide (d.tail = -1)
def TyD.fieldsB (d : TyD) : Bool :=
  if d.kind = 4 ∨ d.kind = 5 then decide (d.n = 0) && decide (-1 ≤ d.tail) && decide (d.pn = d.ln) && isB d.labels && !decide (([] : Str) ∈ d.labels)
  else if d.kind = 7 then decide (0 ≤ d.n) && d.bareB 0
  else if d.kind = 3 then decide (d.n = 0) && d.bareB 2
  else if d.kind = 6 then decide (d.n = 0) && d.bareB 1
  else if d.kind = 1 ∨ d.kind = 2 then decide (d.n = 0) && d.bareB 0
  else false

theorem isBare_any (d : TyD) (b o : Nat) (m : Int) (w : World) (h : d.At w b o) : Calls Tryd.prog 49 #[.pointer (some ⟨b, o, none⟩), .int .i64 m] w fun e w' => e = .returned (.bool (d.bareB m)) ∧ w' = w := by
  obtain ⟨c0, c1, c2, c3, c4⟩ := h
  unfold TyD.bareB
  by_cases h1 : (d.pn : Int) = m
  · have q1 : ((d.pn : Int) == m) = true := by simpa using h1
    by_cases h2 : d.ln = 0
    · have q2 : ((d.ln : Int) == 0) = true := by simpa using h2
      go_enter Tryd.func49, Tryd.ntmps49
      go_wp2_with fail
      go_returns
      exact ⟨by simp [h1, h2]; rfl, rfl⟩
    · have q2 : ((d.ln : Int) == 0) = false := by simpa using h2
      go_enter Tryd.func49, Tryd.ntmps49
      go_wp2_with fail
      go_returns
      exact ⟨by simp [h2], rfl⟩
  · have q1 : ((d.pn : Int) == m) = false := by simpa using h1
    go_enter Tryd.func49, Tryd.ntmps49
    go_wp2_with fail
    go_returns
    exact ⟨by simp [h1], rfl⟩
end Go.Proofs.YtlgmddnpmmggdaaDoor
