/-
  Core expressions as they lie in memory: their own fields, their parts.
-/
import Derived.Test.YtpnihimoekkepaaStrs
import Derived.Test.YtpnihimoekkepaaBase
import Derived.Sort.OwnSorted
namespace Go.Proofs.Ytpnihimoekkepaa
open Go.ChangeShapes Go.WideShapes Go.ChangeAt Go.RowKit
set_option linter.unusedVariables false
set_option linter.unusedSimpArgs false

/-- An expression's own fields, and where its lists lie. -/
structure ExD where
  kind : Int
  n : Int
  s : Str
  t : Str
  nA : Option Addr
  nn : Nat
  nc : Nat
  names : List Str
  pA : Option Addr
  pn : Nat
  pc : Nat
inductive Ex where
  | mk (d : ExD) (l : List Ex)
def Ex.d : Ex → ExD
  | .mk d _ => d
def Ex.l : Ex → List Ex
  | .mk _ l => l
def ExD.cells (d : ExD) : List Value := [.int .i64 d.kind, .int .i64 d.n, .string (bstr d.s), .string (bstr d.t), .slice d.nA d.nn d.nc, .slice d.pA d.pn d.pc]
def Ex.cells (e : Ex) : List Value := e.d.cells
abbrev ExD.arr (d : ExD) : Array Value := #[.int .i64 d.kind, .int .i64 d.n, .string (bstr d.s), .string (bstr d.t), .slice d.nA d.nn d.nc, .slice d.pA d.pn d.pc]
theorem Ex.cells_len (e : Ex) : e.cells.length = 6 := rfl

inductive Ex.In (w : World) : Ex → Prop
  | mk (d : ExD) (l : List Ex) (nam : Rd w 1 d.nA d.nn (strs d.names)) (par : Rd w 6 d.pA d.pn (l.flatMap Ex.cells))
      (cap : (d.nn ≤ d.nc ∧ d.nc ≤ maxLen ∧ d.nn ≤ 4000000) ∧ (d.pn ≤ d.pc ∧ d.pc ≤ maxLen ∧ d.pn ≤ 4000000) ∧ d.s.length ≤ 4000000 ∧ d.t.length ≤ 4000000 ∧ (∀ s ∈ d.names, s.length ≤ 4000000))
      (sub : ∀ x ∈ l, Ex.In w x) : Ex.In w (.mk d l)
theorem Ex.In.nam {w : World} {e : Ex} (h : e.In w) : Rd w 1 e.d.nA e.d.nn (strs e.d.names) := by cases h; assumption
theorem Ex.In.par {w : World} {e : Ex} (h : e.In w) : Rd w 6 e.d.pA e.d.pn (e.l.flatMap Ex.cells) := by cases h; assumption
theorem Ex.In.cap {w : World} {e : Ex} (h : e.In w) : (e.d.nn ≤ e.d.nc ∧ e.d.nc ≤ maxLen ∧ e.d.nn ≤ 4000000) ∧ (e.d.pn ≤ e.d.pc ∧ e.d.pc ≤ maxLen ∧ e.d.pn ≤ 4000000) ∧ e.d.s.length ≤ 4000000 ∧ e.d.t.length ≤ 4000000 ∧ (∀ s ∈ e.d.names, s.length ≤ 4000000) := by cases h; assumption
theorem Ex.In.sub {w : World} {e : Ex} (h : e.In w) : ∀ x ∈ e.l, Ex.In w x := by cases h; assumption
theorem Ex.In.lower {w w' : World} {e : Ex} (h : e.In w) (hb : RowKit.Below w.heap.size w w') : e.In w' := by
  induction h with
  | mk d l nam par cap sub ih => exact .mk d l (nam.below hb) (par.below hb) cap ih

theorem flat_at {α : Type} {f : α → List Value} {q : Nat} (hq : ∀ y, (f y).length = q) : ∀ (l : List α) (k i : Nat) (hk : k < l.length), i < q → (l.flatMap f)[k * q + i]? = (f l[k])[i]?
  | [], k, i, hk, hi => by simp at hk
  | x :: l, 0, i, hk, hi => by
    rw [List.flatMap_cons, Nat.zero_mul, Nat.zero_add, List.getElem?_append_left (by rw [hq]; exact hi)]; rfl
  | x :: l, k + 1, i, hk, hi => by
    rw [List.flatMap_cons, List.getElem?_append_right (by rw [hq, Nat.add_mul]; omega), hq, show (k + 1) * q + i - q = k * q + i from by rw [Nat.add_mul]; omega]
    rw [flat_at hq l k i (by simpa using hk) hi]; rfl
theorem flat_len {α : Type} {f : α → List Value} {q : Nat} (hq : ∀ y, (f y).length = q) (l : List α) : (l.flatMap f).length = l.length * q := by
  induction l with
  | nil => simp
  | cons x l ih => rw [List.flatMap_cons, List.length_append, hq, ih, List.length_cons, Nat.add_mul]; omega
theorem Ex.In.len {w : World} {e : Ex} (h : e.In w) : e.l.length = e.d.pn := by have := h.par.1; rw [flat_len Ex.cells_len] at this; omega
theorem Ex.In.namLen {w : World} {e : Ex} (h : e.In w) : e.d.names.length = e.d.nn := by have := h.nam.1; rw [strs_length] at this; omega

theorem Rd.str {w : World} {A : Option Addr} {n : Nat} {l : List Str} (h : Rd w 1 A n (strs l)) {k : Nat} (hk : k < l.length) : ∃ b o, A = some ⟨b, o, none⟩ ∧ ∀ j (hj : j < l.length), w.cell? ⟨b, o + j, none⟩ = some (.string (bstr l[j])) := by
  obtain ⟨b, o, rfl, hb, hh⟩ := h.base (by rw [strs_length]; omega)
  exact ⟨b, o, rfl, fun j hj => hh j _ (by simp [strs, hj])⟩
theorem rd_len {w : World} {A : Option Addr} {n : Nat} {l : List Str} (h : Rd w 1 A n (strs l)) : l.length = n := by have := h.1; rw [strs_length] at this; omega

/-- An expression's own fields lie at a place. -/
structure ExD.At (d : ExD) (w : World) (b o : Nat) : Prop where
  c0 : w.cell? ⟨b, o, none⟩ = some (.int .i64 d.kind)
  c1 : w.cell? ⟨b, o + 1, none⟩ = some (.int .i64 d.n)
  c2 : w.cell? ⟨b, o + 2, none⟩ = some (.string (bstr d.s))
  c3 : w.cell? ⟨b, o + 3, none⟩ = some (.string (bstr d.t))
  c4 : w.cell? ⟨b, o + 4, none⟩ = some (.slice d.nA d.nn d.nc)
  c5 : w.cell? ⟨b, o + 5, none⟩ = some (.slice d.pA d.pn d.pc)
theorem ExD.At.lower {d : ExD} {w w' : World} {b o : Nat} (h : d.At w b o) (hb : RowKit.Below w.heap.size w w') : d.At w' b o :=
  ⟨cell_below hb h.c0, cell_below hb h.c1, cell_below hb h.c2, cell_below hb h.c3, cell_below hb h.c4, cell_below hb h.c5⟩
theorem ExD.At.lt {d : ExD} {w : World} {b o : Nat} (h : d.At w b o) : b < w.heap.size := World.block_lt_of_cell? w _ h.c0
/-- The parts, each where it lies. -/
theorem Ex.In.part {w : World} {e : Ex} (h : e.In w) {k : Nat} (hk : k < e.l.length) : ∃ b o, e.d.pA = some ⟨b, o, none⟩ ∧ ∀ j (hj : j < e.l.length), (e.l[j]).d.At w b (o + j * 6) := by
  obtain ⟨b, o, ee, hb, hh⟩ := h.par.base (by rw [flat_len Ex.cells_len]; omega)
  refine ⟨b, o, ee, fun j hj => ⟨?_, ?_, ?_, ?_, ?_, ?_⟩⟩
  · exact hh (j * 6 + 0) _ (flat_at Ex.cells_len e.l j 0 hj (by omega))
  · exact hh (j * 6 + 1) _ (flat_at Ex.cells_len e.l j 1 hj (by omega))
  · exact hh (j * 6 + 2) _ (flat_at Ex.cells_len e.l j 2 hj (by omega))
  · exact hh (j * 6 + 3) _ (flat_at Ex.cells_len e.l j 3 hj (by omega))
  · exact hh (j * 6 + 4) _ (flat_at Ex.cells_len e.l j 4 hj (by omega))
  · exact hh (j * 6 + 5) _ (flat_at Ex.cells_len e.l j 5 hj (by omega))
/-- A value that was put into a new block. -/
theorem ex_box (w : World) (d : ExD) : d.At (w.alloc (.cells d.arr 25)) w.heap.size 0 := ⟨cell_new w _ _ 0 rfl, cell_new w _ _ 1 rfl, cell_new w _ _ 2 rfl, cell_new w _ _ 3 rfl, cell_new w _ _ 4 rfl, cell_new w _ _ 5 rfl⟩
end Go.Proofs.Ytpnihimoekkepaa
