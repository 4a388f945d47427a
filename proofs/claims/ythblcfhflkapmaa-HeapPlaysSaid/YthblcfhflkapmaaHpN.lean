/-
  The heap as it lies in memory; whether an object stands at a place.
-/
import Derived.Test.YthblcfhflkapmaaHpM
namespace Go.Proofs.Ythblcfhflkapmaa
open Go Go.ChangeShapes Go.WideShapes Go.ChangeAt Go.RowKit Go.Sort
set_option linter.unusedVariables false
set_option linter.unusedSimpArgs false

abbrev WTy : TypeId := 36
abbrev BTy : TypeId := 4
abbrev HTy : TypeId := 77
abbrev FTy : TypeId := 75
/-- What stays, from a world to a later one. -/
def Tr (w : World) (P : Nat → Prop) (w' : World) (Q : Nat → Prop) : Prop := ∀ b, P b → b < w.heap.size → Q b ∧ w'.heap[b]? = w.heap[b]?
theorem Tr.refl (w : World) (P : Nat → Prop) : Tr w P w P := fun _ h _ => ⟨h, rfl⟩
theorem Tr.trans {a b c : World} {P Q R : Nat → Prop} (h : Tr a P b Q) (hs : a.heap.size ≤ b.heap.size) (k : Tr b Q c R) : Tr a P c R := fun i hi hl => ⟨(k i (h i hi hl).1 (by omega)).1, (k i (h i hi hl).1 (by omega)).2.trans (h i hi hl).2⟩
theorem Tr.below {w w' : World} {P : Nat → Prop} (h : Below w.heap.size w w') : Tr w P w' P := fun b hb hl => ⟨hb, h.block b hl⟩
/-- Blocks that are none of the heap's. -/
def Nh (hb : Nat) (V G V' G' : Value) (b : Nat) : Prop := b ≠ hb ∧ some b ≠ V.ownBlock ∧ some b ≠ G.ownBlock ∧ some b ≠ V'.ownBlock ∧ some b ≠ G'.ownBlock
/-- The heap. -/
structure CH (w : World) (B hb : Nat) (size runs : Int) (L : List Ob) (V G V' G' : Value) : Prop where
  hd : w.heap[hb]? = some (.cells #[.int .i64 size, .int .i64 runs, V, G, V', G'] HTy)
  fw : w.ownsRow B WTy 2 V (sizes L) (wcells (flat L))
  fg : w.ownsRow B BTy 1 G (sizes L) (bcells (begs L))
  sw : ∃ n xs, w.ownsRow B WTy 2 V' n xs
  sg : ∃ n xs, w.ownsRow B BTy 1 G' n xs
  dw : ∀ q, V.ownBlock = some q → V'.ownBlock ≠ some q
  dg : ∀ q, G.ownBlock = some q → G'.ownBlock ≠ some q
  ge : B ≤ hb
theorem CH.below {w w' : World} {B hb : Nat} {size runs : Int} {L : List Ob} {V G V' G' : Value} (h : CH w B hb size runs L V G V' G') (hb' : Below w.heap.size w w') : CH w' B hb size runs L V G V' G' := by
  obtain ⟨n1, x1, h1⟩ := h.sw
  obtain ⟨n2, x2, h2⟩ := h.sg
  exact ⟨(hb'.block hb (lt_of_heap h.hd)).trans h.hd, own_below h.fw hb', own_below h.fg hb', ⟨n1, x1, own_below h1 hb'⟩, ⟨n2, x2, own_below h2 hb'⟩, h.dw, h.dg, h.ge⟩
theorem cells6 {w : World} {g : Nat} {x0 x1 x2 x3 x4 x5 : Value} {T : TypeId} {fr : Nat × Nat} (h : w.heap[g]? = some (.cells #[x0, x1, x2, x3, x4, x5] T fr)) :
    w.cell? ⟨g, 0, none⟩ = some x0 ∧ w.cell? ⟨g, 1, none⟩ = some x1 ∧ w.cell? ⟨g, 2, none⟩ = some x2 ∧ w.cell? ⟨g, 3, none⟩ = some x3 ∧ w.cell? ⟨g, 4, none⟩ = some x4 ∧ w.cell? ⟨g, 5, none⟩ = some x5 := by
  refine ⟨?_, ?_, ?_, ?_, ?_, ?_⟩ <;> (rw [Lib.cell_of_heap h]; rfl)
theorem cells2 {w : World} {g : Nat} {x0 x1 : Value} {T : TypeId} {fr : Nat × Nat} (h : w.heap[g]? = some (.cells #[x0, x1] T fr)) : w.cell? ⟨g, 0, none⟩ = some x0 ∧ w.cell? ⟨g, 1, none⟩ = some x1 := by
  refine ⟨?_, ?_⟩ <;> (rw [Lib.cell_of_heap h]; rfl)
theorem frozenN {w : World} {g : Nat} {cs : Array Value} {T : TypeId} (h : w.heap[g]? = some (.cells cs T (0, 0))) (i : Nat) : w.frozen? ⟨g, i, none⟩ = false := Lib.frozen_of_heap h i
section
variable {w : World} {B hb : Nat} {size runs : Int} {L : List Ob} {V G V' G' : Value}
set_option maxRecDepth 100000 in
set_option maxHeartbeats 2000000 in
theorem isObject_any (h : CH w B hb size runs L V G V' G') (hs : sizes L ≤ 4000000) (p : Int) :
    Calls Try.prog 39 #[.pointer (some ⟨hb, 2, none⟩), .int .i64 p] w fun e w' => e = .returned (.bool (at_ L p).isSome) ∧ w = w' := by
  obtain ⟨x0, x1, x2, x3, x4, x5⟩ := cells6 h.hd
  have hfg := h.fg
  by_cases q0 : p < 0
  · have n0 : decide (0 ≤ p) = false := decide_eq_false (by omega)
    have n1 : ¬ (0 ≤ p) := by omega
    rw [at_none_neg q0]
    clear h hfg
    go_enter Try.func39, Try.ntmps39
    go_wp2_with fail
    go_returns
    exact ⟨rfl, rfl⟩
  obtain ⟨k, rfl⟩ : ∃ k : Nat, p = k := ⟨p.toNat, by omega⟩
  have n0 : decide ((0 : Int) ≤ (k : Int)) = true := decide_eq_true (by omega)
  obtain ⟨A, c, rfl, _⟩ := own_cap hfg
  by_cases q1 : sizes L ≤ k
  · have n1 : decide ((k : Int) < (sizes L : Int)) = false := decide_eq_false (by omega)
    rw [at_none_big (by omega)]
    clear h hfg
    go_enter Try.func39, Try.ntmps39
    go_wp2_with fail
    go_returns
    exact ⟨rfl, rfl⟩
  · have n1 : decide ((k : Int) < (sizes L : Int)) = true := decide_eq_true (by omega)
    obtain ⟨m, hm⟩ : ∃ m, sizes L = m + 1 := ⟨sizes L - 1, by omega⟩
    have hfg' := hfg
    rw [hm] at hfg'
    obtain ⟨q, cap, e⟩ := own_some hfg'
    injection e with e1 e2 e3
    subst e1
    obtain ⟨b, hbk⟩ : ∃ b, (begs L)[k]? = some b := ⟨_, List.getElem?_eq_getElem (by rw [begs_length]; omega)⟩
    have hc := (own_cell hfg (bcells_at hbk)).1
    rw [at_begs L k b hbk]
    have i1 : (k : Int) < (sizes L : Int) := by omega
    have i0 : (0 : Int) ≤ (k : Int) := by omega
    have i2 : (sizes L : Int) ≤ 4000000 := by omega
    clear h hfg hfg' hbk q0 q1 hm
    go_enter Try.func39, Try.ntmps39
    go_wp2_with fail
    go_returns
    exact ⟨rfl, rfl⟩
end
end Go.Proofs.Ythblcfhflkapmaa
