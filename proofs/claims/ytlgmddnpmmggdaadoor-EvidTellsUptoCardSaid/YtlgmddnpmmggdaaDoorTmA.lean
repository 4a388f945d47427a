/-
  The term that an evidence is, by the code.
-/
import Derived.Test.YtlgmddnpmmggdaaDoorNaA
namespace Go.Proofs.YtlgmddnpmmggdaaDoor
open Go.ChangeShapes Go.WideShapes Go.ChangeAt Go.RowKit Go.Sort
set_option linter.unusedVariables false
set_option linter.unusedSimpArgs false

def core1 (n : Int) : List Value := [.int .i64 1, .int .i64 n, .string ⟨#[]⟩, .string ⟨#[]⟩, .slice none 0 0, .slice none 0 0]
def core3 (s : Str) : List Value := [.int .i64 3, .int .i64 0, .string (bstr s), .string ⟨#[]⟩, .slice none 0 0, .slice none 0 0]

set_option maxRecDepth 100000 in
set_option maxHeartbeats 1000000 in
theorem term_neg (n row : Int) (s : ByteArray) (w : World) (hr : row < 0) : Calls Tryd.prog 12 #[.agg #[.int .i64 n, .int .i64 row, .string s]] w fun e w' => e = .returned (.agg (core1 n).toArray) ∧ Below w.heap.size w w' := by
  have q : decide (row < 0) = true := decide_eq_true hr
  unfold core1
  go_enter Tryd.func12, Tryd.ntmps12
  go_wp2_with fail
  go_returns
  exact ⟨rfl, (((Below.refl _ _).alloc (Nat.le_refl _) _).alloc (by simp) _).alloc (by simp; omega) _⟩

theorem set6 {w : World} {B : Nat} {a0 a1 a2 a3 a4 a5 : Value} (x0 x1 x2 x3 x4 x5 : Value) (r0 : w.cell? ⟨B, 0, none⟩ = some a0) (r1 : w.cell? ⟨B, 1, none⟩ = some a1) (r2 : w.cell? ⟨B, 2, none⟩ = some a2) (r3 : w.cell? ⟨B, 3, none⟩ = some a3) (r4 : w.cell? ⟨B, 4, none⟩ = some a4) (r5 : w.cell? ⟨B, 5, none⟩ = some a5) {W : World}
    (hW : W = (((((w.setCell ⟨B, 0, none⟩ x0).setCell ⟨B, 1, none⟩ x1).setCell ⟨B, 2, none⟩ x2).setCell ⟨B, 3, none⟩ x3).setCell ⟨B, 4, none⟩ x4).setCell ⟨B, 5, none⟩ x5) :
    W.cell? ⟨B, 0, none⟩ = some x0 ∧ W.cell? ⟨B, 1, none⟩ = some x1 ∧ W.cell? ⟨B, 2, none⟩ = some x2 ∧ W.cell? ⟨B, 3, none⟩ = some x3 ∧ W.cell? ⟨B, 4, none⟩ = some x4 ∧ W.cell? ⟨B, 5, none⟩ = some x5 := by
  subst hW
  refine ⟨?_, ?_, ?_, ?_, ?_, ?_⟩
  · iterate 5 (rw [World.cell?_setCell_other _ _ _ _ (by simp)])
    exact World.cell?_setCell_same _ _ _ r0
  · iterate 4 (rw [World.cell?_setCell_other _ _ _ _ (by simp)])
    exact World.cell?_setCell_same _ _ _ (by (iterate 1 (rw [World.cell?_setCell_other _ _ _ _ (by simp)])); exact r1)
  · iterate 3 (rw [World.cell?_setCell_other _ _ _ _ (by simp)])
    exact World.cell?_setCell_same _ _ _ (by (iterate 2 (rw [World.cell?_setCell_other _ _ _ _ (by simp)])); exact r2)
  · iterate 2 (rw [World.cell?_setCell_other _ _ _ _ (by simp)])
    exact World.cell?_setCell_same _ _ _ (by (iterate 3 (rw [World.cell?_setCell_other _ _ _ _ (by simp)])); exact r3)
  · iterate 1 (rw [World.cell?_setCell_other _ _ _ _ (by simp)])
    exact World.cell?_setCell_same _ _ _ (by (iterate 4 (rw [World.cell?_setCell_other _ _ _ _ (by simp)])); exact r4)
  · exact World.cell?_setCell_same _ _ _ (by (iterate 5 (rw [World.cell?_setCell_other _ _ _ _ (by simp)])); exact r5)

/-- A block's six cells, and that they may be written. -/
structure Six (w : World) (B : Nat) (a0 a1 a2 a3 a4 a5 : Value) : Prop where
  r0 : w.cell? ⟨B, 0, none⟩ = some a0
  r1 : w.cell? ⟨B, 1, none⟩ = some a1
  r2 : w.cell? ⟨B, 2, none⟩ = some a2
  r3 : w.cell? ⟨B, 3, none⟩ = some a3
  r4 : w.cell? ⟨B, 4, none⟩ = some a4
  r5 : w.cell? ⟨B, 5, none⟩ = some a5
  fr : ∀ j, w.frozen? ⟨B, j, none⟩ = false
theorem Six.of {w : World} {B : Nat} {a0 a1 a2 a3 a4 a5 : Value} {t : TypeId} (h : w.heap[B]? = some (.cells #[a0, a1, a2, a3, a4, a5] t)) : Six w B a0 a1 a2 a3 a4 a5 := by
  refine ⟨?_, ?_, ?_, ?_, ?_, ?_, fun j => ?_⟩
  all_goals first | (unfold World.cell?; rw [show (⟨B, _, none⟩ : Addr).block = B from rfl, h]; rfl) | (unfold World.frozen?; rw [show (⟨B, j, none⟩ : Addr).block = B from rfl, h]; simp)
theorem Six.below {w w1 : World} {B : Nat} {a0 a1 a2 a3 a4 a5 : Value} (h : Six w B a0 a1 a2 a3 a4 a5) (hb : Below w.heap.size w w1) : Six w1 B a0 a1 a2 a3 a4 a5 :=
  ⟨cell_below hb h.r0, cell_below hb h.r1, cell_below hb h.r2, cell_below hb h.r3, cell_below hb h.r4, cell_below hb h.r5, fun j => (hb.frozen (p := ⟨B, j, none⟩) (show B < w.heap.size from World.block_lt_of_cell? w _ h.r0)).trans (h.fr j)⟩
theorem Six.lt {w : World} {B : Nat} {a0 a1 a2 a3 a4 a5 : Value} (h : Six w B a0 a1 a2 a3 a4 a5) : B < w.heap.size := World.block_lt_of_cell? w _ h.r0

/-- The world in which the name is asked for. -/
theorem term_start (n row : Int) (s : ByteArray) (w : World) :
    let W := ((w.alloc (.cells #[.int .i64 n, .int .i64 row, .string s] 27)).alloc (.cells #[.int .i64 0, .int .i64 0, .string ⟨#[]⟩, .string ⟨#[]⟩, .slice none 0 0, .slice none 0 0] 46)).alloc (.cells #[.int .i64 1, .int .i64 n, .string ⟨#[]⟩, .string ⟨#[]⟩, .slice none 0 0, .slice none 0 0] 46)
    Below w.heap.size w W ∧ W.cell? ⟨w.heap.size, 0, none⟩ = some (.int .i64 n) ∧ W.cell? ⟨w.heap.size, 1, none⟩ = some (.int .i64 row) ∧ W.cell? ⟨w.heap.size, 2, none⟩ = some (.string s) ∧
      Six W (w.heap.size + 1) (.int .i64 0) (.int .i64 0) (.string ⟨#[]⟩) (.string ⟨#[]⟩) (.slice none 0 0) (.slice none 0 0) ∧ Six W (w.heap.size + 1 + 1) (.int .i64 1) (.int .i64 n) (.string ⟨#[]⟩) (.string ⟨#[]⟩) (.slice none 0 0) (.slice none 0 0) := by
  intro W
  have e1 : W.heap[w.heap.size + 1]? = some (.cells #[.int .i64 0, .int .i64 0, .string ⟨#[]⟩, .string ⟨#[]⟩, .slice none 0 0, .slice none 0 0] 46) := by
    refine (Below.heap_alloc _ _ _ (by rw [World.size_alloc, World.size_alloc]; omega)).trans ?_
    have := heap_alloc_new (w.alloc (.cells #[.int .i64 n, .int .i64 row, .string s] 27)) (.cells #[.int .i64 0, .int .i64 0, .string ⟨#[]⟩, .string ⟨#[]⟩, .slice none 0 0, .slice none 0 0] 46)
    rwa [World.size_alloc] at this
  have e2 : W.heap[w.heap.size + 1 + 1]? = some (.cells #[.int .i64 1, .int .i64 n, .string ⟨#[]⟩, .string ⟨#[]⟩, .slice none 0 0, .slice none 0 0] 46) := by
    have := heap_alloc_new ((w.alloc (.cells #[.int .i64 n, .int .i64 row, .string s] 27)).alloc (.cells #[.int .i64 0, .int .i64 0, .string ⟨#[]⟩, .string ⟨#[]⟩, .slice none 0 0, .slice none 0 0] 46)) (.cells #[.int .i64 1, .int .i64 n, .string ⟨#[]⟩, .string ⟨#[]⟩, .slice none 0 0, .slice none 0 0] 46)
    rwa [World.size_alloc, World.size_alloc] at this
  exact ⟨(((Below.refl _ _).alloc (Nat.le_refl _) _).alloc (by simp) _).alloc (by simp; omega) _, cell_alloc (cell_alloc (cell_new w _ _ 0 rfl)), cell_alloc (cell_alloc (cell_new w _ _ 1 rfl)), cell_alloc (cell_alloc (cell_new w _ _ 2 rfl)), Six.of e1, Six.of e2⟩
end Go.Proofs.YtlgmddnpmmggdaaDoor
