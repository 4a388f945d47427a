/-
  The walk of WordTells, way by way.
-/
import Derived.Test.YtjhkblaplfhfcaaWordF
import Derived.Deep.RegionHeld3
namespace Go.Proofs.Ytjhkblaplfhfcaa
open Go.ChangeShapes Go.WideShapes Go.ChangeAt Go.RowKit
set_option linter.unusedVariables false

theorem below_undrew {B : Nat} {w w' : World} (h : Below B w.drew w') : Below B w w' := ⟨h.os, h.tape, h.output, h.size, h.block⟩

theorem tells_yes_head (k s v n pl : Int) (h : headOk k s) (hp1 : 0 ≤ v) (hp2 : v ≤ 64015) (w : World) :
    Calls Try.prog 3 #[.int .i64 k, .int .i64 s, .agg #[.bool false, .int .i64 v], .int .i64 n, .int .i64 pl] w fun e w' => e = .returned (.bool true) ∧ Below w.heap.size w w' := by
  have HK := Lib.hid h
  clear h
  go_enter Try.func3, Try.ntmps3
  go_wp2_with fail
  refine (up_any _).mono ?_
  rintro e w1 ⟨rfl, hb1⟩
  go_wp2_with fail
  refine (head_yes k s HK.out _).mono ?_
  rintro e w2 ⟨rfl, hb2⟩
  go_wp2_with fail
  refine (refHead_yes k s HK.out _).mono ?_
  rintro e w3 ⟨rfl, hb3⟩
  go_wp2_with fail
  have c1 : (w3.alloc (Obj.cells #[Value.bool false, Value.int IntKind.i64 (16 * s + k)] 29)).cell? ⟨w2.heap.size, 0, none⟩ = some (.bool false) := cell_alloc (cell_below hb3 (cell_new w2 _ _ 0 rfl))
  have c2 : (w3.alloc (Obj.cells #[Value.bool false, Value.int IntKind.i64 (16 * s + k)] 29)).cell? ⟨w2.heap.size, 1, none⟩ = some (.int .i64 (16 * s + k)) := cell_alloc (cell_below hb3 (cell_new w2 _ _ 1 rfl))
  have c3 : (w3.alloc (Obj.cells #[Value.bool false, Value.int IntKind.i64 (16 * s + k)] 29)).cell? ⟨w3.heap.size, 0, none⟩ = some (.bool false) := cell_new w3 _ _ 0 rfl
  have c4 : (w3.alloc (Obj.cells #[Value.bool false, Value.int IntKind.i64 (16 * s + k)] 29)).cell? ⟨w3.heap.size, 1, none⟩ = some (.int .i64 (16 * s + k)) := cell_new w3 _ _ 1 rfl
  have hb4 : Below w3.heap.size w3 (w3.alloc (Obj.cells #[Value.bool false, Value.int IntKind.i64 (16 * s + k)] 29)) := (Below.refl _ _).alloc (Nat.le_refl _) _
  generalize (w3.alloc (Obj.cells #[Value.bool false, Value.int IntKind.i64 (16 * s + k)] 29)) = w4 at *
  go_region_held3 (fun w' => w'.cell? ⟨w2.heap.size, 0, none⟩ = some (.bool false) ∧ w'.cell? ⟨w2.heap.size, 1, none⟩ = some (.int .i64 (16 * s + k)) ∧ w'.cell? ⟨w3.heap.size, 0, none⟩ = some (.bool false) ∧ w'.cell? ⟨w3.heap.size, 1, none⟩ = some (.int .i64 (16 * s + k)))
    (first | (simp [*]; done) | (refine ⟨?_, ?_, ?_, ?_⟩ <;> (refine cell_below (by assumption) ?_; simp [*])))
    ((go_at_call 9; refine (as_any _ _ _).mono ?_; rintro e w' ⟨rfl, hbA⟩))
  replace hbA : Below w4.heap.size w4 w' := below_undrew hbA
  have hbA' : Below w.heap.size w w' := below_then ((Below.refl _ _).alloc (Nat.le_refl _) _) (below_then hb1 (below_then hb2 (below_then ((Below.refl _ _).alloc (Nat.le_refl _) _) (below_then hb3 (below_then hb4 hbA)))))
  have d1 : w'.cell? ⟨w.heap.size, 0, none⟩ = some (.bool false) := cell_below hbA (cell_below hb4 (cell_below hb3 (cell_alloc (cell_below hb2 (cell_below hb1 (cell_new w _ _ 0 rfl))))))
  have d2 : w'.cell? ⟨w.heap.size, 1, none⟩ = some (.int .i64 v) := cell_below hbA (cell_below hb4 (cell_below hb3 (cell_alloc (cell_below hb2 (cell_below hb1 (cell_new w _ _ 1 rfl))))))
  clear hb1 hb2 hb3 hb4 hbA c1 c2 c3 c4
  go_wp2_with fail
  refine (parts_yes v hp1 hp2 _).mono ?_
  rintro e w5 ⟨rfl, hb5⟩
  have d3 := cell_below hb5 d1
  have d4 := cell_below hb5 d2
  go_wp2_with fail
  refine (as_any _ _ _).mono ?_
  rintro e w6 ⟨rfl, hb6⟩
  have d5 := cell_below hb6 d3
  have d6 := cell_below hb6 d4
  go_wp2_with fail
  refine (refParts_yes v hp1 hp2 _).mono ?_
  rintro e w7 ⟨rfl, hb7⟩
  have d7 := cell_below hb7 d5
  have d8 := cell_below hb7 d6
  go_wp2_with fail
  refine (moved_int _ _).mono ?_
  rintro e w8 ⟨rfl, hb8⟩
  have d9 := cell_below hb8 d7
  have d10 := cell_below hb8 d8
  go_wp2_with fail
  refine (int_any _ _).mono ?_
  rintro e w9 ⟨rfl, hb9⟩
  go_wp2_with fail
  refine (at_any _ _).mono ?_
  rintro e w10 ⟨rfl, hb10⟩
  go_wp2_with fail
  go_returns
  exact ⟨rfl, below_then hbA' (below_then hb5 (below_then hb6 (below_then hb7 (below_then hb8 (below_then hb9 hb10)))))⟩

theorem tells_yes_int (k s v n pl : Int) (h : headOk k s) (hp : ¬ isHead false v) (w : World) :
    Calls Try.prog 3 #[.int .i64 k, .int .i64 s, .agg #[.bool false, .int .i64 v], .int .i64 n, .int .i64 pl] w fun e w' => e = .returned (.bool true) ∧ Below w.heap.size w w' := by
  have HK := Lib.hid h
  clear h
  have HP := Lib.hid hp
  clear hp
  go_enter Try.func3, Try.ntmps3
  go_wp2_with fail
  refine (up_any _).mono ?_
  rintro e w1 ⟨rfl, hb1⟩
  go_wp2_with fail
  refine (head_yes k s HK.out _).mono ?_
  rintro e w2 ⟨rfl, hb2⟩
  go_wp2_with fail
  refine (refHead_yes k s HK.out _).mono ?_
  rintro e w3 ⟨rfl, hb3⟩
  go_wp2_with fail
  have c1 : (w3.alloc (Obj.cells #[Value.bool false, Value.int IntKind.i64 (16 * s + k)] 29)).cell? ⟨w2.heap.size, 0, none⟩ = some (.bool false) := cell_alloc (cell_below hb3 (cell_new w2 _ _ 0 rfl))
  have c2 : (w3.alloc (Obj.cells #[Value.bool false, Value.int IntKind.i64 (16 * s + k)] 29)).cell? ⟨w2.heap.size, 1, none⟩ = some (.int .i64 (16 * s + k)) := cell_alloc (cell_below hb3 (cell_new w2 _ _ 1 rfl))
  have c3 : (w3.alloc (Obj.cells #[Value.bool false, Value.int IntKind.i64 (16 * s + k)] 29)).cell? ⟨w3.heap.size, 0, none⟩ = some (.bool false) := cell_new w3 _ _ 0 rfl
  have c4 : (w3.alloc (Obj.cells #[Value.bool false, Value.int IntKind.i64 (16 * s + k)] 29)).cell? ⟨w3.heap.size, 1, none⟩ = some (.int .i64 (16 * s + k)) := cell_new w3 _ _ 1 rfl
  have hb4 : Below w3.heap.size w3 (w3.alloc (Obj.cells #[Value.bool false, Value.int IntKind.i64 (16 * s + k)] 29)) := (Below.refl _ _).alloc (Nat.le_refl _) _
  generalize (w3.alloc (Obj.cells #[Value.bool false, Value.int IntKind.i64 (16 * s + k)] 29)) = w4 at *
  go_region_held3 (fun w' => w'.cell? ⟨w2.heap.size, 0, none⟩ = some (.bool false) ∧ w'.cell? ⟨w2.heap.size, 1, none⟩ = some (.int .i64 (16 * s + k)) ∧ w'.cell? ⟨w3.heap.size, 0, none⟩ = some (.bool false) ∧ w'.cell? ⟨w3.heap.size, 1, none⟩ = some (.int .i64 (16 * s + k)))
    (first | (simp [*]; done) | (refine ⟨?_, ?_, ?_, ?_⟩ <;> (refine cell_below (by assumption) ?_; simp [*])))
    ((go_at_call 9; refine (as_any _ _ _).mono ?_; rintro e w' ⟨rfl, hbA⟩))
  replace hbA : Below w4.heap.size w4 w' := below_undrew hbA
  have hbA' : Below w.heap.size w w' := below_then ((Below.refl _ _).alloc (Nat.le_refl _) _) (below_then hb1 (below_then hb2 (below_then ((Below.refl _ _).alloc (Nat.le_refl _) _) (below_then hb3 (below_then hb4 hbA)))))
  have d1 : w'.cell? ⟨w.heap.size, 0, none⟩ = some (.bool false) := cell_below hbA (cell_below hb4 (cell_below hb3 (cell_alloc (cell_below hb2 (cell_below hb1 (cell_new w _ _ 0 rfl))))))
  have d2 : w'.cell? ⟨w.heap.size, 1, none⟩ = some (.int .i64 v) := cell_below hbA (cell_below hb4 (cell_below hb3 (cell_alloc (cell_below hb2 (cell_below hb1 (cell_new w _ _ 1 rfl))))))
  clear hb1 hb2 hb3 hb4 hbA c1 c2 c3 c4
  go_wp2_with fail
  refine (parts_no false v HP.out _).mono ?_
  rintro e w5 ⟨rfl, hb5⟩
  have d3 := cell_below hb5 d1
  have d4 := cell_below hb5 d2
  go_wp2_with fail
  refine (as_any _ _ _).mono ?_
  rintro e w6 ⟨rfl, hb6⟩
  have d5 := cell_below hb6 d3
  have d6 := cell_below hb6 d4
  go_wp2_with fail
  refine (refParts_no false v HP.out _).mono ?_
  rintro e w7 ⟨rfl, hb7⟩
  have d7 := cell_below hb7 d5
  have d8 := cell_below hb7 d6
  go_wp2_with fail
  refine (moved_int _ _).mono ?_
  rintro e w8 ⟨rfl, hb8⟩
  have d9 := cell_below hb8 d7
  have d10 := cell_below hb8 d8
  go_wp2_with fail
  refine (int_any _ _).mono ?_
  rintro e w9 ⟨rfl, hb9⟩
  go_wp2_with fail
  refine (at_any _ _).mono ?_
  rintro e w10 ⟨rfl, hb10⟩
  go_wp2_with fail
  go_returns
  exact ⟨rfl, below_then hbA' (below_then hb5 (below_then hb6 (below_then hb7 (below_then hb8 (below_then hb9 hb10)))))⟩

theorem tells_yes_ptr (k s v n pl : Int) (h : headOk k s) (hp : ¬ isHead true v) (w : World) :
    Calls Try.prog 3 #[.int .i64 k, .int .i64 s, .agg #[.bool true, .int .i64 v], .int .i64 n, .int .i64 pl] w fun e w' => e = .returned (.bool true) ∧ Below w.heap.size w w' := by
  have HK := Lib.hid h
  clear h
  have HP := Lib.hid hp
  clear hp
  go_enter Try.func3, Try.ntmps3
  go_wp2_with fail
  refine (up_any _).mono ?_
  rintro e w1 ⟨rfl, hb1⟩
  go_wp2_with fail
  refine (head_yes k s HK.out _).mono ?_
  rintro e w2 ⟨rfl, hb2⟩
  go_wp2_with fail
  refine (refHead_yes k s HK.out _).mono ?_
  rintro e w3 ⟨rfl, hb3⟩
  go_wp2_with fail
  have c1 : (w3.alloc (Obj.cells #[Value.bool false, Value.int IntKind.i64 (16 * s + k)] 29)).cell? ⟨w2.heap.size, 0, none⟩ = some (.bool false) := cell_alloc (cell_below hb3 (cell_new w2 _ _ 0 rfl))
  have c2 : (w3.alloc (Obj.cells #[Value.bool false, Value.int IntKind.i64 (16 * s + k)] 29)).cell? ⟨w2.heap.size, 1, none⟩ = some (.int .i64 (16 * s + k)) := cell_alloc (cell_below hb3 (cell_new w2 _ _ 1 rfl))
  have c3 : (w3.alloc (Obj.cells #[Value.bool false, Value.int IntKind.i64 (16 * s + k)] 29)).cell? ⟨w3.heap.size, 0, none⟩ = some (.bool false) := cell_new w3 _ _ 0 rfl
  have c4 : (w3.alloc (Obj.cells #[Value.bool false, Value.int IntKind.i64 (16 * s + k)] 29)).cell? ⟨w3.heap.size, 1, none⟩ = some (.int .i64 (16 * s + k)) := cell_new w3 _ _ 1 rfl
  have hb4 : Below w3.heap.size w3 (w3.alloc (Obj.cells #[Value.bool false, Value.int IntKind.i64 (16 * s + k)] 29)) := (Below.refl _ _).alloc (Nat.le_refl _) _
  generalize (w3.alloc (Obj.cells #[Value.bool false, Value.int IntKind.i64 (16 * s + k)] 29)) = w4 at *
  go_region_held3 (fun w' => w'.cell? ⟨w2.heap.size, 0, none⟩ = some (.bool false) ∧ w'.cell? ⟨w2.heap.size, 1, none⟩ = some (.int .i64 (16 * s + k)) ∧ w'.cell? ⟨w3.heap.size, 0, none⟩ = some (.bool false) ∧ w'.cell? ⟨w3.heap.size, 1, none⟩ = some (.int .i64 (16 * s + k)))
    (first | (simp [*]; done) | (refine ⟨?_, ?_, ?_, ?_⟩ <;> (refine cell_below (by assumption) ?_; simp [*])))
    ((go_at_call 9; refine (as_any _ _ _).mono ?_; rintro e w' ⟨rfl, hbA⟩))
  replace hbA : Below w4.heap.size w4 w' := below_undrew hbA
  have hbA' : Below w.heap.size w w' := below_then ((Below.refl _ _).alloc (Nat.le_refl _) _) (below_then hb1 (below_then hb2 (below_then ((Below.refl _ _).alloc (Nat.le_refl _) _) (below_then hb3 (below_then hb4 hbA)))))
  have d1 : w'.cell? ⟨w.heap.size, 0, none⟩ = some (.bool true) := cell_below hbA (cell_below hb4 (cell_below hb3 (cell_alloc (cell_below hb2 (cell_below hb1 (cell_new w _ _ 0 rfl))))))
  have d2 : w'.cell? ⟨w.heap.size, 1, none⟩ = some (.int .i64 v) := cell_below hbA (cell_below hb4 (cell_below hb3 (cell_alloc (cell_below hb2 (cell_below hb1 (cell_new w _ _ 1 rfl))))))
  clear hb1 hb2 hb3 hb4 hbA c1 c2 c3 c4
  go_wp2_with fail
  refine (parts_no true v HP.out _).mono ?_
  rintro e w5 ⟨rfl, hb5⟩
  have d3 := cell_below hb5 d1
  have d4 := cell_below hb5 d2
  go_wp2_with fail
  refine (as_any _ _ _).mono ?_
  rintro e w6 ⟨rfl, hb6⟩
  have d5 := cell_below hb6 d3
  have d6 := cell_below hb6 d4
  go_wp2_with fail
  refine (refParts_no true v HP.out _).mono ?_
  rintro e w7 ⟨rfl, hb7⟩
  have d7 := cell_below hb7 d5
  have d8 := cell_below hb7 d6
  go_wp2_with fail
  refine (moved_ptr _ _).mono ?_
  rintro e w8 ⟨rfl, hb8⟩
  have d9 := cell_below hb8 d7
  have d10 := cell_below hb8 d8
  go_wp2_with fail
  refine (int_any _ _).mono ?_
  rintro e w9 ⟨rfl, hb9⟩
  go_wp2_with fail
  refine (at_any _ _).mono ?_
  rintro e w10 ⟨rfl, hb10⟩
  go_wp2_with fail
  go_returns
  exact ⟨rfl, below_then hbA' (below_then hb5 (below_then hb6 (below_then hb7 (below_then hb8 (below_then hb9 hb10)))))⟩

theorem tells_no_head (k s v n pl : Int) (h : ¬ headOk k s) (hp1 : 0 ≤ v) (hp2 : v ≤ 64015) (w : World) :
    Calls Try.prog 3 #[.int .i64 k, .int .i64 s, .agg #[.bool false, .int .i64 v], .int .i64 n, .int .i64 pl] w fun e w' => e = .returned (.bool true) ∧ Below w.heap.size w w' := by
  have HK := Lib.hid h
  clear h
  go_enter Try.func3, Try.ntmps3
  go_wp2_with fail
  refine (up_any _).mono ?_
  rintro e w1 ⟨rfl, hb1⟩
  go_wp2_with fail
  refine (head_no k s HK.out _).mono ?_
  rintro e w2 ⟨rfl, hb2⟩
  go_wp2_with fail
  refine (refHead_no k s HK.out _).mono ?_
  rintro e w3 ⟨rfl, hb3⟩
  have c1 : w3.cell? ⟨w2.heap.size, 0, none⟩ = some (.bool false) := cell_below hb3 (cell_new w2 _ _ 0 rfl)
  have c2 : w3.cell? ⟨w2.heap.size, 1, none⟩ = some (.int .i64 0) := cell_below hb3 (cell_new w2 _ _ 1 rfl)
  have hz : w2.heap.size < w3.heap.size := by have := hb3.size; simp at this; omega
  have d1' : w3.cell? ⟨w.heap.size, 0, none⟩ = some (.bool false) := cell_below hb3 (cell_alloc (cell_below hb2 (cell_below hb1 (cell_new w _ _ 0 rfl))))
  have d2' : w3.cell? ⟨w.heap.size, 1, none⟩ = some (.int .i64 v) := cell_below hb3 (cell_alloc (cell_below hb2 (cell_below hb1 (cell_new w _ _ 1 rfl))))
  have hbA' : Below w.heap.size w (w3.alloc (Obj.cells #[Value.bool false, Value.int IntKind.i64 0] 29)) := (below_then ((Below.refl _ _).alloc (Nat.le_refl _) _) (below_then hb1 (below_then hb2 (below_then ((Below.refl _ _).alloc (Nat.le_refl _) _) (below_then hb3 ((Below.refl _ _).alloc (Nat.le_refl _) _))))))
  have d1 : (w3.alloc (Obj.cells #[Value.bool false, Value.int IntKind.i64 0] 29)).cell? ⟨w.heap.size, 0, none⟩ = some (.bool false) := cell_alloc d1'
  have d2 : (w3.alloc (Obj.cells #[Value.bool false, Value.int IntKind.i64 0] 29)).cell? ⟨w.heap.size, 1, none⟩ = some (.int .i64 v) := cell_alloc d2'
  have e1 : (w3.alloc (Obj.cells #[Value.bool false, Value.int IntKind.i64 0] 29)).cell? ⟨w2.heap.size, 0, none⟩ = some (.bool false) := cell_alloc c1
  have e2 : (w3.alloc (Obj.cells #[Value.bool false, Value.int IntKind.i64 0] 29)).cell? ⟨w2.heap.size, 1, none⟩ = some (.int .i64 0) := cell_alloc c2
  clear hb1 hb2 hb3 d1' d2' c1 c2
  go_wp2_with fail
  refine (parts_yes v hp1 hp2 _).mono ?_
  rintro e w5 ⟨rfl, hb5⟩
  have d3 := cell_below hb5 d1
  have d4 := cell_below hb5 d2
  go_wp2_with fail
  refine (as_any _ _ _).mono ?_
  rintro e w6 ⟨rfl, hb6⟩
  have d5 := cell_below hb6 d3
  have d6 := cell_below hb6 d4
  go_wp2_with fail
  refine (refParts_yes v hp1 hp2 _).mono ?_
  rintro e w7 ⟨rfl, hb7⟩
  have d7 := cell_below hb7 d5
  have d8 := cell_below hb7 d6
  go_wp2_with fail
  refine (moved_int _ _).mono ?_
  rintro e w8 ⟨rfl, hb8⟩
  have d9 := cell_below hb8 d7
  have d10 := cell_below hb8 d8
  go_wp2_with fail
  refine (int_any _ _).mono ?_
  rintro e w9 ⟨rfl, hb9⟩
  go_wp2_with fail
  refine (at_any _ _).mono ?_
  rintro e w10 ⟨rfl, hb10⟩
  go_wp2_with fail
  go_returns
  exact ⟨rfl, below_then hbA' (below_then hb5 (below_then hb6 (below_then hb7 (below_then hb8 (below_then hb9 hb10)))))⟩

theorem tells_no_int (k s v n pl : Int) (h : ¬ headOk k s) (hp : ¬ isHead false v) (w : World) :
    Calls Try.prog 3 #[.int .i64 k, .int .i64 s, .agg #[.bool false, .int .i64 v], .int .i64 n, .int .i64 pl] w fun e w' => e = .returned (.bool true) ∧ Below w.heap.size w w' := by
  have HK := Lib.hid h
  clear h
  have HP := Lib.hid hp
  clear hp
  go_enter Try.func3, Try.ntmps3
  go_wp2_with fail
  refine (up_any _).mono ?_
  rintro e w1 ⟨rfl, hb1⟩
  go_wp2_with fail
  refine (head_no k s HK.out _).mono ?_
  rintro e w2 ⟨rfl, hb2⟩
  go_wp2_with fail
  refine (refHead_no k s HK.out _).mono ?_
  rintro e w3 ⟨rfl, hb3⟩
  have c1 : w3.cell? ⟨w2.heap.size, 0, none⟩ = some (.bool false) := cell_below hb3 (cell_new w2 _ _ 0 rfl)
  have c2 : w3.cell? ⟨w2.heap.size, 1, none⟩ = some (.int .i64 0) := cell_below hb3 (cell_new w2 _ _ 1 rfl)
  have hz : w2.heap.size < w3.heap.size := by have := hb3.size; simp at this; omega
  have d1' : w3.cell? ⟨w.heap.size, 0, none⟩ = some (.bool false) := cell_below hb3 (cell_alloc (cell_below hb2 (cell_below hb1 (cell_new w _ _ 0 rfl))))
  have d2' : w3.cell? ⟨w.heap.size, 1, none⟩ = some (.int .i64 v) := cell_below hb3 (cell_alloc (cell_below hb2 (cell_below hb1 (cell_new w _ _ 1 rfl))))
  have hbA' : Below w.heap.size w (w3.alloc (Obj.cells #[Value.bool false, Value.int IntKind.i64 0] 29)) := (below_then ((Below.refl _ _).alloc (Nat.le_refl _) _) (below_then hb1 (below_then hb2 (below_then ((Below.refl _ _).alloc (Nat.le_refl _) _) (below_then hb3 ((Below.refl _ _).alloc (Nat.le_refl _) _))))))
  have d1 : (w3.alloc (Obj.cells #[Value.bool false, Value.int IntKind.i64 0] 29)).cell? ⟨w.heap.size, 0, none⟩ = some (.bool false) := cell_alloc d1'
  have d2 : (w3.alloc (Obj.cells #[Value.bool false, Value.int IntKind.i64 0] 29)).cell? ⟨w.heap.size, 1, none⟩ = some (.int .i64 v) := cell_alloc d2'
  have e1 : (w3.alloc (Obj.cells #[Value.bool false, Value.int IntKind.i64 0] 29)).cell? ⟨w2.heap.size, 0, none⟩ = some (.bool false) := cell_alloc c1
  have e2 : (w3.alloc (Obj.cells #[Value.bool false, Value.int IntKind.i64 0] 29)).cell? ⟨w2.heap.size, 1, none⟩ = some (.int .i64 0) := cell_alloc c2
  clear hb1 hb2 hb3 d1' d2' c1 c2
  go_wp2_with fail
  refine (parts_no false v HP.out _).mono ?_
  rintro e w5 ⟨rfl, hb5⟩
  have d3 := cell_below hb5 d1
  have d4 := cell_below hb5 d2
  go_wp2_with fail
  refine (as_any _ _ _).mono ?_
  rintro e w6 ⟨rfl, hb6⟩
  have d5 := cell_below hb6 d3
  have d6 := cell_below hb6 d4
  go_wp2_with fail
  refine (refParts_no false v HP.out _).mono ?_
  rintro e w7 ⟨rfl, hb7⟩
  have d7 := cell_below hb7 d5
  have d8 := cell_below hb7 d6
  go_wp2_with fail
  refine (moved_int _ _).mono ?_
  rintro e w8 ⟨rfl, hb8⟩
  have d9 := cell_below hb8 d7
  have d10 := cell_below hb8 d8
  go_wp2_with fail
  refine (int_any _ _).mono ?_
  rintro e w9 ⟨rfl, hb9⟩
  go_wp2_with fail
  refine (at_any _ _).mono ?_
  rintro e w10 ⟨rfl, hb10⟩
  go_wp2_with fail
  go_returns
  exact ⟨rfl, below_then hbA' (below_then hb5 (below_then hb6 (below_then hb7 (below_then hb8 (below_then hb9 hb10)))))⟩

theorem tells_no_ptr (k s v n pl : Int) (h : ¬ headOk k s) (hp : ¬ isHead true v) (w : World) :
    Calls Try.prog 3 #[.int .i64 k, .int .i64 s, .agg #[.bool true, .int .i64 v], .int .i64 n, .int .i64 pl] w fun e w' => e = .returned (.bool true) ∧ Below w.heap.size w w' := by
  have HK := Lib.hid h
  clear h
  have HP := Lib.hid hp
  clear hp
  go_enter Try.func3, Try.ntmps3
  go_wp2_with fail
  refine (up_any _).mono ?_
  rintro e w1 ⟨rfl, hb1⟩
  go_wp2_with fail
  refine (head_no k s HK.out _).mono ?_
  rintro e w2 ⟨rfl, hb2⟩
  go_wp2_with fail
  refine (refHead_no k s HK.out _).mono ?_
  rintro e w3 ⟨rfl, hb3⟩
  have c1 : w3.cell? ⟨w2.heap.size, 0, none⟩ = some (.bool false) := cell_below hb3 (cell_new w2 _ _ 0 rfl)
  have c2 : w3.cell? ⟨w2.heap.size, 1, none⟩ = some (.int .i64 0) := cell_below hb3 (cell_new w2 _ _ 1 rfl)
  have hz : w2.heap.size < w3.heap.size := by have := hb3.size; simp at this; omega
  have d1' : w3.cell? ⟨w.heap.size, 0, none⟩ = some (.bool true) := cell_below hb3 (cell_alloc (cell_below hb2 (cell_below hb1 (cell_new w _ _ 0 rfl))))
  have d2' : w3.cell? ⟨w.heap.size, 1, none⟩ = some (.int .i64 v) := cell_below hb3 (cell_alloc (cell_below hb2 (cell_below hb1 (cell_new w _ _ 1 rfl))))
  have hbA' : Below w.heap.size w (w3.alloc (Obj.cells #[Value.bool false, Value.int IntKind.i64 0] 29)) := (below_then ((Below.refl _ _).alloc (Nat.le_refl _) _) (below_then hb1 (below_then hb2 (below_then ((Below.refl _ _).alloc (Nat.le_refl _) _) (below_then hb3 ((Below.refl _ _).alloc (Nat.le_refl _) _))))))
  have d1 : (w3.alloc (Obj.cells #[Value.bool false, Value.int IntKind.i64 0] 29)).cell? ⟨w.heap.size, 0, none⟩ = some (.bool true) := cell_alloc d1'
  have d2 : (w3.alloc (Obj.cells #[Value.bool false, Value.int IntKind.i64 0] 29)).cell? ⟨w.heap.size, 1, none⟩ = some (.int .i64 v) := cell_alloc d2'
  have e1 : (w3.alloc (Obj.cells #[Value.bool false, Value.int IntKind.i64 0] 29)).cell? ⟨w2.heap.size, 0, none⟩ = some (.bool false) := cell_alloc c1
  have e2 : (w3.alloc (Obj.cells #[Value.bool false, Value.int IntKind.i64 0] 29)).cell? ⟨w2.heap.size, 1, none⟩ = some (.int .i64 0) := cell_alloc c2
  clear hb1 hb2 hb3 d1' d2' c1 c2
  go_wp2_with fail
  refine (parts_no true v HP.out _).mono ?_
  rintro e w5 ⟨rfl, hb5⟩
  have d3 := cell_below hb5 d1
  have d4 := cell_below hb5 d2
  go_wp2_with fail
  refine (as_any _ _ _).mono ?_
  rintro e w6 ⟨rfl, hb6⟩
  have d5 := cell_below hb6 d3
  have d6 := cell_below hb6 d4
  go_wp2_with fail
  refine (refParts_no true v HP.out _).mono ?_
  rintro e w7 ⟨rfl, hb7⟩
  have d7 := cell_below hb7 d5
  have d8 := cell_below hb7 d6
  go_wp2_with fail
  refine (moved_ptr _ _).mono ?_
  rintro e w8 ⟨rfl, hb8⟩
  have d9 := cell_below hb8 d7
  have d10 := cell_below hb8 d8
  go_wp2_with fail
  refine (int_any _ _).mono ?_
  rintro e w9 ⟨rfl, hb9⟩
  go_wp2_with fail
  refine (at_any _ _).mono ?_
  rintro e w10 ⟨rfl, hb10⟩
  go_wp2_with fail
  go_returns
  exact ⟨rfl, below_then hbA' (below_then hb5 (below_then hb6 (below_then hb7 (below_then hb8 (below_then hb9 hb10)))))⟩
end Go.Proofs.Ytjhkblaplfhfcaa
