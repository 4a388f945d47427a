/-
  The law HeapKeeps: where it ends before a heap is made.
-/
import Derived.Test.YthblcfhflkapmaaHpAP
namespace Go.Proofs.Ythblcfhflkapmaa
open Go Go.ChangeShapes Go.WideShapes Go.ChangeAt Go.RowKit Go.Sort
set_option linter.unusedVariables false
set_option linter.unusedSimpArgs false

set_option maxRecDepth 100000 in
set_option maxHeartbeats 4000000 in
theorem keeps_big (w : World) (half : Int) (A1 A2 : Option Addr) (n1 n2 c1 c2 : Nat) (h : (decide (3000 < half) || decide (40 < (n1 : Int)) || decide (10 < (n2 : Int))) = true) :
    Calls Try.prog 4 #[.int .i64 half, .slice A1 n1 c1, .slice A2 n2 c2] w fun e w' => e = .returned (.bool true) ∧ Below w.heap.size w w' := by
  have HU := Lib.hid (up_any w)
  rcases Bool.eq_false_or_eq_true (decide (3000 < half)) with q1 | q1
  · clear h
    go_enter Try.func4, Try.ntmps4
    go_wp2_with (go_at_call 5; (with_reducible refine HU.out.mono ?_); rintro e w1 ⟨rfl, hb1⟩; have HB := Lib.hid hb1; clear hb1)
    go_returns
    exact ⟨rfl, HB.out⟩
  · rcases Bool.eq_false_or_eq_true (decide (40 < (n1 : Int))) with q2 | q2
    · clear h
      go_enter Try.func4, Try.ntmps4
      go_wp2_with (go_at_call 5; (with_reducible refine HU.out.mono ?_); rintro e w1 ⟨rfl, hb1⟩; have HB := Lib.hid hb1; clear hb1)
      go_returns
      exact ⟨rfl, HB.out⟩
    · have q3 : decide (10 < (n2 : Int)) = true := by rw [q1, q2] at h; simpa using h
      clear h
      go_enter Try.func4, Try.ntmps4
      go_wp2_with (go_at_call 5; (with_reducible refine HU.out.mono ?_); rintro e w1 ⟨rfl, hb1⟩; have HB := Lib.hid hb1; clear hb1)
      go_returns
      exact ⟨rfl, HB.out⟩
set_option maxRecDepth 100000 in
set_option maxHeartbeats 4000000 in
theorem keeps_none (w : World) (half : Int) (A1 A2 : Option Addr) (n1 n2 c1 c2 : Nat) (hh : half < 1) (h1 : n1 ≤ 40) (h2 : n2 ≤ 10) :
    Calls Try.prog 4 #[.int .i64 half, .slice A1 n1 c1, .slice A2 n2 c2] w fun e w' => e = .returned (.bool true) ∧ Below w.heap.size w w' := by
  have HU := Lib.hid (up_any w)
  have HN := Lib.hid (fun w1 : World => New_no half hh w1)
  have q1 : decide (3000 < half) = false := decide_eq_false (by omega)
  have q2 : decide (40 < (n1 : Int)) = false := decide_eq_false (by omega)
  have q3 : decide (10 < (n2 : Int)) = false := decide_eq_false (by omega)
  clear hh h1 h2
  go_enter Try.func4, Try.ntmps4
  go_wp2_with (first
    | (go_at_call 5; (with_reducible refine HU.out.mono ?_); rintro e w1 ⟨rfl, hb1⟩; have HB := Lib.hid hb1; clear hb1)
    | (go_at_call 6; (with_reducible refine (HN.out _).mono ?_); rintro e w2 ⟨rfl, rfl⟩))
  go_returns
  exact ⟨rfl, HB.out⟩
end Go.Proofs.Ythblcfhflkapmaa
