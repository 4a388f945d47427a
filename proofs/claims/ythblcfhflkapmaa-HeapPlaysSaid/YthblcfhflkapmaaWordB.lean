/-
  Contracts of the functions of package word, and of the document's answers, that make and read heads.
-/
import Derived.Test.YthblcfhflkapmaaWordA
namespace Go.Proofs.Ythblcfhflkapmaa
open Go.ChangeShapes Go.WideShapes Go.ChangeAt Go.RowKit
set_option linter.unusedVariables false

abbrev headOk (k s : Int) : Prop := 0 ≤ k ∧ k ≤ 15 ∧ 0 ≤ s ∧ s ≤ 4000

theorem head_yes (k s : Int) (h : headOk k s) (w : World) : Calls Try.prog 28 #[.int .i64 k, .int .i64 s] w fun e w' => e = .returned (.tuple #[.agg #[.bool false, .int .i64 (16 * s + k)], .nilIface]) ∧ Below w.heap.size w w' := by
  obtain ⟨h1, h2, h3, h4⟩ := h
  go_enter Try.func28, Try.ntmps28
  go_wp2
  go_returns
  exact ⟨ret_eq (by rw [Int.mul_comm 16 s]), by go_grown⟩

theorem head_no (k s : Int) (h : ¬ headOk k s) (w : World) : Calls Try.prog 28 #[.int .i64 k, .int .i64 s] w fun e w' => e = .returned (.tuple #[.agg #[.bool false, .int .i64 0], .iface 29 (.int .i64 1)]) ∧ Below w.heap.size w w' := by
  go_enter Try.func28, Try.ntmps28
  go_wp2
  all_goals first | (go_returns; exact ⟨rfl, by go_grown⟩) | (exfalso; apply h; unfold headOk; omega)

theorem refHead_yes (k s : Int) (h : headOk k s) (w : World) : Calls Try.prog 35 #[.int .i64 k, .int .i64 s] w fun e w' => e = .returned (.tuple #[.agg #[.bool false, .int .i64 (16 * s + k)], .bool true]) ∧ Below w.heap.size w w' := by
  obtain ⟨h1, h2, h3, h4⟩ := h
  go_enter Try.func35, Try.ntmps35
  go_wp2
  go_returns
  exact ⟨rfl, by go_grown⟩

theorem refHead_no (k s : Int) (h : ¬ headOk k s) (w : World) : Calls Try.prog 35 #[.int .i64 k, .int .i64 s] w fun e w' => e = .returned (.tuple #[.agg #[.bool false, .int .i64 0], .bool false]) ∧ Below w.heap.size w w' := by
  go_enter Try.func35, Try.ntmps35
  go_wp2
  all_goals first | (go_returns; exact ⟨rfl, by go_grown⟩) | (exfalso; apply h; unfold headOk; omega)

abbrev isHead (p : Bool) (n : Int) : Prop := p = false ∧ 0 ≤ n ∧ n ≤ 64015

theorem parts_yes (n : Int) (h1 : 0 ≤ n) (h2 : n ≤ 64015) (w : World) : Calls Try.prog 40 #[.agg #[.bool false, .int .i64 n]] w fun e w' => e = .returned (.tuple #[.int .i64 (n % 16), .int .i64 (n / 16), .bool true]) ∧ Below w.heap.size w w' := by
  go_enter Try.func40, Try.ntmps40
  go_wp2
  go_quiet (fail)
  go_wp2
  go_returns
  exact ⟨rfl, by refine below_drewN ?_ _; go_grown⟩

theorem parts_no (p : Bool) (n : Int) (h : ¬ isHead p n) (w : World) : Calls Try.prog 40 #[.agg #[.bool p, .int .i64 n]] w fun e w' => e = .returned (.tuple #[.int .i64 0, .int .i64 0, .bool false]) ∧ Below w.heap.size w w' := by
  cases p
  · by_cases h0 : n < 0
    · go_enter Try.func40, Try.ntmps40
      go_wp2
      go_returns; exact ⟨rfl, by go_grown⟩
    · have h3 : 64016 ≤ n := by simp [isHead] at h; omega
      clear h
      go_enter Try.func40, Try.ntmps40
      go_wp2
      go_returns; exact ⟨rfl, by go_grown⟩
  · clear h
    go_enter Try.func40, Try.ntmps40
    go_wp2
    go_returns; exact ⟨rfl, by go_grown⟩

end Go.Proofs.Ythblcfhflkapmaa
