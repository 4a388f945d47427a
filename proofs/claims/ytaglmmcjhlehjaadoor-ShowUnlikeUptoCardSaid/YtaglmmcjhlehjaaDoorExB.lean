/-
  An expression's own fields, by the code: how many parts a kind has, operators, tokens.
-/
import Derived.Test.YtaglmmcjhlehjaaDoorExM
import Derived.Test.YtaglmmcjhlehjaaDoorLexH
import Derived.Test.YtaglmmcjhlehjaaDoorLexQ
namespace Go.Proofs.YtaglmmcjhlehjaaDoor
open Go.ChangeShapes Go.WideShapes Go.ChangeAt Go.RowKit Go.Sort
set_option linter.unusedVariables false
set_option linter.unusedSimpArgs false

theorem ex_box (w : World) (d : ExD) : d.At (w.alloc (.cells d.arr 25)) w.heap.size 0 := ⟨cell_new w _ _ 0 rfl, cell_new w _ _ 1 rfl, cell_new w _ _ 2 rfl, cell_new w _ _ 3 rfl, cell_new w _ _ 4 rfl, cell_new w _ _ 5 rfl, cell_new w _ _ 6 rfl, cell_new w _ _ 7 rfl⟩

set_option maxRecDepth 100000 in
set_option maxHeartbeats 4000000 in
theorem parts_any (kind labels : Int) (other : Bool) (h0 : 0 ≤ labels) (h1 : labels ≤ 9223372036854775807) (w : World) : Calls Tryd.prog 28 #[.int .i64 kind, .int .i64 labels, .bool other] w fun e w' => e = .returned (.int .i64 (partsF kind labels other)) ∧ w = w' := by
  by_cases k1 : kind = 1
  · subst k1
    rw [show partsF 1 labels other = 0 from by simp [partsF]]
    clear h0 h1
    go_enter Tryd.func28, Tryd.ntmps28
    go_wp2_with fail
    go_returns
    exact ⟨rfl, rfl⟩
  by_cases k2 : kind = 2
  · subst k2
    rw [show partsF 2 labels other = 0 from by simp [partsF]]
    clear k1 h0 h1
    go_enter Tryd.func28, Tryd.ntmps28
    go_wp2_with fail
    go_returns
    exact ⟨rfl, rfl⟩
  by_cases k3 : kind = 3
  · subst k3
    rw [show partsF 3 labels other = 0 from by simp [partsF]]
    clear k1 k2 h0 h1
    go_enter Tryd.func28, Tryd.ntmps28
    go_wp2_with fail
    go_returns
    exact ⟨rfl, rfl⟩
  by_cases k22 : kind = 22
  · subst k22
    rw [show partsF 22 labels other = 0 from by simp [partsF]]
    clear k1 k2 k3 h0 h1
    go_enter Tryd.func28, Tryd.ntmps28
    go_wp2_with fail
    go_returns
    exact ⟨rfl, rfl⟩
  by_cases k4 : kind = 4
  · subst k4
    rw [show partsF 4 labels other = 1 from by simp [partsF]]
    clear k1 k2 k3 k22 h0 h1
    go_enter Tryd.func28, Tryd.ntmps28
    go_wp2_with fail
    go_returns
    exact ⟨rfl, rfl⟩
  by_cases k9 : kind = 9
  · subst k9
    rw [show partsF 9 labels other = 1 from by simp [partsF]]
    clear k1 k2 k3 k22 k4 h0 h1
    go_enter Tryd.func28, Tryd.ntmps28
    go_wp2_with fail
    go_returns
    exact ⟨rfl, rfl⟩
  by_cases k11 : kind = 11
  · subst k11
    rw [show partsF 11 labels other = 1 from by simp [partsF]]
    clear k1 k2 k3 k22 k4 k9 h0 h1
    go_enter Tryd.func28, Tryd.ntmps28
    go_wp2_with fail
    go_returns
    exact ⟨rfl, rfl⟩
  by_cases k13 : kind = 13
  · subst k13
    rw [show partsF 13 labels other = 1 from by simp [partsF]]
    clear k1 k2 k3 k22 k4 k9 k11 h0 h1
    go_enter Tryd.func28, Tryd.ntmps28
    go_wp2_with fail
    go_returns
    exact ⟨rfl, rfl⟩
  by_cases k17 : kind = 17
  · subst k17
    rw [show partsF 17 labels other = 1 from by simp [partsF]]
    clear k1 k2 k3 k22 k4 k9 k11 k13 h0 h1
    go_enter Tryd.func28, Tryd.ntmps28
    go_wp2_with fail
    go_returns
    exact ⟨rfl, rfl⟩
  by_cases k18 : kind = 18
  · subst k18
    rw [show partsF 18 labels other = 1 from by simp [partsF]]
    clear k1 k2 k3 k22 k4 k9 k11 k13 k17 h0 h1
    go_enter Tryd.func28, Tryd.ntmps28
    go_wp2_with fail
    go_returns
    exact ⟨rfl, rfl⟩
  by_cases k20 : kind = 20
  · subst k20
    rw [show partsF 20 labels other = 1 from by simp [partsF]]
    clear k1 k2 k3 k22 k4 k9 k11 k13 k17 k18 h0 h1
    go_enter Tryd.func28, Tryd.ntmps28
    go_wp2_with fail
    go_returns
    exact ⟨rfl, rfl⟩
  by_cases k21 : kind = 21
  · subst k21
    rw [show partsF 21 labels other = 1 from by simp [partsF]]
    clear k1 k2 k3 k22 k4 k9 k11 k13 k17 k18 k20 h0 h1
    go_enter Tryd.func28, Tryd.ntmps28
    go_wp2_with fail
    go_returns
    exact ⟨rfl, rfl⟩
  by_cases k5 : kind = 5
  · subst k5
    rw [show partsF 5 labels other = 2 from by simp [partsF]]
    clear k1 k2 k3 k22 k4 k9 k11 k13 k17 k18 k20 k21 h0 h1
    go_enter Tryd.func28, Tryd.ntmps28
    go_wp2_with fail
    go_returns
    exact ⟨rfl, rfl⟩
  by_cases k6 : kind = 6
  · subst k6
    rw [show partsF 6 labels other = 2 from by simp [partsF]]
    clear k1 k2 k3 k22 k4 k9 k11 k13 k17 k18 k20 k21 k5 h0 h1
    go_enter Tryd.func28, Tryd.ntmps28
    go_wp2_with fail
    go_returns
    exact ⟨rfl, rfl⟩
  by_cases k7 : kind = 7
  · subst k7
    rw [show partsF 7 labels other = 2 from by simp [partsF]]
    clear k1 k2 k3 k22 k4 k9 k11 k13 k17 k18 k20 k21 k5 k6 h0 h1
    go_enter Tryd.func28, Tryd.ntmps28
    go_wp2_with fail
    go_returns
    exact ⟨rfl, rfl⟩
  by_cases k10 : kind = 10
  · subst k10
    rw [show partsF 10 labels other = 2 from by simp [partsF]]
    clear k1 k2 k3 k22 k4 k9 k11 k13 k17 k18 k20 k21 k5 k6 k7 h0 h1
    go_enter Tryd.func28, Tryd.ntmps28
    go_wp2_with fail
    go_returns
    exact ⟨rfl, rfl⟩
  by_cases k12 : kind = 12
  · subst k12
    rw [show partsF 12 labels other = 2 from by simp [partsF]]
    clear k1 k2 k3 k22 k4 k9 k11 k13 k17 k18 k20 k21 k5 k6 k7 k10 h0 h1
    go_enter Tryd.func28, Tryd.ntmps28
    go_wp2_with fail
    go_returns
    exact ⟨rfl, rfl⟩
  by_cases k16 : kind = 16
  · subst k16
    rw [show partsF 16 labels other = 2 from by simp [partsF]]
    clear k1 k2 k3 k22 k4 k9 k11 k13 k17 k18 k20 k21 k5 k6 k7 k10 k12 h0 h1
    go_enter Tryd.func28, Tryd.ntmps28
    go_wp2_with fail
    go_returns
    exact ⟨rfl, rfl⟩
  by_cases k19 : kind = 19
  · subst k19
    rw [show partsF 19 labels other = 2 from by simp [partsF]]
    clear k1 k2 k3 k22 k4 k9 k11 k13 k17 k18 k20 k21 k5 k6 k7 k10 k12 k16 h0 h1
    go_enter Tryd.func28, Tryd.ntmps28
    go_wp2_with fail
    go_returns
    exact ⟨rfl, rfl⟩
  by_cases k15 : kind = 15
  · subst k15
    rw [show partsF 15 labels other = 3 from by simp [partsF]]
    clear k1 k2 k3 k22 k4 k9 k11 k13 k17 k18 k20 k21 k5 k6 k7 k10 k12 k16 k19 h0 h1
    go_enter Tryd.func28, Tryd.ntmps28
    go_wp2_with fail
    go_returns
    exact ⟨rfl, rfl⟩
  by_cases k8 : kind = 8
  · subst k8
    rw [show partsF 8 labels other = labels from by simp [partsF]]
    clear k1 k2 k3 k22 k4 k9 k11 k13 k17 k18 k20 k21 k5 k6 k7 k10 k12 k16 k19 k15 h0 h1
    go_enter Tryd.func28, Tryd.ntmps28
    go_wp2_with fail
    go_returns
    exact ⟨rfl, rfl⟩
  by_cases k14 : kind = 14
  · subst k14
    cases other
    · rw [show partsF 14 labels false = wrap64 (labels + 1) from by simp [partsF]]
      clear k1 k2 k3 k22 k4 k9 k11 k13 k17 k18 k20 k21 k5 k6 k7 k10 k12 k16 k19 k15 k8 h0 h1
      go_enter Tryd.func28, Tryd.ntmps28
      go_wp2_with fail
      go_returns
      exact ⟨rfl, rfl⟩
    · rw [show partsF 14 labels true = wrap64 (labels + 2) from by simp [partsF]]
      clear k1 k2 k3 k22 k4 k9 k11 k13 k17 k18 k20 k21 k5 k6 k7 k10 k12 k16 k19 k15 k8 h0 h1
      go_enter Tryd.func28, Tryd.ntmps28
      go_wp2_with fail
      go_returns
      exact ⟨rfl, rfl⟩
  rw [show partsF kind labels other = -1 from by simp [partsF, k1, k2, k3, k22, k4, k9, k11, k13, k17, k18, k20, k21, k5, k6, k7, k10, k12, k16, k19, k15, k8, k14]]
  have q1 : (kind == 1) = false := by simpa using k1
  have q2 : (kind == 2) = false := by simpa using k2
  have q3 : (kind == 3) = false := by simpa using k3
  have q22 : (kind == 22) = false := by simpa using k22
  have q4 : (kind == 4) = false := by simpa using k4
  have q9 : (kind == 9) = false := by simpa using k9
  have q11 : (kind == 11) = false := by simpa using k11
  have q13 : (kind == 13) = false := by simpa using k13
  have q17 : (kind == 17) = false := by simpa using k17
  have q18 : (kind == 18) = false := by simpa using k18
  have q20 : (kind == 20) = false := by simpa using k20
  have q21 : (kind == 21) = false := by simpa using k21
  have q5 : (kind == 5) = false := by simpa using k5
  have q6 : (kind == 6) = false := by simpa using k6
  have q7 : (kind == 7) = false := by simpa using k7
  have q10 : (kind == 10) = false := by simpa using k10
  have q12 : (kind == 12) = false := by simpa using k12
  have q16 : (kind == 16) = false := by simpa using k16
  have q19 : (kind == 19) = false := by simpa using k19
  have q15 : (kind == 15) = false := by simpa using k15
  have q8 : (kind == 8) = false := by simpa using k8
  have q14 : (kind == 14) = false := by simpa using k14
  clear k1 k2 k3 k22 k4 k9 k11 k13 k17 k18 k20 k21 k5 k6 k7 k10 k12 k16 k19 k15 k8 k14 h0 h1
  go_enter Tryd.func28, Tryd.ntmps28
  go_wp2_with fail
  go_returns
  exact ⟨rfl, rfl⟩

set_option maxHeartbeats 3000000 in
theorem isOperator_any (s : Str) (w : World) : Calls Tryd.prog 38 #[.string (bstr s)] w fun e w' => e = .returned (.bool (opB s)) ∧ w = w' := by
  by_cases h : s ∈ opsL
  · have e : opB s = true := decide_eq_true h
    rw [e]
    clear e
    simp only [opsL, List.mem_cons, List.not_mem_nil, or_false] at h
    rcases h with rfl | rfl | rfl | rfl | rfl | rfl | rfl | rfl
    · have g0 : ((bstr [43]).toList == [43]) = true := by rw [bstr_toList]; decide
      go_enter Tryd.func38, Tryd.ntmps38
      go_wp2
      go_returns
      exact ⟨rfl, rfl⟩
    · have g0 : ((bstr [45]).toList == [43]) = false := by rw [bstr_toList]; decide
      have g1 : ((bstr [45]).toList == [45]) = true := by rw [bstr_toList]; decide
      go_enter Tryd.func38, Tryd.ntmps38
      go_wp2
      go_returns
      exact ⟨rfl, rfl⟩
    · have g0 : ((bstr [42]).toList == [43]) = false := by rw [bstr_toList]; decide
      have g1 : ((bstr [42]).toList == [45]) = false := by rw [bstr_toList]; decide
      have g2 : ((bstr [42]).toList == [42]) = true := by rw [bstr_toList]; decide
      go_enter Tryd.func38, Tryd.ntmps38
      go_wp2
      go_returns
      exact ⟨rfl, rfl⟩
    · have g0 : ((bstr [47]).toList == [43]) = false := by rw [bstr_toList]; decide
      have g1 : ((bstr [47]).toList == [45]) = false := by rw [bstr_toList]; decide
      have g2 : ((bstr [47]).toList == [42]) = false := by rw [bstr_toList]; decide
      have g3 : ((bstr [47]).toList == [47]) = true := by rw [bstr_toList]; decide
      go_enter Tryd.func38, Tryd.ntmps38
      go_wp2
      go_returns
      exact ⟨rfl, rfl⟩
    · have g0 : ((bstr [60]).toList == [43]) = false := by rw [bstr_toList]; decide
      have g1 : ((bstr [60]).toList == [45]) = false := by rw [bstr_toList]; decide
      have g2 : ((bstr [60]).toList == [42]) = false := by rw [bstr_toList]; decide
      have g3 : ((bstr [60]).toList == [47]) = false := by rw [bstr_toList]; decide
      have g4 : ((bstr [60]).toList == [60]) = true := by rw [bstr_toList]; decide
      go_enter Tryd.func38, Tryd.ntmps38
      go_wp2
      go_returns
      exact ⟨rfl, rfl⟩
    · have g0 : ((bstr [61, 61]).toList == [43]) = false := by rw [bstr_toList]; decide
      have g1 : ((bstr [61, 61]).toList == [45]) = false := by rw [bstr_toList]; decide
      have g2 : ((bstr [61, 61]).toList == [42]) = false := by rw [bstr_toList]; decide
      have g3 : ((bstr [61, 61]).toList == [47]) = false := by rw [bstr_toList]; decide
      have g4 : ((bstr [61, 61]).toList == [60]) = false := by rw [bstr_toList]; decide
      have g5 : ((bstr [61, 61]).toList == [61, 61]) = true := by rw [bstr_toList]; decide
      go_enter Tryd.func38, Tryd.ntmps38
      go_wp2
      go_returns
      exact ⟨rfl, rfl⟩
    · have g0 : ((bstr [94]).toList == [43]) = false := by rw [bstr_toList]; decide
      have g1 : ((bstr [94]).toList == [45]) = false := by rw [bstr_toList]; decide
      have g2 : ((bstr [94]).toList == [42]) = false := by rw [bstr_toList]; decide
      have g3 : ((bstr [94]).toList == [47]) = false := by rw [bstr_toList]; decide
      have g4 : ((bstr [94]).toList == [60]) = false := by rw [bstr_toList]; decide
      have g5 : ((bstr [94]).toList == [61, 61]) = false := by rw [bstr_toList]; decide
      have g6 : ((bstr [94]).toList == [94]) = true := by rw [bstr_toList]; decide
      go_enter Tryd.func38, Tryd.ntmps38
      go_wp2
      go_returns
      exact ⟨rfl, rfl⟩
    · have g0 : ((bstr [35]).toList == [43]) = false := by rw [bstr_toList]; decide
      have g1 : ((bstr [35]).toList == [45]) = false := by rw [bstr_toList]; decide
      have g2 : ((bstr [35]).toList == [42]) = false := by rw [bstr_toList]; decide
      have g3 : ((bstr [35]).toList == [47]) = false := by rw [bstr_toList]; decide
      have g4 : ((bstr [35]).toList == [60]) = false := by rw [bstr_toList]; decide
      have g5 : ((bstr [35]).toList == [61, 61]) = false := by rw [bstr_toList]; decide
      have g6 : ((bstr [35]).toList == [94]) = false := by rw [bstr_toList]; decide
      have g7 : ((bstr [35]).toList == [35]) = true := by rw [bstr_toList]; decide
      go_enter Tryd.func38, Tryd.ntmps38
      go_wp2
      go_returns
      exact ⟨rfl, rfl⟩
  · have e : opB s = false := decide_eq_false h
    rw [e]
    simp only [opsL, List.mem_cons, List.not_mem_nil, or_false, not_or] at h
    obtain ⟨n0, n1, n2, n3, n4, n5, n6, n7⟩ := h
    have g0 : ((bstr s).toList == [43]) = false := by rw [bstr_toList]; simpa using n0
    have g1 : ((bstr s).toList == [45]) = false := by rw [bstr_toList]; simpa using n1
    have g2 : ((bstr s).toList == [42]) = false := by rw [bstr_toList]; simpa using n2
    have g3 : ((bstr s).toList == [47]) = false := by rw [bstr_toList]; simpa using n3
    have g4 : ((bstr s).toList == [60]) = false := by rw [bstr_toList]; simpa using n4
    have g5 : ((bstr s).toList == [61, 61]) = false := by rw [bstr_toList]; simpa using n5
    have g6 : ((bstr s).toList == [94]) = false := by rw [bstr_toList]; simpa using n6
    have g7 : ((bstr s).toList == [35]) = false := by rw [bstr_toList]; simpa using n7
    clear n0 n1 n2 n3 n4 n5 n6 n7 e
    go_enter Tryd.func38, Tryd.ntmps38
    go_wp2
    go_returns
    exact ⟨rfl, rfl⟩
end Go.Proofs.YtaglmmcjhlehjaaDoor
