/-
  An expression's own fields, by the code: how many parts a kind has, operators, tokens.
  The names that an expression binds in a part, by the code.
  The names that an expression binds in a part, by the code of scope; what a name becomes; whether a name is in a list.
  What a name becomes, by the code; whether a name is in a list.
-/
import Derived.Test.YtaglmmcjhlehjaaGreatDoorK00
import Derived.Test.YtaglmmcjhlehjaaGreatDoorK02
namespace Go.Proofs.YtaglmmcjhlehjaaGreatDoor
open Go.ChangeShapes Go.WideShapes Go.ChangeAt Go.RowKit Go.Sort
set_option linter.unusedVariables false
set_option linter.unusedSimpArgs false

theorem ex_box (w : World) (d : ExD) : d.At (w.alloc (.cells d.arr 25)) w.heap.size 0 := ⟨cell_new w _ _ 0 rfl, cell_new w _ _ 1 rfl, cell_new w _ _ 2 rfl, cell_new w _ _ 3 rfl, cell_new w _ _ 4 rfl, cell_new w _ _ 5 rfl, cell_new w _ _ 6 rfl, cell_new w _ _ 7 rfl⟩

set_option maxRecDepth 100000 in
set_option maxHeartbeats 4000000 in
theorem parts_any (kind labels : Int) (other : Bool) (h0 : 0 ≤ labels) (h1 : labels ≤ 9223372036854775807) (w : World) : Calls Tryz.prog 74 #[.int .i64 kind, .int .i64 labels, .bool other] w fun e w' => e = .returned (.int .i64 (partsF kind labels other)) ∧ w = w' := by
  by_cases k1 : kind = 1
  · subst k1
    rw [show partsF 1 labels other = 0 from by simp [partsF]]
    clear h0 h1
    go_enter Tryz.func74, Tryz.ntmps74
    go_wp2_with fail
    go_returns
    exact ⟨rfl, rfl⟩
  by_cases k2 : kind = 2
  · subst k2
    rw [show partsF 2 labels other = 0 from by simp [partsF]]
    clear k1 h0 h1
    go_enter Tryz.func74, Tryz.ntmps74
    go_wp2_with fail
    go_returns
    exact ⟨rfl, rfl⟩
  by_cases k3 : kind = 3
  · subst k3
    rw [show partsF 3 labels other = 0 from by simp [partsF]]
    clear k1 k2 h0 h1
    go_enter Tryz.func74, Tryz.ntmps74
    go_wp2_with fail
    go_returns
    exact ⟨rfl, rfl⟩
  by_cases k22 : kind = 22
  · subst k22
    rw [show partsF 22 labels other = 0 from by simp [partsF]]
    clear k1 k2 k3 h0 h1
    go_enter Tryz.func74, Tryz.ntmps74
    go_wp2_with fail
    go_returns
    exact ⟨rfl, rfl⟩
  by_cases k4 : kind = 4
  · subst k4
    rw [show partsF 4 labels other = 1 from by simp [partsF]]
    clear k1 k2 k3 k22 h0 h1
    go_enter Tryz.func74, Tryz.ntmps74
    go_wp2_with fail
    go_returns
    exact ⟨rfl, rfl⟩
  by_cases k9 : kind = 9
  · subst k9
    rw [show partsF 9 labels other = 1 from by simp [partsF]]
    clear k1 k2 k3 k22 k4 h0 h1
    go_enter Tryz.func74, Tryz.ntmps74
    go_wp2_with fail
    go_returns
    exact ⟨rfl, rfl⟩
  by_cases k11 : kind = 11
  · subst k11
    rw [show partsF 11 labels other = 1 from by simp [partsF]]
    clear k1 k2 k3 k22 k4 k9 h0 h1
    go_enter Tryz.func74, Tryz.ntmps74
    go_wp2_with fail
    go_returns
    exact ⟨rfl, rfl⟩
  by_cases k13 : kind = 13
  · subst k13
    rw [show partsF 13 labels other = 1 from by simp [partsF]]
    clear k1 k2 k3 k22 k4 k9 k11 h0 h1
    go_enter Tryz.func74, Tryz.ntmps74
    go_wp2_with fail
    go_returns
    exact ⟨rfl, rfl⟩
  by_cases k17 : kind = 17
  · subst k17
    rw [show partsF 17 labels other = 1 from by simp [partsF]]
    clear k1 k2 k3 k22 k4 k9 k11 k13 h0 h1
    go_enter Tryz.func74, Tryz.ntmps74
    go_wp2_with fail
    go_returns
    exact ⟨rfl, rfl⟩
  by_cases k18 : kind = 18
  · subst k18
    rw [show partsF 18 labels other = 1 from by simp [partsF]]
    clear k1 k2 k3 k22 k4 k9 k11 k13 k17 h0 h1
    go_enter Tryz.func74, Tryz.ntmps74
    go_wp2_with fail
    go_returns
    exact ⟨rfl, rfl⟩
  by_cases k20 : kind = 20
  · subst k20
    rw [show partsF 20 labels other = 1 from by simp [partsF]]
    clear k1 k2 k3 k22 k4 k9 k11 k13 k17 k18 h0 h1
    go_enter Tryz.func74, Tryz.ntmps74
    go_wp2_with fail
    go_returns
    exact ⟨rfl, rfl⟩
  by_cases k21 : kind = 21
  · subst k21
    rw [show partsF 21 labels other = 1 from by simp [partsF]]
    clear k1 k2 k3 k22 k4 k9 k11 k13 k17 k18 k20 h0 h1
    go_enter Tryz.func74, Tryz.ntmps74
    go_wp2_with fail
    go_returns
    exact ⟨rfl, rfl⟩
  by_cases k5 : kind = 5
  · subst k5
    rw [show partsF 5 labels other = 2 from by simp [partsF]]
    clear k1 k2 k3 k22 k4 k9 k11 k13 k17 k18 k20 k21 h0 h1
    go_enter Tryz.func74, Tryz.ntmps74
    go_wp2_with fail
    go_returns
    exact ⟨rfl, rfl⟩
  by_cases k6 : kind = 6
  · subst k6
    rw [show partsF 6 labels other = 2 from by simp [partsF]]
    clear k1 k2 k3 k22 k4 k9 k11 k13 k17 k18 k20 k21 k5 h0 h1
    go_enter Tryz.func74, Tryz.ntmps74
    go_wp2_with fail
    go_returns
    exact ⟨rfl, rfl⟩
  by_cases k7 : kind = 7
  · subst k7
    rw [show partsF 7 labels other = 2 from by simp [partsF]]
    clear k1 k2 k3 k22 k4 k9 k11 k13 k17 k18 k20 k21 k5 k6 h0 h1
    go_enter Tryz.func74, Tryz.ntmps74
    go_wp2_with fail
    go_returns
    exact ⟨rfl, rfl⟩
  by_cases k10 : kind = 10
  · subst k10
    rw [show partsF 10 labels other = 2 from by simp [partsF]]
    clear k1 k2 k3 k22 k4 k9 k11 k13 k17 k18 k20 k21 k5 k6 k7 h0 h1
    go_enter Tryz.func74, Tryz.ntmps74
    go_wp2_with fail
    go_returns
    exact ⟨rfl, rfl⟩
  by_cases k12 : kind = 12
  · subst k12
    rw [show partsF 12 labels other = 2 from by simp [partsF]]
    clear k1 k2 k3 k22 k4 k9 k11 k13 k17 k18 k20 k21 k5 k6 k7 k10 h0 h1
    go_enter Tryz.func74, Tryz.ntmps74
    go_wp2_with fail
    go_returns
    exact ⟨rfl, rfl⟩
  by_cases k16 : kind = 16
  · subst k16
    rw [show partsF 16 labels other = 2 from by simp [partsF]]
    clear k1 k2 k3 k22 k4 k9 k11 k13 k17 k18 k20 k21 k5 k6 k7 k10 k12 h0 h1
    go_enter Tryz.func74, Tryz.ntmps74
    go_wp2_with fail
    go_returns
    exact ⟨rfl, rfl⟩
  by_cases k19 : kind = 19
  · subst k19
    rw [show partsF 19 labels other = 2 from by simp [partsF]]
    clear k1 k2 k3 k22 k4 k9 k11 k13 k17 k18 k20 k21 k5 k6 k7 k10 k12 k16 h0 h1
    go_enter Tryz.func74, Tryz.ntmps74
    go_wp2_with fail
    go_returns
    exact ⟨rfl, rfl⟩
  by_cases k15 : kind = 15
  · subst k15
    rw [show partsF 15 labels other = 3 from by simp [partsF]]
    clear k1 k2 k3 k22 k4 k9 k11 k13 k17 k18 k20 k21 k5 k6 k7 k10 k12 k16 k19 h0 h1
    go_enter Tryz.func74, Tryz.ntmps74
    go_wp2_with fail
    go_returns
    exact ⟨rfl, rfl⟩
  by_cases k8 : kind = 8
  · subst k8
    rw [show partsF 8 labels other = labels from by simp [partsF]]
    clear k1 k2 k3 k22 k4 k9 k11 k13 k17 k18 k20 k21 k5 k6 k7 k10 k12 k16 k19 k15 h0 h1
    go_enter Tryz.func74, Tryz.ntmps74
    go_wp2_with fail
    go_returns
    exact ⟨rfl, rfl⟩
  by_cases k14 : kind = 14
  · subst k14
    cases other
    · rw [show partsF 14 labels false = wrap64 (labels + 1) from by simp [partsF]]
      clear k1 k2 k3 k22 k4 k9 k11 k13 k17 k18 k20 k21 k5 k6 k7 k10 k12 k16 k19 k15 k8 h0 h1
      go_enter Tryz.func74, Tryz.ntmps74
      go_wp2_with fail
      go_returns
      exact ⟨rfl, rfl⟩
    · rw [show partsF 14 labels true = wrap64 (labels + 2) from by simp [partsF]]
      clear k1 k2 k3 k22 k4 k9 k11 k13 k17 k18 k20 k21 k5 k6 k7 k10 k12 k16 k19 k15 k8 h0 h1
      go_enter Tryz.func74, Tryz.ntmps74
      go_wp2_with fail
      go_returns
      exact ⟨rfl, rfl⟩
  rw [show partsF kind labels other = -1 from by simp [partsF, k1, k2, k3, k22, k4, k9, k11, k13, k17, k18, k20, k21, k5, k6, k7, k10, k12, k16, k19, k15, k8, k14]]
  have q1 : (kind == 1) = false := by simpa using k1
  have q2 : (kind == 2) = false := by simpa using k2
  have q3 : (kind == 3) = false := by simpa using k3
  have q22 : (kind == 22) = false := by simpa using k22
  have q4 : (kind == 4) = false := by simpa using k4
  have q9 : (kind == 9) = false := by simpa using k9
  have q11 : (kind == 11) = false := by simpa using k11
  have q13 : (kind == 13) = false := by simpa using k13
  have q17 : (kind == 17) = false := by simpa using k17
  have q18 : (kind == 18) = false := by simpa using k18
  have q20 : (kind == 20) = false := by simpa using k20
  have q21 : (kind == 21) = false := by simpa using k21
  have q5 : (kind == 5) = false := by simpa using k5
  have q6 : (kind == 6) = false := by simpa using k6
  have q7 : (kind == 7) = false := by simpa using k7
  have q10 : (kind == 10) = false := by simpa using k10
  have q12 : (kind == 12) = false := by simpa using k12
  have q16 : (kind == 16) = false := by simpa using k16
  have q19 : (kind == 19) = false := by simpa using k19
  have q15 : (kind == 15) = false := by simpa using k15
  have q8 : (kind == 8) = false := by simpa using k8
  have q14 : (kind == 14) = false := by simpa using k14
  clear k1 k2 k3 k22 k4 k9 k11 k13 k17 k18 k20 k21 k5 k6 k7 k10 k12 k16 k19 k15 k8 k14 h0 h1
  go_enter Tryz.func74, Tryz.ntmps74
  go_wp2_with fail
  go_returns
  exact ⟨rfl, rfl⟩

set_option maxHeartbeats 3000000 in
theorem isOperator_any (s : Str) (w : World) : Calls Tryz.prog 103 #[.string (bstr s)] w fun e w' => e = .returned (.bool (opB s)) ∧ w = w' := by
  by_cases h : s ∈ opsL
  · have e : opB s = true := decide_eq_true h
    rw [e]
    clear e
    simp only [opsL, List.mem_cons, List.not_mem_nil, or_false] at h
    rcases h with rfl | rfl | rfl | rfl | rfl | rfl | rfl | rfl
    · have g0 : ((bstr [43]).toList == [43]) = true := by rw [bstr_toList]; decide
      go_enter Tryz.func103, Tryz.ntmps103
      go_wp2
      go_returns
      exact ⟨rfl, rfl⟩
    · have g0 : ((bstr [45]).toList == [43]) = false := by rw [bstr_toList]; decide
      have g1 : ((bstr [45]).toList == [45]) = true := by rw [bstr_toList]; decide
      go_enter Tryz.func103, Tryz.ntmps103
      go_wp2
      go_returns
      exact ⟨rfl, rfl⟩
    · have g0 : ((bstr [42]).toList == [43]) = false := by rw [bstr_toList]; decide
      have g1 : ((bstr [42]).toList == [45]) = false := by rw [bstr_toList]; decide
      have g2 : ((bstr [42]).toList == [42]) = true := by rw [bstr_toList]; decide
      go_enter Tryz.func103, Tryz.ntmps103
      go_wp2
      go_returns
      exact ⟨rfl, rfl⟩
    · have g0 : ((bstr [47]).toList == [43]) = false := by rw [bstr_toList]; decide
      have g1 : ((bstr [47]).toList == [45]) = false := by rw [bstr_toList]; decide
      have g2 : ((bstr [47]).toList == [42]) = false := by rw [bstr_toList]; decide
      have g3 : ((bstr [47]).toList == [47]) = true := by rw [bstr_toList]; decide
      go_enter Tryz.func103, Tryz.ntmps103
      go_wp2
      go_returns
      exact ⟨rfl, rfl⟩
    · have g0 : ((bstr [60]).toList == [43]) = false := by rw [bstr_toList]; decide
      have g1 : ((bstr [60]).toList == [45]) = false := by rw [bstr_toList]; decide
      have g2 : ((bstr [60]).toList == [42]) = false := by rw [bstr_toList]; decide
      have g3 : ((bstr [60]).toList == [47]) = false := by rw [bstr_toList]; decide
      have g4 : ((bstr [60]).toList == [60]) = true := by rw [bstr_toList]; decide
      go_enter Tryz.func103, Tryz.ntmps103
      go_wp2
      go_returns
      exact ⟨rfl, rfl⟩
    · have g0 : ((bstr [61, 61]).toList == [43]) = false := by rw [bstr_toList]; decide
      have g1 : ((bstr [61, 61]).toList == [45]) = false := by rw [bstr_toList]; decide
      have g2 : ((bstr [61, 61]).toList == [42]) = false := by rw [bstr_toList]; decide
      have g3 : ((bstr [61, 61]).toList == [47]) = false := by rw [bstr_toList]; decide
      have g4 : ((bstr [61, 61]).toList == [60]) = false := by rw [bstr_toList]; decide
      have g5 : ((bstr [61, 61]).toList == [61, 61]) = true := by rw [bstr_toList]; decide
      go_enter Tryz.func103, Tryz.ntmps103
      go_wp2
      go_returns
      exact ⟨rfl, rfl⟩
    · have g0 : ((bstr [94]).toList == [43]) = false := by rw [bstr_toList]; decide
      have g1 : ((bstr [94]).toList == [45]) = false := by rw [bstr_toList]; decide
      have g2 : ((bstr [94]).toList == [42]) = false := by rw [bstr_toList]; decide
      have g3 : ((bstr [94]).toList == [47]) = false := by rw [bstr_toList]; decide
      have g4 : ((bstr [94]).toList == [60]) = false := by rw [bstr_toList]; decide
      have g5 : ((bstr [94]).toList == [61, 61]) = false := by rw [bstr_toList]; decide
      have g6 : ((bstr [94]).toList == [94]) = true := by rw [bstr_toList]; decide
      go_enter Tryz.func103, Tryz.ntmps103
      go_wp2
      go_returns
      exact ⟨rfl, rfl⟩
    · have g0 : ((bstr [35]).toList == [43]) = false := by rw [bstr_toList]; decide
      have g1 : ((bstr [35]).toList == [45]) = false := by rw [bstr_toList]; decide
      have g2 : ((bstr [35]).toList == [42]) = false := by rw [bstr_toList]; decide
      have g3 : ((bstr [35]).toList == [47]) = false := by rw [bstr_toList]; decide
      have g4 : ((bstr [35]).toList == [60]) = false := by rw [bstr_toList]; decide
      have g5 : ((bstr [35]).toList == [61, 61]) = false := by rw [bstr_toList]; decide
      have g6 : ((bstr [35]).toList == [94]) = false := by rw [bstr_toList]; decide
      have g7 : ((bstr [35]).toList == [35]) = true := by rw [bstr_toList]; decide
      go_enter Tryz.func103, Tryz.ntmps103
      go_wp2
      go_returns
      exact ⟨rfl, rfl⟩
  · have e : opB s = false := decide_eq_false h
    rw [e]
    simp only [opsL, List.mem_cons, List.not_mem_nil, or_false, not_or] at h
    obtain ⟨n0, n1, n2, n3, n4, n5, n6, n7⟩ := h
    have g0 : ((bstr s).toList == [43]) = false := by rw [bstr_toList]; simpa using n0
    have g1 : ((bstr s).toList == [45]) = false := by rw [bstr_toList]; simpa using n1
    have g2 : ((bstr s).toList == [42]) = false := by rw [bstr_toList]; simpa using n2
    have g3 : ((bstr s).toList == [47]) = false := by rw [bstr_toList]; simpa using n3
    have g4 : ((bstr s).toList == [60]) = false := by rw [bstr_toList]; simpa using n4
    have g5 : ((bstr s).toList == [61, 61]) = false := by rw [bstr_toList]; simpa using n5
    have g6 : ((bstr s).toList == [94]) = false := by rw [bstr_toList]; simpa using n6
    have g7 : ((bstr s).toList == [35]) = false := by rw [bstr_toList]; simpa using n7
    clear n0 n1 n2 n3 n4 n5 n6 n7 e
    go_enter Tryz.func103, Tryz.ntmps103
    go_wp2
    go_returns
    exact ⟨rfl, rfl⟩
end Go.Proofs.YtaglmmcjhlehjaaGreatDoor

namespace Go.Proofs.YtaglmmcjhlehjaaGreatDoor
open Go.ChangeShapes Go.WideShapes Go.ChangeAt Go.RowKit Go.Sort
set_option linter.unusedVariables false
set_option linter.unusedSimpArgs false

def BR (l : List Str) (w : World) (e : Ending) (w' : World) : Prop := ∃ A n c, e = .returned (.slice A n c) ∧ Rd w' 1 A n (strs l) ∧ n ≤ 4000000 ∧ Below w.heap.size w w'
theorem BR.nil {w : World} : BR [] w (.returned (.slice none 0 0)) w := ⟨none, 0, 0, rfl, Rd.nil _ _ _, by omega, Below.refl _ _⟩

set_option maxRecDepth 100000 in
set_option maxHeartbeats 1000000 in
theorem bound_4 (d : ExD) (l : List Ex) (b o : Nat) (i : Nat) (iv : Int) (hiv : iv = (i : Int)) (hi4 : i ≤ 9223372036854775807) (w : World) (h : d.At w b o) (hI : (Ex.mk d l).In w) (hk : d.kind = 4) (h0 : i = 0) : Calls Tryz.prog 56 #[.pointer (some ⟨b, o, none⟩), .int .i64 iv] w fun e w' => BR (d.boundF i) w e w' := by
  have HE := Lib.hid (show d.boundF i = [d.s] by unfold ExD.boundF; simp [hk, h0])
  have HI := Lib.hid (And.intro hI h)
  have c0 := h.c0
  have c3 := h.c3
  have c4 := h.c4
  have c5 := h.c5
  have c6 := h.c6
  have HIV := Lib.hid hiv
  have q4 : (d.kind == 4) = true := by rw [hk]; rfl
  have q6 : (d.kind == 6) = false := by rw [hk]; rfl
  have q7 : (d.kind == 7) = false := by rw [hk]; rfl
  have q14 : (d.kind == 14) = false := by rw [hk]; rfl
  have i0 : (iv == 0) = true := by rw [beq_iff_eq]; omega
  clear hk hiv
  rw [HE.out]
  clear h hI HE
  go_enter Tryz.func56, Tryz.ntmps56
  go_wp2_with fail
  go_returns
  exact ⟨_, 1, 1, rfl, Rd.lit w #[.string (bstr d.s)] 9 rfl, by omega, (Below.refl _ _).alloc (Nat.le_refl _) _⟩

set_option maxRecDepth 100000 in
set_option maxHeartbeats 1000000 in
theorem bound_4n (d : ExD) (l : List Ex) (b o : Nat) (i : Nat) (iv : Int) (hiv : iv = (i : Int)) (hi4 : i ≤ 9223372036854775807) (w : World) (h : d.At w b o) (hI : (Ex.mk d l).In w) (hk : d.kind = 4) (h0 : ¬ i = 0) : Calls Tryz.prog 56 #[.pointer (some ⟨b, o, none⟩), .int .i64 iv] w fun e w' => BR (d.boundF i) w e w' := by
  have HE := Lib.hid (show d.boundF i = [] by unfold ExD.boundF; simp [hk, h0])
  have HI := Lib.hid (And.intro hI h)
  have c0 := h.c0
  have c3 := h.c3
  have c4 := h.c4
  have c5 := h.c5
  have c6 := h.c6
  have HIV := Lib.hid hiv
  have q4 : (d.kind == 4) = true := by rw [hk]; rfl
  have q6 : (d.kind == 6) = false := by rw [hk]; rfl
  have q7 : (d.kind == 7) = false := by rw [hk]; rfl
  have q14 : (d.kind == 14) = false := by rw [hk]; rfl
  have i0 : (iv == 0) = false := by rw [beq_eq_false_iff_ne]; omega
  clear hk hiv
  rw [HE.out]
  clear h hI HE
  go_enter Tryz.func56, Tryz.ntmps56
  go_wp2_with fail
  go_returns
  exact BR.nil

set_option maxRecDepth 100000 in
set_option maxHeartbeats 1000000 in
theorem bound_6 (d : ExD) (l : List Ex) (b o : Nat) (i : Nat) (iv : Int) (hiv : iv = (i : Int)) (hi4 : i ≤ 9223372036854775807) (w : World) (h : d.At w b o) (hI : (Ex.mk d l).In w) (hk : d.kind = 6) (h0 : i = 1) : Calls Tryz.prog 56 #[.pointer (some ⟨b, o, none⟩), .int .i64 iv] w fun e w' => BR (d.boundF i) w e w' := by
  have HE := Lib.hid (show d.boundF i = [d.s] by unfold ExD.boundF; simp [hk, h0])
  have HI := Lib.hid (And.intro hI h)
  have c0 := h.c0
  have c3 := h.c3
  have c4 := h.c4
  have c5 := h.c5
  have c6 := h.c6
  have HIV := Lib.hid hiv
  have q4 : (d.kind == 4) = false := by rw [hk]; rfl
  have q6 : (d.kind == 6) = true := by rw [hk]; rfl
  have q7 : (d.kind == 7) = false := by rw [hk]; rfl
  have q14 : (d.kind == 14) = false := by rw [hk]; rfl
  have i1 : (iv == 1) = true := by rw [beq_iff_eq]; omega
  clear hk hiv
  rw [HE.out]
  clear h hI HE
  go_enter Tryz.func56, Tryz.ntmps56
  go_wp2_with fail
  go_returns
  exact ⟨_, 1, 1, rfl, Rd.lit w #[.string (bstr d.s)] 9 rfl, by omega, (Below.refl _ _).alloc (Nat.le_refl _) _⟩

set_option maxRecDepth 100000 in
set_option maxHeartbeats 1000000 in
theorem bound_6n (d : ExD) (l : List Ex) (b o : Nat) (i : Nat) (iv : Int) (hiv : iv = (i : Int)) (hi4 : i ≤ 9223372036854775807) (w : World) (h : d.At w b o) (hI : (Ex.mk d l).In w) (hk : d.kind = 6) (h0 : ¬ i = 1) : Calls Tryz.prog 56 #[.pointer (some ⟨b, o, none⟩), .int .i64 iv] w fun e w' => BR (d.boundF i) w e w' := by
  have HE := Lib.hid (show d.boundF i = [] by unfold ExD.boundF; simp [hk, h0])
  have HI := Lib.hid (And.intro hI h)
  have c0 := h.c0
  have c3 := h.c3
  have c4 := h.c4
  have c5 := h.c5
  have c6 := h.c6
  have HIV := Lib.hid hiv
  have q4 : (d.kind == 4) = false := by rw [hk]; rfl
  have q6 : (d.kind == 6) = true := by rw [hk]; rfl
  have q7 : (d.kind == 7) = false := by rw [hk]; rfl
  have q14 : (d.kind == 14) = false := by rw [hk]; rfl
  have i1 : (iv == 1) = false := by rw [beq_eq_false_iff_ne]; omega
  clear hk hiv
  rw [HE.out]
  clear h hI HE
  go_enter Tryz.func56, Tryz.ntmps56
  go_wp2_with fail
  go_returns
  exact BR.nil

set_option maxRecDepth 100000 in
set_option maxHeartbeats 1000000 in
theorem bound_71 (d : ExD) (l : List Ex) (b o : Nat) (i : Nat) (iv : Int) (hiv : iv = (i : Int)) (hi4 : i ≤ 9223372036854775807) (w : World) (h : d.At w b o) (hI : (Ex.mk d l).In w) (hk : d.kind = 7) (h0 : i = 1) : Calls Tryz.prog 56 #[.pointer (some ⟨b, o, none⟩), .int .i64 iv] w fun e w' => BR (d.boundF i) w e w' := by
  have HE := Lib.hid (show d.boundF i = [d.s] by unfold ExD.boundF; simp [hk, h0])
  have HI := Lib.hid (And.intro hI h)
  have c0 := h.c0
  have c3 := h.c3
  have c4 := h.c4
  have c5 := h.c5
  have c6 := h.c6
  have HIV := Lib.hid hiv
  have q4 : (d.kind == 4) = false := by rw [hk]; rfl
  have q6 : (d.kind == 6) = false := by rw [hk]; rfl
  have q7 : (d.kind == 7) = true := by rw [hk]; rfl
  have q14 : (d.kind == 14) = false := by rw [hk]; rfl
  have i1 : (iv == 1) = true := by rw [beq_iff_eq]; omega
  clear hk hiv
  rw [HE.out]
  clear h hI HE
  go_enter Tryz.func56, Tryz.ntmps56
  go_wp2_with fail
  go_returns
  exact ⟨_, 1, 1, rfl, Rd.lit w #[.string (bstr d.s)] 9 rfl, by omega, (Below.refl _ _).alloc (Nat.le_refl _) _⟩

set_option maxRecDepth 100000 in
set_option maxHeartbeats 1000000 in
theorem bound_70 (d : ExD) (l : List Ex) (b o : Nat) (i : Nat) (iv : Int) (hiv : iv = (i : Int)) (hi4 : i ≤ 9223372036854775807) (w : World) (h : d.At w b o) (hI : (Ex.mk d l).In w) (hk : d.kind = 7) (h0 : i = 0) : Calls Tryz.prog 56 #[.pointer (some ⟨b, o, none⟩), .int .i64 iv] w fun e w' => BR (d.boundF i) w e w' := by
  have HE := Lib.hid (show d.boundF i = [d.s, d.t] by unfold ExD.boundF; simp [hk, h0])
  have HI := Lib.hid (And.intro hI h)
  have c0 := h.c0
  have c3 := h.c3
  have c4 := h.c4
  have c5 := h.c5
  have c6 := h.c6
  have HIV := Lib.hid hiv
  have q4 : (d.kind == 4) = false := by rw [hk]; rfl
  have q6 : (d.kind == 6) = false := by rw [hk]; rfl
  have q7 : (d.kind == 7) = true := by rw [hk]; rfl
  have q14 : (d.kind == 14) = false := by rw [hk]; rfl
  have i1 : (iv == 1) = false := by rw [beq_eq_false_iff_ne]; omega
  have i0 : (iv == 0) = true := by rw [beq_iff_eq]; omega
  clear hk hiv
  rw [HE.out]
  clear h hI HE
  go_enter Tryz.func56, Tryz.ntmps56
  go_wp2_with fail
  go_region
  all_goals
    go_wp2_with fail
    go_returns
    exact ⟨_, 2, 2, rfl, (Rd.lit w #[.string (bstr d.s), .string (bstr d.t)] 9 rfl).drew, by omega, ((Below.refl w.heap.size w).alloc (Nat.le_refl _) _).drew⟩

set_option maxRecDepth 100000 in
set_option maxHeartbeats 1000000 in
theorem bound_7n (d : ExD) (l : List Ex) (b o : Nat) (i : Nat) (iv : Int) (hiv : iv = (i : Int)) (hi4 : i ≤ 9223372036854775807) (w : World) (h : d.At w b o) (hI : (Ex.mk d l).In w) (hk : d.kind = 7) (h0 : ¬ i = 0) (h1 : ¬ i = 1) : Calls Tryz.prog 56 #[.pointer (some ⟨b, o, none⟩), .int .i64 iv] w fun e w' => BR (d.boundF i) w e w' := by
  have HE := Lib.hid (show d.boundF i = [] by unfold ExD.boundF; simp [hk, h0, h1])
  have HI := Lib.hid (And.intro hI h)
  have c0 := h.c0
  have c3 := h.c3
  have c4 := h.c4
  have c5 := h.c5
  have c6 := h.c6
  have HIV := Lib.hid hiv
  have q4 : (d.kind == 4) = false := by rw [hk]; rfl
  have q6 : (d.kind == 6) = false := by rw [hk]; rfl
  have q7 : (d.kind == 7) = true := by rw [hk]; rfl
  have q14 : (d.kind == 14) = false := by rw [hk]; rfl
  have i1 : (iv == 1) = false := by rw [beq_eq_false_iff_ne]; omega
  have i0 : (iv == 0) = false := by rw [beq_eq_false_iff_ne]; omega
  clear hk hiv
  rw [HE.out]
  clear h hI HE
  go_enter Tryz.func56, Tryz.ntmps56
  go_wp2_with fail
  go_returns
  exact BR.nil

set_option maxRecDepth 100000 in
set_option maxHeartbeats 1000000 in
theorem bound_14t (d : ExD) (l : List Ex) (b o : Nat) (i : Nat) (iv : Int) (hiv : iv = (i : Int)) (hi4 : i ≤ 9223372036854775807) (w : World) (h : d.At w b o) (hI : (Ex.mk d l).In w) (hk : d.kind = 14) (h0 : d.ln < i) : Calls Tryz.prog 56 #[.pointer (some ⟨b, o, none⟩), .int .i64 iv] w fun e w' => BR (d.boundF i) w e w' := by
  have HE := Lib.hid (show d.boundF i = [d.t] by unfold ExD.boundF; simp [hk, h0])
  have HI := Lib.hid (And.intro hI h)
  have c0 := h.c0
  have c3 := h.c3
  have c4 := h.c4
  have c5 := h.c5
  have c6 := h.c6
  have HIV := Lib.hid hiv
  have q4 : (d.kind == 4) = false := by rw [hk]; rfl
  have q6 : (d.kind == 6) = false := by rw [hk]; rfl
  have q7 : (d.kind == 7) = false := by rw [hk]; rfl
  have q14 : (d.kind == 14) = true := by rw [hk]; rfl
  have i1 : (d.ln : Int) < iv := by omega
  clear hk hiv
  rw [HE.out]
  clear h hI HE
  go_enter Tryz.func56, Tryz.ntmps56
  go_wp2_with fail
  go_returns
  exact ⟨_, 1, 1, rfl, Rd.lit w #[.string (bstr d.t)] 9 rfl, by omega, (Below.refl _ _).alloc (Nat.le_refl _) _⟩

set_option maxRecDepth 100000 in
set_option maxHeartbeats 1000000 in
theorem bound_14n (d : ExD) (l : List Ex) (b o : Nat) (i : Nat) (iv : Int) (hiv : iv = (i : Int)) (hi4 : i ≤ 9223372036854775807) (w : World) (h : d.At w b o) (hI : (Ex.mk d l).In w) (hk : d.kind = 14) (h0 : ¬ d.ln < i) (h1 : ¬ (0 < i ∧ i ≤ d.nn)) : Calls Tryz.prog 56 #[.pointer (some ⟨b, o, none⟩), .int .i64 iv] w fun e w' => BR (d.boundF i) w e w' := by
  have HE := Lib.hid (show d.boundF i = [] by unfold ExD.boundF; rw [if_neg (by omega), if_neg (by omega), if_neg (by omega), if_neg (by intro h; exact h1 h.2)])
  have HI := Lib.hid (And.intro hI h)
  have c0 := h.c0
  have c3 := h.c3
  have c4 := h.c4
  have c5 := h.c5
  have c6 := h.c6
  have HIV := Lib.hid hiv
  have q4 : (d.kind == 4) = false := by rw [hk]; rfl
  have q6 : (d.kind == 6) = false := by rw [hk]; rfl
  have q7 : (d.kind == 7) = false := by rw [hk]; rfl
  have q14 : (d.kind == 14) = true := by rw [hk]; rfl
  have i1 : ¬ (d.ln : Int) < iv := by omega
  have i2 : ¬ (0 < iv ∧ iv ≤ (d.nn : Int)) := by omega
  clear hk hiv
  rw [HE.out]
  clear h hI HE
  go_enter Tryz.func56, Tryz.ntmps56
  go_wp2_with fail
  all_goals
    go_returns
    exact BR.nil

set_option maxRecDepth 100000 in
set_option maxHeartbeats 1000000 in
theorem bound_14y (d : ExD) (l : List Ex) (b o : Nat) (i : Nat) (iv : Int) (hiv : iv = (i : Int)) (hi4 : i ≤ 9223372036854775807) (w : World) (h : d.At w b o) (hI : (Ex.mk d l).In w) (hk : d.kind = 14) (h0 : ¬ d.ln < i) (h1 : 0 < i) (h2 : i ≤ d.nn) : Calls Tryz.prog 56 #[.pointer (some ⟨b, o, none⟩), .int .i64 iv] w fun e w' => BR (d.boundF i) w e w' := by
  have HE := Lib.hid (show d.boundF i = (d.names.drop (i - 1)).take 1 by unfold ExD.boundF; rw [if_neg (by omega), if_neg (by omega), if_neg (by omega), if_pos ⟨hk, h1, h2⟩])
  have HI := Lib.hid (And.intro hI h)
  have c0 := h.c0
  have c3 := h.c3
  have c4 := h.c4
  have c5 := h.c5
  have c6 := h.c6
  have HIV := Lib.hid hiv
  have q4 : (d.kind == 4) = false := by rw [hk]; rfl
  have q6 : (d.kind == 6) = false := by rw [hk]; rfl
  have q7 : (d.kind == 7) = false := by rw [hk]; rfl
  have q14 : (d.kind == 14) = true := by rw [hk]; rfl
  have i1 : ¬ (d.ln : Int) < iv := by omega
  have i2 : 0 < iv := by omega
  have i3 : iv ≤ (d.nn : Int) := by omega
  have hnc : d.nn ≤ d.nc := hI.cap.2.1.1
  obtain ⟨j, rfl⟩ : ∃ j, i = j + 1 := ⟨i - 1, by omega⟩
  have f0 : wrap64 (iv - 1) = (j : Int) := by rw [hiv]; unfold wrap64; omega
  have f1 : 0 ≤ iv ∧ iv ≤ (d.nc : Int) := by omega
  have f2 : 0 ≤ (j : Int) ∧ (j : Int) ≤ max iv 0 := by omega
  have f3 : iv.toNat = j + 1 := by omega
  have f4 : ¬ d.nc = j := by omega
  clear hk
  rw [HE.out]
  clear h hI HE
  go_enter Tryz.func56, Tryz.ntmps56
  go_wp2_with fail
  go_returns
  have hr := HI.out.1.nam.cut (lo := j) (hi := j + 1) (k := j) (by omega) (by have := HIV.out; simp only [Ex.d]; omega) (by omega)
  simp only [Ex.d, Nat.mul_one] at hr
  refine ⟨_, _, _, rfl, ?_, by omega, Below.refl _ _⟩
  rw [show j + 1 - j = 1 from by omega] at hr
  simpa [strs, List.map_take, List.map_drop] using hr

set_option maxRecDepth 100000 in
set_option maxHeartbeats 1000000 in
theorem bound_o (d : ExD) (l : List Ex) (b o : Nat) (i : Nat) (iv : Int) (hiv : iv = (i : Int)) (hi4 : i ≤ 9223372036854775807) (w : World) (h : d.At w b o) (hI : (Ex.mk d l).In w) (h4 : ¬ d.kind = 4) (h6 : ¬ d.kind = 6) (h7 : ¬ d.kind = 7) (h14 : ¬ d.kind = 14) : Calls Tryz.prog 56 #[.pointer (some ⟨b, o, none⟩), .int .i64 iv] w fun e w' => BR (d.boundF i) w e w' := by
  have HE := Lib.hid (show d.boundF i = [] by unfold ExD.boundF; simp [h4, h6, h7, h14])
  have HI := Lib.hid (And.intro hI h)
  have c0 := h.c0
  have c3 := h.c3
  have c4 := h.c4
  have c5 := h.c5
  have c6 := h.c6
  have HIV := Lib.hid hiv
  have q4 : (d.kind == 4) = false := by simpa using h4
  have q6 : (d.kind == 6) = false := by simpa using h6
  have q7 : (d.kind == 7) = false := by simpa using h7
  have q14 : (d.kind == 14) = false := by simpa using h14
  clear h4 h6 h7 h14 hiv
  rw [HE.out]
  clear h hI HE
  go_enter Tryz.func56, Tryz.ntmps56
  go_wp2_with fail
  go_returns
  exact BR.nil

theorem bound_any (d : ExD) (l : List Ex) (b o : Nat) (i : Nat) (hi4 : i ≤ 9223372036854775807) (w : World) (h : d.At w b o) (hI : (Ex.mk d l).In w) : Calls Tryz.prog 56 #[.pointer (some ⟨b, o, none⟩), .int .i64 (i : Int)] w fun e w' => BR (d.boundF i) w e w' := by
  by_cases h4 : d.kind = 4
  · by_cases h0 : i = 0
    · exact bound_4 d l b o i _ rfl hi4 w h hI h4 h0
    · exact bound_4n d l b o i _ rfl hi4 w h hI h4 h0
  by_cases h6 : d.kind = 6
  · by_cases h0 : i = 1
    · exact bound_6 d l b o i _ rfl hi4 w h hI h6 h0
    · exact bound_6n d l b o i _ rfl hi4 w h hI h6 h0
  by_cases h7 : d.kind = 7
  · by_cases h1 : i = 1
    · exact bound_71 d l b o i _ rfl hi4 w h hI h7 h1
    · by_cases h0 : i = 0
      · exact bound_70 d l b o i _ rfl hi4 w h hI h7 h0
      · exact bound_7n d l b o i _ rfl hi4 w h hI h7 h0 h1
  by_cases h14 : d.kind = 14
  · by_cases h0 : d.ln < i
    · exact bound_14t d l b o i _ rfl hi4 w h hI h14 h0
    · by_cases h1 : 0 < i ∧ i ≤ d.nn
      · exact bound_14y d l b o i _ rfl hi4 w h hI h14 h0 h1.1 h1.2
      · exact bound_14n d l b o i _ rfl hi4 w h hI h14 h0 h1
  · exact bound_o d l b o i _ rfl hi4 w h hI h4 h6 h7 h14
end Go.Proofs.YtaglmmcjhlehjaaGreatDoor

namespace Go.Proofs.YtaglmmcjhlehjaaGreatDoor
open Go.ChangeShapes Go.WideShapes Go.ChangeAt Go.RowKit Go.Sort
set_option linter.unusedVariables false
set_option linter.unusedSimpArgs false

/-- The names that an expression binds in its part number i (by the code). -/
def ExD.boundC (d : ExD) (i : Nat) : List Str :=
  if d.kind = 4 ∨ ((d.kind = 6 ∨ d.kind = 7) ∧ i = 1) then [d.s]
  else if d.kind = 7 then [d.s, d.t]
  else if d.kind = 14 ∧ d.nn < i then [d.t]
  else if d.kind = 14 ∧ 0 < i then (d.names.drop (i - 1)).take 1
  else []
/-- What bound tells: a list of few names. -/
def BC (l : List Str) (w : World) (e : Ending) (w' : World) : Prop := ∃ A n c, e = .returned (.slice A n c) ∧ Rd w' 1 A n (strs l) ∧ n ≤ 2 ∧ Below w.heap.size w w' ∧ (∀ a, A = some a → w.heap.size ≤ a.block)
theorem BC.nil {w : World} : BC [] w (.returned (.slice none 0 0)) w := ⟨none, 0, 0, rfl, Rd.nil _ _ _, by omega, Below.refl _ _, fun a h => by cases h⟩

set_option maxRecDepth 100000 in
set_option maxHeartbeats 1000000 in
theorem boundC_4 (d : ExD) (l : List Ex) (b o : Nat) (i : Nat) (iv : Int) (hiv : iv = (i : Int)) (hi4 : i ≤ 9223372036854775806) (w : World) (h : d.At w b o) (hI : (Ex.mk d l).In w) (hk : d.kind = 4) : Calls Tryz.prog 70 #[.pointer (some ⟨b, o, none⟩), .int .i64 iv] w fun e w' => BC (d.boundC i) w e w' := by
  have HE := Lib.hid (show d.boundC i = [d.s] by unfold ExD.boundC; simp [hk])
  have HI := Lib.hid (And.intro hI h)
  have c0 := h.c0
  have c3 := h.c3
  have c4 := h.c4
  have c6 := h.c6
  have HIV := Lib.hid hiv
  have q4 : (d.kind == 4) = true := by rw [hk]; rfl
  have q6 : (d.kind == 6) = false := by rw [hk]; rfl
  have q7 : (d.kind == 7) = false := by rw [hk]; rfl
  have q14 : (d.kind == 14) = false := by rw [hk]; rfl
  clear hk hiv
  rw [HE.out]
  clear h hI HE
  go_enter Tryz.func70, Tryz.ntmps70
  go_wp2_with fail
  go_returns
  exact ⟨_, 1, 1, rfl, Rd.lit w #[.string (bstr d.s)] 9 rfl, by omega, (Below.refl _ _).alloc (Nat.le_refl _) _, fun a h => by cases h; exact Nat.le_refl _⟩

set_option maxRecDepth 100000 in
set_option maxHeartbeats 1000000 in
theorem boundC_6 (d : ExD) (l : List Ex) (b o : Nat) (i : Nat) (iv : Int) (hiv : iv = (i : Int)) (hi4 : i ≤ 9223372036854775806) (w : World) (h : d.At w b o) (hI : (Ex.mk d l).In w) (hk : d.kind = 6) (h0 : i = 1) : Calls Tryz.prog 70 #[.pointer (some ⟨b, o, none⟩), .int .i64 iv] w fun e w' => BC (d.boundC i) w e w' := by
  have HE := Lib.hid (show d.boundC i = [d.s] by unfold ExD.boundC; simp [hk, h0])
  have HI := Lib.hid (And.intro hI h)
  have c0 := h.c0
  have c3 := h.c3
  have c4 := h.c4
  have c6 := h.c6
  have HIV := Lib.hid hiv
  have q4 : (d.kind == 4) = false := by rw [hk]; rfl
  have q6 : (d.kind == 6) = true := by rw [hk]; rfl
  have q7 : (d.kind == 7) = false := by rw [hk]; rfl
  have q14 : (d.kind == 14) = false := by rw [hk]; rfl
  have i1 : (iv == 1) = true := by rw [beq_iff_eq]; omega
  clear hk hiv
  rw [HE.out]
  clear h hI HE
  go_enter Tryz.func70, Tryz.ntmps70
  go_wp2_with fail
  go_returns
  exact ⟨_, 1, 1, rfl, Rd.lit w #[.string (bstr d.s)] 9 rfl, by omega, (Below.refl _ _).alloc (Nat.le_refl _) _, fun a h => by cases h; exact Nat.le_refl _⟩

set_option maxRecDepth 100000 in
set_option maxHeartbeats 1000000 in
theorem boundC_7 (d : ExD) (l : List Ex) (b o : Nat) (i : Nat) (iv : Int) (hiv : iv = (i : Int)) (hi4 : i ≤ 9223372036854775806) (w : World) (h : d.At w b o) (hI : (Ex.mk d l).In w) (hk : d.kind = 7) (h0 : i = 1) : Calls Tryz.prog 70 #[.pointer (some ⟨b, o, none⟩), .int .i64 iv] w fun e w' => BC (d.boundC i) w e w' := by
  have HE := Lib.hid (show d.boundC i = [d.s] by unfold ExD.boundC; simp [hk, h0])
  have HI := Lib.hid (And.intro hI h)
  have c0 := h.c0
  have c3 := h.c3
  have c4 := h.c4
  have c6 := h.c6
  have HIV := Lib.hid hiv
  have q4 : (d.kind == 4) = false := by rw [hk]; rfl
  have q6 : (d.kind == 6) = false := by rw [hk]; rfl
  have q7 : (d.kind == 7) = true := by rw [hk]; rfl
  have q14 : (d.kind == 14) = false := by rw [hk]; rfl
  have i1 : (iv == 1) = true := by rw [beq_iff_eq]; omega
  clear hk hiv
  rw [HE.out]
  clear h hI HE
  go_enter Tryz.func70, Tryz.ntmps70
  go_wp2_with fail
  go_returns
  exact ⟨_, 1, 1, rfl, Rd.lit w #[.string (bstr d.s)] 9 rfl, by omega, (Below.refl _ _).alloc (Nat.le_refl _) _, fun a h => by cases h; exact Nat.le_refl _⟩

set_option maxRecDepth 100000 in
set_option maxHeartbeats 1000000 in
theorem boundC_6n (d : ExD) (l : List Ex) (b o : Nat) (i : Nat) (iv : Int) (hiv : iv = (i : Int)) (hi4 : i ≤ 9223372036854775806) (w : World) (h : d.At w b o) (hI : (Ex.mk d l).In w) (hk : d.kind = 6) (h0 : ¬ i = 1) : Calls Tryz.prog 70 #[.pointer (some ⟨b, o, none⟩), .int .i64 iv] w fun e w' => BC (d.boundC i) w e w' := by
  have HE := Lib.hid (show d.boundC i = [] by unfold ExD.boundC; simp [hk, h0])
  have HI := Lib.hid (And.intro hI h)
  have c0 := h.c0
  have c3 := h.c3
  have c4 := h.c4
  have c6 := h.c6
  have HIV := Lib.hid hiv
  have q4 : (d.kind == 4) = false := by rw [hk]; rfl
  have q6 : (d.kind == 6) = true := by rw [hk]; rfl
  have q7 : (d.kind == 7) = false := by rw [hk]; rfl
  have q14 : (d.kind == 14) = false := by rw [hk]; rfl
  have i1 : (iv == 1) = false := by rw [beq_eq_false_iff_ne]; omega
  clear hk hiv
  rw [HE.out]
  clear h hI HE
  go_enter Tryz.func70, Tryz.ntmps70
  go_wp2_with fail
  go_returns
  exact BC.nil

set_option maxRecDepth 100000 in
set_option maxHeartbeats 1000000 in
theorem boundC_7n (d : ExD) (l : List Ex) (b o : Nat) (i : Nat) (iv : Int) (hiv : iv = (i : Int)) (hi4 : i ≤ 9223372036854775806) (w : World) (h : d.At w b o) (hI : (Ex.mk d l).In w) (hk : d.kind = 7) (h0 : ¬ i = 1) : Calls Tryz.prog 70 #[.pointer (some ⟨b, o, none⟩), .int .i64 iv] w fun e w' => BC (d.boundC i) w e w' := by
  have HE := Lib.hid (show d.boundC i = [d.s, d.t] by unfold ExD.boundC; simp [hk, h0])
  have HI := Lib.hid (And.intro hI h)
  have c0 := h.c0
  have c3 := h.c3
  have c4 := h.c4
  have c6 := h.c6
  have HIV := Lib.hid hiv
  have q4 : (d.kind == 4) = false := by rw [hk]; rfl
  have q6 : (d.kind == 6) = false := by rw [hk]; rfl
  have q7 : (d.kind == 7) = true := by rw [hk]; rfl
  have q14 : (d.kind == 14) = false := by rw [hk]; rfl
  have i1 : (iv == 1) = false := by rw [beq_eq_false_iff_ne]; omega
  clear hk hiv
  rw [HE.out]
  clear h hI HE
  go_enter Tryz.func70, Tryz.ntmps70
  go_wp2_with fail
  go_region
  all_goals
    go_wp2_with fail
    go_returns
    exact ⟨_, 2, 2, rfl, (Rd.lit w #[.string (bstr d.s), .string (bstr d.t)] 9 rfl).drew, by omega, ((Below.refl w.heap.size w).alloc (Nat.le_refl _) _).drew, fun a h => by cases h; exact Nat.le_refl _⟩

set_option maxRecDepth 100000 in
set_option maxHeartbeats 1000000 in
theorem boundC_14t (d : ExD) (l : List Ex) (b o : Nat) (i : Nat) (iv : Int) (hiv : iv = (i : Int)) (hi4 : i ≤ 9223372036854775806) (w : World) (h : d.At w b o) (hI : (Ex.mk d l).In w) (hk : d.kind = 14) (h0 : d.nn < i) : Calls Tryz.prog 70 #[.pointer (some ⟨b, o, none⟩), .int .i64 iv] w fun e w' => BC (d.boundC i) w e w' := by
  have HE := Lib.hid (show d.boundC i = [d.t] by unfold ExD.boundC; simp [hk, h0])
  have HI := Lib.hid (And.intro hI h)
  have c0 := h.c0
  have c3 := h.c3
  have c4 := h.c4
  have c6 := h.c6
  have HIV := Lib.hid hiv
  have q4 : (d.kind == 4) = false := by rw [hk]; rfl
  have q6 : (d.kind == 6) = false := by rw [hk]; rfl
  have q7 : (d.kind == 7) = false := by rw [hk]; rfl
  have q14 : (d.kind == 14) = true := by rw [hk]; rfl
  have i1 : (d.nn : Int) < iv := by omega
  clear hk hiv
  rw [HE.out]
  clear h hI HE
  go_enter Tryz.func70, Tryz.ntmps70
  go_wp2_with fail
  go_returns
  exact ⟨_, 1, 1, rfl, Rd.lit w #[.string (bstr d.t)] 9 rfl, by omega, (Below.refl _ _).alloc (Nat.le_refl _) _, fun a h => by cases h; exact Nat.le_refl _⟩

set_option maxRecDepth 100000 in
set_option maxHeartbeats 1000000 in
theorem boundC_14n (d : ExD) (l : List Ex) (b o : Nat) (i : Nat) (iv : Int) (hiv : iv = (i : Int)) (hi4 : i ≤ 9223372036854775806) (w : World) (h : d.At w b o) (hI : (Ex.mk d l).In w) (hk : d.kind = 14) (h0 : i = 0) : Calls Tryz.prog 70 #[.pointer (some ⟨b, o, none⟩), .int .i64 iv] w fun e w' => BC (d.boundC i) w e w' := by
  have HE := Lib.hid (show d.boundC i = [] by unfold ExD.boundC; simp [hk, h0])
  have HI := Lib.hid (And.intro hI h)
  have c0 := h.c0
  have c3 := h.c3
  have c4 := h.c4
  have c6 := h.c6
  have HIV := Lib.hid hiv
  have q4 : (d.kind == 4) = false := by rw [hk]; rfl
  have q6 : (d.kind == 6) = false := by rw [hk]; rfl
  have q7 : (d.kind == 7) = false := by rw [hk]; rfl
  have q14 : (d.kind == 14) = true := by rw [hk]; rfl
  have i1 : ¬ (d.nn : Int) < iv := by omega
  have i2 : ¬ 0 < iv := by omega
  clear hk hiv
  rw [HE.out]
  clear h hI HE
  go_enter Tryz.func70, Tryz.ntmps70
  go_wp2_with fail
  go_returns
  exact BC.nil

set_option maxRecDepth 100000 in
set_option maxHeartbeats 1000000 in
theorem boundC_14y (d : ExD) (l : List Ex) (b o : Nat) (i : Nat) (iv : Int) (hiv : iv = (i : Int)) (hi4 : i ≤ 9223372036854775806) (w : World) (h : d.At w b o) (hI : (Ex.mk d l).In w) (hk : d.kind = 14) (h0 : ¬ d.nn < i) (h1 : 0 < i) : Calls Tryz.prog 70 #[.pointer (some ⟨b, o, none⟩), .int .i64 iv] w fun e w' => BC (d.boundC i) w e w' := by
  have HE := Lib.hid (show d.boundC i = (d.names.drop (i - 1)).take 1 by unfold ExD.boundC; rw [if_neg (by omega), if_neg (by omega), if_neg (by omega), if_pos ⟨hk, h1⟩])
  have HI := Lib.hid (And.intro hI h)
  have c0 := h.c0
  have c3 := h.c3
  have c4 := h.c4
  have c6 := h.c6
  have HIV := Lib.hid hiv
  have q4 : (d.kind == 4) = false := by rw [hk]; rfl
  have q6 : (d.kind == 6) = false := by rw [hk]; rfl
  have q7 : (d.kind == 7) = false := by rw [hk]; rfl
  have q14 : (d.kind == 14) = true := by rw [hk]; rfl
  have i1 : ¬ (d.nn : Int) < iv := by omega
  have i2 : 0 < iv := by omega
  obtain ⟨j, rfl⟩ : ∃ j, i = j + 1 := ⟨i - 1, by omega⟩
  have hnl : d.names.length = d.nn := hI.namLen
  have hj : j < d.names.length := by omega
  obtain ⟨b2, o2, hA, hcel⟩ := hI.nam.str (k := j) hj
  have hx := hcel j hj
  have hA2 : d.nA = some ⟨b2, o2, none⟩ := hA
  have c6' : w.cell? ⟨b, o + 6, none⟩ = some (.slice (some ⟨b2, o2, none⟩) d.nn d.nc) := by rw [← hA2]; exact c6
  clear c6
  have hx' : w.cell? ⟨b2, o2 + j, none⟩ = some (.string (bstr d.names[j])) := hx
  clear hx
  have HX := Lib.hid (show (d.names.drop j).take 1 = [d.names[j]] by rw [List.drop_eq_getElem_cons hj]; rfl)
  obtain ⟨x, hxx⟩ : ∃ x, d.names[j] = x := ⟨_, rfl⟩
  rw [hxx] at hx' HX
  have f0 : wrap64 (iv - 1) = (j : Int) := by rw [hiv]; unfold wrap64; omega
  have f1 : (j : Int) < (d.nn : Int) := by omega
  have f2 : (0 : Int) ≤ (j : Int) := by omega
  clear hnl hA hA2 hcel hxx hj
  clear hk hiv
  rw [HE.out]
  clear h hI HE
  go_enter Tryz.func70, Tryz.ntmps70
  go_wp2_with fail
  go_returns
  rw [HX.out]
  exact ⟨_, 1, 1, rfl, Rd.lit w #[.string (bstr x)] 9 rfl, by omega, (Below.refl _ _).alloc (Nat.le_refl _) _, fun a h => by cases h; exact Nat.le_refl _⟩

set_option maxRecDepth 100000 in
set_option maxHeartbeats 1000000 in
theorem boundC_o (d : ExD) (l : List Ex) (b o : Nat) (i : Nat) (iv : Int) (hiv : iv = (i : Int)) (hi4 : i ≤ 9223372036854775806) (w : World) (h : d.At w b o) (hI : (Ex.mk d l).In w) (h4 : ¬ d.kind = 4) (h6 : ¬ d.kind = 6) (h7 : ¬ d.kind = 7) (h14 : ¬ d.kind = 14) : Calls Tryz.prog 70 #[.pointer (some ⟨b, o, none⟩), .int .i64 iv] w fun e w' => BC (d.boundC i) w e w' := by
  have HE := Lib.hid (show d.boundC i = [] by unfold ExD.boundC; simp [h4, h6, h7, h14])
  have HI := Lib.hid (And.intro hI h)
  have c0 := h.c0
  have c3 := h.c3
  have c4 := h.c4
  have c6 := h.c6
  have HIV := Lib.hid hiv
  have q4 : (d.kind == 4) = false := by simpa using h4
  have q6 : (d.kind == 6) = false := by simpa using h6
  have q7 : (d.kind == 7) = false := by simpa using h7
  have q14 : (d.kind == 14) = false := by simpa using h14
  clear h4 h6 h7 h14 hiv
  rw [HE.out]
  clear h hI HE
  go_enter Tryz.func70, Tryz.ntmps70
  go_wp2_with fail
  go_returns
  exact BC.nil

theorem boundC_any (d : ExD) (l : List Ex) (b o : Nat) (i : Nat) (hi4 : i ≤ 9223372036854775806) (w : World) (h : d.At w b o) (hI : (Ex.mk d l).In w) : Calls Tryz.prog 70 #[.pointer (some ⟨b, o, none⟩), .int .i64 (i : Int)] w fun e w' => BC (d.boundC i) w e w' := by
  by_cases h4 : d.kind = 4
  · exact boundC_4 d l b o i _ rfl hi4 w h hI h4
  by_cases h6 : d.kind = 6
  · by_cases h0 : i = 1
    · exact boundC_6 d l b o i _ rfl hi4 w h hI h6 h0
    · exact boundC_6n d l b o i _ rfl hi4 w h hI h6 h0
  by_cases h7 : d.kind = 7
  · by_cases h1 : i = 1
    · exact boundC_7 d l b o i _ rfl hi4 w h hI h7 h1
    · exact boundC_7n d l b o i _ rfl hi4 w h hI h7 h1
  by_cases h14 : d.kind = 14
  · by_cases h0 : d.nn < i
    · exact boundC_14t d l b o i _ rfl hi4 w h hI h14 h0
    · by_cases h1 : 0 < i
      · exact boundC_14y d l b o i _ rfl hi4 w h hI h14 h0 h1
      · exact boundC_14n d l b o i _ rfl hi4 w h hI h14 (by omega)
  · exact boundC_o d l b o i _ rfl hi4 w h hI h4 h6 h7 h14
theorem ExD.boundC_le (d : ExD) (i : Nat) : (d.boundC i).length ≤ 2 := by
  unfold ExD.boundC; split
  · simp
  split
  · simp
  split
  · simp
  split
  · simp; omega
  · simp
end Go.Proofs.YtaglmmcjhlehjaaGreatDoor

namespace Go.Proofs.YtaglmmcjhlehjaaGreatDoor
open Go.ChangeShapes Go.WideShapes Go.ChangeAt Go.RowKit Go.Sort
set_option linter.unusedVariables false
set_option linter.unusedSimpArgs false

abbrev Bd := Str × Str
def bd2 (p : Bd) : List Value := [.string (bstr p.1), .string (bstr p.2)]
def bds (l : List Bd) : List Value := l.flatMap bd2
theorem bds_length (l : List Bd) : (bds l).length = l.length * 2 := flat_len (f := bd2) (q := 2) (fun _ => rfl) l
theorem bds_snoc (l : List Bd) (p : Bd) : bds (l ++ [p]) = bds l ++ bd2 p := by simp [bds]
theorem bds_append (l m : List Bd) : bds (l ++ m) = bds l ++ bds m := by simp [bds]
/-- The last binding of a name. -/
def lookF (s : Str) (l : List Bd) : Option Str := (l.reverse.find? fun p => decide (p.1 = s)).map (·.2)
def nowF (s : Str) (l : List Bd) : Str := (lookF s l).getD s
theorem lookF_nil (s : Str) : lookF s [] = none := rfl
theorem lookF_snoc (s : Str) (l : List Bd) (p : Bd) : lookF s (l ++ [p]) = if p.1 = s then some p.2 else lookF s l := by
  unfold lookF
  rw [List.reverse_append, List.reverse_singleton, List.singleton_append, List.find?_cons]
  by_cases h : p.1 = s
  · simp [h]
  · simp [h]
theorem lookF_take {s : Str} {l : List Bd} {k : Nat} (hk : k < l.length) : lookF s (l.take (k + 1)) = if (l[k]).1 = s then some (l[k]).2 else lookF s (l.take k) := by
  rw [List.take_succ_eq_append_getElem hk, lookF_snoc]
theorem bd_cells {w : World} {A : Option Addr} {n : Nat} {l : List Bd} (h : Rd w 2 A n (bds l)) {k : Nat} (hk : k < l.length) : ∃ b o, A = some ⟨b, o, none⟩ ∧ ∀ j (hj : j < l.length), w.cell? ⟨b, o + j * 2, none⟩ = some (.string (bstr (l[j]).1)) ∧ w.cell? ⟨b, o + j * 2 + 1, none⟩ = some (.string (bstr (l[j]).2)) := by
  obtain ⟨b, o, rfl, hb, hh⟩ := h.base (by rw [bds_length]; omega)
  refine ⟨b, o, rfl, fun j hj => ⟨?_, ?_⟩⟩
  · exact hh (j * 2 + 0) _ (flat_at (f := bd2) (fun _ => rfl) l j 0 hj (by omega))
  · exact hh (j * 2 + 1) _ (flat_at (f := bd2) (fun _ => rfl) l j 1 hj (by omega))
theorem ne_bstr (s t : Str) (b : Bool) (h : decide (s = t) = b) : ((bstr s).toList == (bstr t).toList) = b := by rw [beq_bstr, ← h]; first | done | rfl | exact decide_eq_decide.2 Iff.rfl
theorem bd_len {w : World} {A : Option Addr} {n : Nat} {l : List Bd} (h : Rd w 2 A n (bds l)) : l.length = n := by have := h.1; rw [bds_length] at this; omega

set_option maxRecDepth 100000 in
set_option maxHeartbeats 1000000 in
theorem now_any (s : Str) (A : Option Addr) (l : List Bd) (n c : Nat) (w : World) (hr : Rd w 2 A n (bds l)) (hm : n ≤ 4000000) :
    Calls Tryz.prog 72 #[.string (bstr s), .slice A n c] w fun e w' => e = .returned (.string (bstr (nowF s l))) ∧ Below w.heap.size w w' := by
  have hlen := bd_len hr
  have HR := Lib.hid (And.intro hr hlen)
  obtain ⟨ans, hans⟩ : ∃ ans, nowF s l = ans := ⟨_, rfl⟩
  rw [hans]
  have HA := Lib.hid hans
  have f0 : wrap64 ((n : Int) - 1) = (n : Int) - 1 := by unfold wrap64; omega
  clear hr hlen hans
  go_enter Tryz.func72, Tryz.ntmps72
  go_wp2_with fail
  clear f0
  go_loopw [5] (fun i wr => ∃ k : Nat, i = .int .i64 ((k : Int) - 1) ∧ k ≤ n ∧ lookF s l = lookF s (l.take k) ∧ Below w.heap.size w wr) (fun i _ => (intOf i + 1).toNat)
  case atStart => exact ⟨n, rfl, Nat.le_refl _, by rw [List.take_of_length_le (by rw [HR.out.2]; exact Nat.le_refl _)], Below.refl _ _⟩
  case round =>
    obtain ⟨k, rfl, hk, hl, hb⟩ := hrel
    have HB := Lib.hid (And.intro hl hb)
    clear hl
    cases k with
    | zero =>
      have z1 : ¬ (0 : Int) ≤ ((0 : Nat) : Int) - 1 := by omega
      have HE := Lib.hid (show ans = s by
        have h5 := HB.out.1
        rw [List.take_zero, lookF_nil] at h5
        rw [← HA.out]; unfold nowF; rw [h5]; rfl)
      clear hb
      go_wp2_with fail
      go_returns
      exact ⟨by rw [HE.out]; rfl, HB.out.2⟩
    | succ k =>
      have hkl : k < l.length := by rw [HR.out.2]; omega
      obtain ⟨b, o, rfl, hcel⟩ := bd_cells (HR.out.1.below hb) hkl
      obtain ⟨h1, h2⟩ := hcel k hkl
      have e1 : (((k + 1 : Nat) : Int) - 1) = (k : Int) := by omega
      rw [e1]
      have z1 : (0 : Int) ≤ (k : Int) := by omega
      have z2 : (k : Int) < (n : Int) := by omega
      have z3 : wrap64 ((k : Int) - 1) = (k : Int) - 1 := by unfold wrap64; omega
      have ht := lookF_take (s := s) hkl
      by_cases he : (l[k]).1 = s
      · have q := (ne_bstr (l[k]).1 s true (decide_eq_true he))
        have HE := Lib.hid (show ans = (l[k]).2 by
          rw [← HA.out]; unfold nowF; rw [HB.out.1, ht, if_pos he]; rfl)
        obtain ⟨x, hx⟩ : ∃ x, (l[k]).1 = x := ⟨_, rfl⟩
        obtain ⟨y, hy⟩ : ∃ y, (l[k]).2 = y := ⟨_, rfl⟩
        rw [hx] at h1 q
        rw [hy] at h2 HE
        clear hx hy he ht hcel hkl hb e1
        go_wp2_with fail
        go_returns
        exact ⟨by rw [HE.out]; rfl, HB.out.2⟩
      · have q := (ne_bstr (l[k]).1 s false (decide_eq_false he))
        have HN := Lib.hid (show lookF s l = lookF s (l.take k) by rw [HB.out.1, ht, if_neg he])
        obtain ⟨x, hx⟩ : ∃ x, (l[k]).1 = x := ⟨_, rfl⟩
        rw [hx] at h1 q
        clear hx he ht hcel hkl hb h2 e1
        go_wp2_with fail
        go_roundw
        case rel => exact ⟨k, rfl, by omega, HN.out, HB.out.2⟩
        case measure => simp [intOf] <;> omega

set_option maxRecDepth 100000 in
set_option maxHeartbeats 1000000 in
theorem index_any (s : Str) (A : Option Addr) (l : List Str) (n c : Nat) (w : World) (hr : Rd w 1 A n (strs l)) (hm : n ≤ 4000000) :
    Calls Tryz.prog 98 #[.slice A n c, .string (bstr s)] w fun e w' => (∃ i : Int, e = .returned (.int .i64 i) ∧ decide (0 ≤ i) = decide (s ∈ l)) ∧ Below w.heap.size w w' := by
  have hlen := rd_len hr
  have HR := Lib.hid (And.intro hr hlen)
  clear hr hlen
  go_enter Tryz.func98, Tryz.ntmps98
  go_wp2_with fail
  go_loopw [8] (fun i wr => ∃ k : Nat, i = .int .i64 k ∧ k ≤ n ∧ s ∉ l.take k ∧ Below w.heap.size w wr) (fun i _ => n - (intOf i).toNat)
  case atStart => exact ⟨0, rfl, Nat.zero_le _, by simp, Below.refl _ _⟩
  case round =>
    obtain ⟨k, rfl, hk, hl, hb⟩ := hrel
    have HB := Lib.hid (And.intro hl hb)
    clear hl
    by_cases hlt : k < n
    · have hkl : k < l.length := by rw [HR.out.2]; omega
      obtain ⟨b, o, rfl, hcel⟩ := (HR.out.1.below hb).str hkl
      have h1 := hcel k hkl
      have z1 : (0 : Int) ≤ (k : Int) := by omega
      have z2 : (k : Int) < (n : Int) := by omega
      have hk4 : (k : Int) ≤ 9223372036854775806 := by omega
      by_cases he : s = l[k]
      · have q := (ne_bstr s l[k] true (decide_eq_true he))
        have HE := Lib.hid (show decide (s ∈ l) = true from decide_eq_true (he ▸ List.getElem_mem hkl))
        obtain ⟨x, hx⟩ : ∃ x, l[k] = x := ⟨_, rfl⟩
        rw [hx] at h1 q
        clear hx he hcel hkl hb
        go_wp2_with fail
        go_returns
        exact ⟨⟨k, rfl, by rw [HE.out]; exact decide_eq_true (by omega)⟩, HB.out.2⟩
      · have q := (ne_bstr s l[k] false (decide_eq_false he))
        have HN := Lib.hid (show s ∉ l.take (k + 1) by
          rw [List.take_succ_eq_append_getElem hkl, List.mem_append]
          rintro (h | h)
          · exact HB.out.1 h
          · exact he (by simpa using h))
        obtain ⟨x, hx⟩ : ∃ x, l[k] = x := ⟨_, rfl⟩
        rw [hx] at h1 q
        clear hx he hcel hkl hb
        go_wp2_with fail
        go_roundw
        case rel => exact ⟨k + 1, by go_num, hlt, HN.out, HB.out.2⟩
        case measure => simp [intOf] <;> omega
    · have z2 : ¬ (k : Int) < (n : Int) := by omega
      have HE := Lib.hid (show decide (s ∈ l) = false from decide_eq_false (by
        have h5 := HB.out.1
        rwa [List.take_of_length_le (by rw [HR.out.2]; omega)] at h5))
      clear hb
      go_wp2_with fail
      go_returns
      exact ⟨⟨-1, rfl, by first | (rw [HE.out]; rfl) | exact ⟨fun h => absurd h (by omega), fun h => absurd h (of_decide_eq_false HE.out)⟩⟩, HB.out.2⟩

set_option maxRecDepth 100000 in
set_option maxHeartbeats 1000000 in
theorem contains_any (s : Str) (A : Option Addr) (l : List Str) (n c : Nat) (w : World) (hr : Rd w 1 A n (strs l)) (hm : n ≤ 4000000) :
    Calls Tryz.prog 69 #[.slice A n c, .string (bstr s)] w fun e w' => e = .returned (.bool (decide (s ∈ l))) ∧ Below w.heap.size w w' := by
  have HI := Lib.hid (index_any s A l n c w hr hm)
  clear hr hm
  go_enter Tryz.func69, Tryz.ntmps69
  go_wp2_with fail
  refine HI.out.mono ?_
  rintro e w1 ⟨⟨i, rfl, hi⟩, hb⟩
  have HH := Lib.hid (And.intro hi hb)
  clear hi hb HI
  obtain ⟨r, hr⟩ : ∃ r, decide (0 ≤ i) = r := ⟨_, rfl⟩
  have HR := Lib.hid (hr.symm.trans HH.out.1)
  go_wp2_with fail
  go_returns
  exact ⟨by rw [← HR.out]; first | rfl | (rw [← hr]; rfl), HH.out.2⟩
end Go.Proofs.YtaglmmcjhlehjaaGreatDoor
