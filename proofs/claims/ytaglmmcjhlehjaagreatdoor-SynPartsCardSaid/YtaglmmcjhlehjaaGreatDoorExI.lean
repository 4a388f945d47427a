/-
  The names that an expression binds in a part, by the code.
-/
import Derived.Test.YtaglmmcjhlehjaaGreatDoorExB
namespace Go.Proofs.YtaglmmcjhlehjaaGreatDoor
open Go.ChangeShapes Go.WideShapes Go.ChangeAt Go.RowKit Go.Sort
set_option linter.unusedVariables false
set_option linter.unusedSimpArgs false

def BR (l : List Str) (w : World) (e : Ending) (w' : World) : Prop := ∃ A n c, e = .returned (.slice A n c) ∧ Rd w' 1 A n (strs l) ∧ n ≤ 4000000 ∧ Below w.heap.size w w'
theorem BR.nil {w : World} : BR [] w (.returned (.slice none 0 0)) w := ⟨none, 0, 0, rfl, Rd.nil _ _ _, by omega, Below.refl _ _⟩

set_option maxRecDepth 100000 in
set_option maxHeartbeats 1000000 in
theorem bound_4 (d : ExD) (l : List Ex) (b o : Nat) (i : Nat) (iv : Int) (hiv : iv = (i : Int)) (hi4 : i ≤ 9223372036854775807) (w : World) (h : d.At w b o) (hI : (Ex.mk d l).In w) (hk : d.kind = 4) (h0 : i = 0) : Calls Tryz.prog 56 #[.pointer (some ⟨b, o, none⟩), .int .i64 iv] w fun e w' => BR (d.boundF i) w e w' := by
  have HE := Lib.hid (show d.boundF i = [d.s] by unfold ExD.boundF; simp [hk, h0])
  have HI := Lib.hid (And.intro hI h)
  have c0 := h.c0
  have c3 := h.c3
  have c4 := h.c4
  have c5 := h.c5
  have c6 := h.c6
  have HIV := Lib.hid hiv
  have q4 : (d.kind == 4) = true := by rw [hk]; rfl
  have q6 : (d.kind == 6) = false := by rw [hk]; rfl
  have q7 : (d.kind == 7) = false := by rw [hk]; rfl
  have q14 : (d.kind == 14) = false := by rw [hk]; rfl
  have i0 : (iv == 0) = true := by rw [beq_iff_eq]; omega
  clear hk hiv
  rw [HE.out]
  clear h hI HE
  go_enter Tryz.func56, Tryz.ntmps56
  go_wp2_with fail
  go_returns
  exact ⟨_, 1, 1, rfl, Rd.lit w #[.string (bstr d.s)] 9 rfl, by omega, (Below.refl _ _).alloc (Nat.le_refl _) _⟩

set_option maxRecDepth 100000 in
set_option maxHeartbeats 1000000 in
theorem bound_4n (d : ExD) (l : List Ex) (b o : Nat) (i : Nat) (iv : Int) (hiv : iv = (i : Int)) (hi4 : i ≤ 9223372036854775807) (w : World) (h : d.At w b o) (hI : (Ex.mk d l).In w) (hk : d.kind = 4) (h0 : ¬ i = 0) : Calls Tryz.prog 56 #[.pointer (some ⟨b, o, none⟩), .int .i64 iv] w fun e w' => BR (d.boundF i) w e w' := by
  have HE := Lib.hid (show d.boundF i = [] by unfold ExD.boundF; simp [hk, h0])
  have HI := Lib.hid (And.intro hI h)
  have c0 := h.c0
  have c3 := h.c3
  have c4 := h.c4
  have c5 := h.c5
  have c6 := h.c6
  have HIV := Lib.hid hiv
  have q4 : (d.kind == 4) = true := by rw [hk]; rfl
  have q6 : (d.kind == 6) = false := by rw [hk]; rfl
  have q7 : (d.kind == 7) = false := by rw [hk]; rfl
  have q14 : (d.kind == 14) = false := by rw [hk]; rfl
  have i0 : (iv == 0) = false := by rw [beq_eq_false_iff_ne]; omega
  clear hk hiv
  rw [HE.out]
  clear h hI HE
  go_enter Tryz.func56, Tryz.ntmps56
  go_wp2_with fail
  go_returns
  exact BR.nil

set_option maxRecDepth 100000 in
set_option maxHeartbeats 1000000 in
theorem bound_6 (d : ExD) (l : List Ex) (b o : Nat) (i : Nat) (iv : Int) (hiv : iv = (i : Int)) (hi4 : i ≤ 9223372036854775807) (w : World) (h : d.At w b o) (hI : (Ex.mk d l).In w) (hk : d.kind = 6) (h0 : i = 1) : Calls Tryz.prog 56 #[.pointer (some ⟨b, o, none⟩), .int .i64 iv] w fun e w' => BR (d.boundF i) w e w' := by
  have HE := Lib.hid (show d.boundF i = [d.s] by unfold ExD.boundF; simp [hk, h0])
  have HI := Lib.hid (And.intro hI h)
  have c0 := h.c0
  have c3 := h.c3
  have c4 := h.c4
  have c5 := h.c5
  have c6 := h.c6
  have HIV := Lib.hid hiv
  have q4 : (d.kind == 4) = false := by rw [hk]; rfl
  have q6 : (d.kind == 6) = true := by rw [hk]; rfl
  have q7 : (d.kind == 7) = false := by rw [hk]; rfl
  have q14 : (d.kind == 14) = false := by rw [hk]; rfl
  have i1 : (iv == 1) = true := by rw [beq_iff_eq]; omega
  clear hk hiv
  rw [HE.out]
  clear h hI HE
  go_enter Tryz.func56, Tryz.ntmps56
  go_wp2_with fail
  go_returns
  exact ⟨_, 1, 1, rfl, Rd.lit w #[.string (bstr d.s)] 9 rfl, by omega, (Below.refl _ _).alloc (Nat.le_refl _) _⟩

set_option maxRecDepth 100000 in
set_option maxHeartbeats 1000000 in
theorem bound_6n (d : ExD) (l : List Ex) (b o : Nat) (i : Nat) (iv : Int) (hiv : iv = (i : Int)) (hi4 : i ≤ 9223372036854775807) (w : World) (h : d.At w b o) (hI : (Ex.mk d l).In w) (hk : d.kind = 6) (h0 : ¬ i = 1) : Calls Tryz.prog 56 #[.pointer (some ⟨b, o, none⟩), .int .i64 iv] w fun e w' => BR (d.boundF i) w e w' := by
  have HE := Lib.hid (show d.boundF i = [] by unfold ExD.boundF; simp [hk, h0])
  have HI := Lib.hid (And.intro hI h)
  have c0 := h.c0
  have c3 := h.c3
  have c4 := h.c4
  have c5 := h.c5
  have c6 := h.c6
  have HIV := Lib.hid hiv
  have q4 : (d.kind == 4) = false := by rw [hk]; rfl
  have q6 : (d.kind == 6) = true := by rw [hk]; rfl
  have q7 : (d.kind == 7) = false := by rw [hk]; rfl
  have q14 : (d.kind == 14) = false := by rw [hk]; rfl
  have i1 : (iv == 1) = false := by rw [beq_eq_false_iff_ne]; omega
  clear hk hiv
  rw [HE.out]
  clear h hI HE
  go_enter Tryz.func56, Tryz.ntmps56
  go_wp2_with fail
  go_returns
  exact BR.nil

set_option maxRecDepth 100000 in
set_option maxHeartbeats 1000000 in
theorem bound_71 (d : ExD) (l : List Ex) (b o : Nat) (i : Nat) (iv : Int) (hiv : iv = (i : Int)) (hi4 : i ≤ 9223372036854775807) (w : World) (h : d.At w b o) (hI : (Ex.mk d l).In w) (hk : d.kind = 7) (h0 : i = 1) : Calls Tryz.prog 56 #[.pointer (some ⟨b, o, none⟩), .int .i64 iv] w fun e w' => BR (d.boundF i) w e w' := by
  have HE := Lib.hid (show d.boundF i = [d.s] by unfold ExD.boundF; simp [hk, h0])
  have HI := Lib.hid (And.intro hI h)
  have c0 := h.c0
  have c3 := h.c3
  have c4 := h.c4
  have c5 := h.c5
  have c6 := h.c6
  have HIV := Lib.hid hiv
  have q4 : (d.kind == 4) = false := by rw [hk]; rfl
  have q6 : (d.kind == 6) = false := by rw [hk]; rfl
  have q7 : (d.kind == 7) = true := by rw [hk]; rfl
  have q14 : (d.kind == 14) = false := by rw [hk]; rfl
  have i1 : (iv == 1) = true := by rw [beq_iff_eq]; omega
  clear hk hiv
  rw [HE.out]
  clear h hI HE
  go_enter Tryz.func56, Tryz.ntmps56
  go_wp2_with fail
  go_returns
  exact ⟨_, 1, 1, rfl, Rd.lit w #[.string (bstr d.s)] 9 rfl, by omega, (Below.refl _ _).alloc (Nat.le_refl _) _⟩

set_option maxRecDepth 100000 in
set_option maxHeartbeats 1000000 in
theorem bound_70 (d : ExD) (l : List Ex) (b o : Nat) (i : Nat) (iv : Int) (hiv : iv = (i : Int)) (hi4 : i ≤ 9223372036854775807) (w : World) (h : d.At w b o) (hI : (Ex.mk d l).In w) (hk : d.kind = 7) (h0 : i = 0) : Calls Tryz.prog 56 #[.pointer (some ⟨b, o, none⟩), .int .i64 iv] w fun e w' => BR (d.boundF i) w e w' := by
  have HE := Lib.hid (show d.boundF i = [d.s, d.t] by unfold ExD.boundF; simp [hk, h0])
  have HI := Lib.hid (And.intro hI h)
  have c0 := h.c0
  have c3 := h.c3
  have c4 := h.c4
  have c5 := h.c5
  have c6 := h.c6
  have HIV := Lib.hid hiv
  have q4 : (d.kind == 4) = false := by rw [hk]; rfl
  have q6 : (d.kind == 6) = false := by rw [hk]; rfl
  have q7 : (d.kind == 7) = true := by rw [hk]; rfl
  have q14 : (d.kind == 14) = false := by rw [hk]; rfl
  have i1 : (iv == 1) = false := by rw [beq_eq_false_iff_ne]; omega
  have i0 : (iv == 0) = true := by rw [beq_iff_eq]; omega
  clear hk hiv
  rw [HE.out]
  clear h hI HE
  go_enter Tryz.func56, Tryz.ntmps56
  go_wp2_with fail
  go_region
  all_goals
    go_wp2_with fail
    go_returns
    exact ⟨_, 2, 2, rfl, (Rd.lit w #[.string (bstr d.s), .string (bstr d.t)] 9 rfl).drew, by omega, ((Below.refl w.heap.size w).alloc (Nat.le_refl _) _).drew⟩

set_option maxRecDepth 100000 in
set_option maxHeartbeats 1000000 in
theorem bound_7n (d : ExD) (l : List Ex) (b o : Nat) (i : Nat) (iv : Int) (hiv : iv = (i : Int)) (hi4 : i ≤ 9223372036854775807) (w : World) (h : d.At w b o) (hI : (Ex.mk d l).In w) (hk : d.kind = 7) (h0 : ¬ i = 0) (h1 : ¬ i = 1) : Calls Tryz.prog 56 #[.pointer (some ⟨b, o, none⟩), .int .i64 iv] w fun e w' => BR (d.boundF i) w e w' := by
  have HE := Lib.hid (show d.boundF i = [] by unfold ExD.boundF; simp [hk, h0, h1])
  have HI := Lib.hid (And.intro hI h)
  have c0 := h.c0
  have c3 := h.c3
  have c4 := h.c4
  have c5 := h.c5
  have c6 := h.c6
  have HIV := Lib.hid hiv
  have q4 : (d.kind == 4) = false := by rw [hk]; rfl
  have q6 : (d.kind == 6) = false := by rw [hk]; rfl
  have q7 : (d.kind == 7) = true := by rw [hk]; rfl
  have q14 : (d.kind == 14) = false := by rw [hk]; rfl
  have i1 : (iv == 1) = false := by rw [beq_eq_false_iff_ne]; omega
  have i0 : (iv == 0) = false := by rw [beq_eq_false_iff_ne]; omega
  clear hk hiv
  rw [HE.out]
  clear h hI HE
  go_enter Tryz.func56, Tryz.ntmps56
  go_wp2_with fail
  go_returns
  exact BR.nil

set_option maxRecDepth 100000 in
set_option maxHeartbeats 1000000 in
theorem bound_14t (d : ExD) (l : List Ex) (b o : Nat) (i : Nat) (iv : Int) (hiv : iv = (i : Int)) (hi4 : i ≤ 9223372036854775807) (w : World) (h : d.At w b o) (hI : (Ex.mk d l).In w) (hk : d.kind = 14) (h0 : d.ln < i) : Calls Tryz.prog 56 #[.pointer (some ⟨b, o, none⟩), .int .i64 iv] w fun e w' => BR (d.boundF i) w e w' := by
  have HE := Lib.hid (show d.boundF i = [d.t] by unfold ExD.boundF; simp [hk, h0])
  have HI := Lib.hid (And.intro hI h)
  have c0 := h.c0
  have c3 := h.c3
  have c4 := h.c4
  have c5 := h.c5
  have c6 := h.c6
  have HIV := Lib.hid hiv
  have q4 : (d.kind == 4) = false := by rw [hk]; rfl
  have q6 : (d.kind == 6) = false := by rw [hk]; rfl
  have q7 : (d.kind == 7) = false := by rw [hk]; rfl
  have q14 : (d.kind == 14) = true := by rw [hk]; rfl
  have i1 : (d.ln : Int) < iv := by omega
  clear hk hiv
  rw [HE.out]
  clear h hI HE
  go_enter Tryz.func56, Tryz.ntmps56
  go_wp2_with fail
  go_returns
  exact ⟨_, 1, 1, rfl, Rd.lit w #[.string (bstr d.t)] 9 rfl, by omega, (Below.refl _ _).alloc (Nat.le_refl _) _⟩

set_option maxRecDepth 100000 in
set_option maxHeartbeats 1000000 in
theorem bound_14n (d : ExD) (l : List Ex) (b o : Nat) (i : Nat) (iv : Int) (hiv : iv = (i : Int)) (hi4 : i ≤ 9223372036854775807) (w : World) (h : d.At w b o) (hI : (Ex.mk d l).In w) (hk : d.kind = 14) (h0 : ¬ d.ln < i) (h1 : ¬ (0 < i ∧ i ≤ d.nn)) : Calls Tryz.prog 56 #[.pointer (some ⟨b, o, none⟩), .int .i64 iv] w fun e w' => BR (d.boundF i) w e w' := by
  have HE := Lib.hid (show d.boundF i = [] by unfold ExD.boundF; rw [if_neg (by omega), if_neg (by omega), if_neg (by omega), if_neg (by intro h; exact h1 h.2)])
  have HI := Lib.hid (And.intro hI h)
  have c0 := h.c0
  have c3 := h.c3
  have c4 := h.c4
  have c5 := h.c5
  have c6 := h.c6
  have HIV := Lib.hid hiv
  have q4 : (d.kind == 4) = false := by rw [hk]; rfl
  have q6 : (d.kind == 6) = false := by rw [hk]; rfl
  have q7 : (d.kind == 7) = false := by rw [hk]; rfl
  have q14 : (d.kind == 14) = true := by rw [hk]; rfl
  have i1 : ¬ (d.ln : Int) < iv := by omega
  have i2 : ¬ (0 < iv ∧ iv ≤ (d.nn : Int)) := by omega
  clear hk hiv
  rw [HE.out]
  clear h hI HE
  go_enter Tryz.func56, Tryz.ntmps56
  go_wp2_with fail
  all_goals
    go_returns
    exact BR.nil

set_option maxRecDepth 100000 in
set_option maxHeartbeats 1000000 in
theorem bound_14y (d : ExD) (l : List Ex) (b o : Nat) (i : Nat) (iv : Int) (hiv : iv = (i : Int)) (hi4 : i ≤ 9223372036854775807) (w : World) (h : d.At w b o) (hI : (Ex.mk d l).In w) (hk : d.kind = 14) (h0 : ¬ d.ln < i) (h1 : 0 < i) (h2 : i ≤ d.nn) : Calls Tryz.prog 56 #[.pointer (some ⟨b, o, none⟩), .int .i64 iv] w fun e w' => BR (d.boundF i) w e w' := by
  have HE := Lib.hid (show d.boundF i = (d.names.drop (i - 1)).take 1 by unfold ExD.boundF; rw [if_neg (by omega), if_neg (by omega), if_neg (by omega), if_pos ⟨hk, h1, h2⟩])
  have HI := Lib.hid (And.intro hI h)
  have c0 := h.c0
  have c3 := h.c3
  have c4 := h.c4
  have c5 := h.c5
  have c6 := h.c6
  have HIV := Lib.hid hiv
  have q4 : (d.kind == 4) = false := by rw [hk]; rfl
  have q6 : (d.kind == 6) = false := by rw [hk]; rfl
  have q7 : (d.kind == 7) = false := by rw [hk]; rfl
  have q14 : (d.kind == 14) = true := by rw [hk]; rfl
  have i1 : ¬ (d.ln : Int) < iv := by omega
  have i2 : 0 < iv := by omega
  have i3 : iv ≤ (d.nn : Int) := by omega
  have hnc : d.nn ≤ d.nc := hI.cap.2.1.1
  obtain ⟨j, rfl⟩ : ∃ j, i = j + 1 := ⟨i - 1, by omega⟩
  have f0 : wrap64 (iv - 1) = (j : Int) := by rw [hiv]; unfold wrap64; omega
  have f1 : 0 ≤ iv ∧ iv ≤ (d.nc : Int) := by omega
  have f2 : 0 ≤ (j : Int) ∧ (j : Int) ≤ max iv 0 := by omega
  have f3 : iv.toNat = j + 1 := by omega
  have f4 : ¬ d.nc = j := by omega
  clear hk
  rw [HE.out]
  clear h hI HE
  go_enter Tryz.func56, Tryz.ntmps56
  go_wp2_with fail
  go_returns
  have hr := HI.out.1.nam.cut (lo := j) (hi := j + 1) (k := j) (by omega) (by have := HIV.out; simp only [Ex.d]; omega) (by omega)
  simp only [Ex.d, Nat.mul_one] at hr
  refine ⟨_, _, _, rfl, ?_, by omega, Below.refl _ _⟩
  rw [show j + 1 - j = 1 from by omega] at hr
  simpa [strs, List.map_take, List.map_drop] using hr

set_option maxRecDepth 100000 in
set_option maxHeartbeats 1000000 in
theorem bound_o (d : ExD) (l : List Ex) (b o : Nat) (i : Nat) (iv : Int) (hiv : iv = (i : Int)) (hi4 : i ≤ 9223372036854775807) (w : World) (h : d.At w b o) (hI : (Ex.mk d l).In w) (h4 : ¬ d.kind = 4) (h6 : ¬ d.kind = 6) (h7 : ¬ d.kind = 7) (h14 : ¬ d.kind = 14) : Calls Tryz.prog 56 #[.pointer (some ⟨b, o, none⟩), .int .i64 iv] w fun e w' => BR (d.boundF i) w e w' := by
  have HE := Lib.hid (show d.boundF i = [] by unfold ExD.boundF; simp [h4, h6, h7, h14])
  have HI := Lib.hid (And.intro hI h)
  have c0 := h.c0
  have c3 := h.c3
  have c4 := h.c4
  have c5 := h.c5
  have c6 := h.c6
  have HIV := Lib.hid hiv
  have q4 : (d.kind == 4) = false := by simpa using h4
  have q6 : (d.kind == 6) = false := by simpa using h6
  have q7 : (d.kind == 7) = false := by simpa using h7
  have q14 : (d.kind == 14) = false := by simpa using h14
  clear h4 h6 h7 h14 hiv
  rw [HE.out]
  clear h hI HE
  go_enter Tryz.func56, Tryz.ntmps56
  go_wp2_with fail
  go_returns
  exact BR.nil

theorem bound_any (d : ExD) (l : List Ex) (b o : Nat) (i : Nat) (hi4 : i ≤ 9223372036854775807) (w : World) (h : d.At w b o) (hI : (Ex.mk d l).In w) : Calls Tryz.prog 56 #[.pointer (some ⟨b, o, none⟩), .int .i64 (i : Int)] w fun e w' => BR (d.boundF i) w e w' := by
  by_cases h4 : d.kind = 4
  · by_cases h0 : i = 0
    · exact bound_4 d l b o i _ rfl hi4 w h hI h4 h0
    · exact bound_4n d l b o i _ rfl hi4 w h hI h4 h0
  by_cases h6 : d.kind = 6
  · by_cases h0 : i = 1
    · exact bound_6 d l b o i _ rfl hi4 w h hI h6 h0
    · exact bound_6n d l b o i _ rfl hi4 w h hI h6 h0
  by_cases h7 : d.kind = 7
  · by_cases h1 : i = 1
    · exact bound_71 d l b o i _ rfl hi4 w h hI h7 h1
    · by_cases h0 : i = 0
      · exact bound_70 d l b o i _ rfl hi4 w h hI h7 h0
      · exact bound_7n d l b o i _ rfl hi4 w h hI h7 h0 h1
  by_cases h14 : d.kind = 14
  · by_cases h0 : d.ln < i
    · exact bound_14t d l b o i _ rfl hi4 w h hI h14 h0
    · by_cases h1 : 0 < i ∧ i ≤ d.nn
      · exact bound_14y d l b o i _ rfl hi4 w h hI h14 h0 h1.1 h1.2
      · exact bound_14n d l b o i _ rfl hi4 w h hI h14 h0 h1
  · exact bound_o d l b o i _ rfl hi4 w h hI h4 h6 h7 h14
end Go.Proofs.YtaglmmcjhlehjaaGreatDoor
