/-
  The names that a core expression binds in a part, by the code.
-/
import Derived.Test.YtpnihimoekkepaaCoM
namespace Go.Proofs.Ytpnihimoekkepaa
open Go.ChangeShapes Go.WideShapes Go.ChangeAt Go.RowKit
set_option linter.unusedVariables false
set_option linter.unusedSimpArgs false

def BR (l : List Str) (w : World) (e : Ending) (w' : World) : Prop := ∃ A n c, e = .returned (.slice A n c) ∧ Rd w' 1 A n (strs l) ∧ n ≤ 4000000 ∧ Below w.heap.size w w'
theorem BR.nil {w : World} : BR [] w (.returned (.slice none 0 0)) w := ⟨none, 0, 0, rfl, Rd.nil _ _ _, by omega, Below.refl _ _⟩

set_option maxRecDepth 100000 in
set_option maxHeartbeats 1000000 in
theorem bound_4 (d : ExD) (l : List Ex) (b o : Nat) (i : Nat) (iv : Int) (hiv : iv = (i : Int)) (hi4 : i ≤ 4000000) (w : World) (h : d.At w b o) (hI : (Ex.mk d l).In w) (hk : d.kind = 4) (h0 : i = 0) : Calls Try.prog 40 #[.pointer (some ⟨b, o, none⟩), .int .i64 iv] w fun e w' => BR (d.boundF i) w e w' := by
  have HE := Lib.hid (show d.boundF i = [d.s] by unfold ExD.boundF; simp [hk, h0])
  have HI := Lib.hid (And.intro hI h)
  have c0 := h.c0
  have c2 := h.c2
  have c3 := h.c3
  have c4 := h.c4
  have HNN := Lib.hid hI.cap.1
  have hn4 : (d.nn : Int) ≤ 4000000 := by have : d.nn ≤ 4000000 := hI.cap.1.2.2; omega
  have HIV := Lib.hid hiv
  have q4 : (d.kind == 4) = true := by rw [hk]; rfl
  have q6 : (d.kind == 6) = false := by rw [hk]; rfl
  have q7 : (d.kind == 7) = false := by rw [hk]; rfl
  have q14 : (d.kind == 14) = false := by rw [hk]; rfl
  have i0 : (iv == 0) = true := by rw [beq_iff_eq]; omega
  clear hk hiv
  rw [HE.out]
  clear h hI HE
  go_enter Try.func40, Try.ntmps40
  go_wp2_with fail
  go_returns
  exact ⟨_, 1, 1, rfl, Rd.lit w #[.string (bstr d.s)] 9 rfl, by omega, (Below.refl _ _).alloc (Nat.le_refl _) _⟩

set_option maxRecDepth 100000 in
set_option maxHeartbeats 1000000 in
theorem bound_4n (d : ExD) (l : List Ex) (b o : Nat) (i : Nat) (iv : Int) (hiv : iv = (i : Int)) (hi4 : i ≤ 4000000) (w : World) (h : d.At w b o) (hI : (Ex.mk d l).In w) (hk : d.kind = 4) (h0 : ¬ i = 0) : Calls Try.prog 40 #[.pointer (some ⟨b, o, none⟩), .int .i64 iv] w fun e w' => BR (d.boundF i) w e w' := by
  have HE := Lib.hid (show d.boundF i = [] by unfold ExD.boundF; simp [hk, h0])
  have HI := Lib.hid (And.intro hI h)
  have c0 := h.c0
  have c2 := h.c2
  have c3 := h.c3
  have c4 := h.c4
  have HNN := Lib.hid hI.cap.1
  have hn4 : (d.nn : Int) ≤ 4000000 := by have : d.nn ≤ 4000000 := hI.cap.1.2.2; omega
  have HIV := Lib.hid hiv
  have q4 : (d.kind == 4) = true := by rw [hk]; rfl
  have q6 : (d.kind == 6) = false := by rw [hk]; rfl
  have q7 : (d.kind == 7) = false := by rw [hk]; rfl
  have q14 : (d.kind == 14) = false := by rw [hk]; rfl
  have i0 : (iv == 0) = false := by rw [beq_eq_false_iff_ne]; omega
  clear hk hiv
  rw [HE.out]
  clear h hI HE
  go_enter Try.func40, Try.ntmps40
  go_wp2_with fail
  go_returns
  exact BR.nil

set_option maxRecDepth 100000 in
set_option maxHeartbeats 1000000 in
theorem bound_6 (d : ExD) (l : List Ex) (b o : Nat) (i : Nat) (iv : Int) (hiv : iv = (i : Int)) (hi4 : i ≤ 4000000) (w : World) (h : d.At w b o) (hI : (Ex.mk d l).In w) (hk : d.kind = 6) (h0 : i = 1) : Calls Try.prog 40 #[.pointer (some ⟨b, o, none⟩), .int .i64 iv] w fun e w' => BR (d.boundF i) w e w' := by
  have HE := Lib.hid (show d.boundF i = [d.s] by unfold ExD.boundF; simp [hk, h0])
  have HI := Lib.hid (And.intro hI h)
  have c0 := h.c0
  have c2 := h.c2
  have c3 := h.c3
  have c4 := h.c4
  have HNN := Lib.hid hI.cap.1
  have hn4 : (d.nn : Int) ≤ 4000000 := by have : d.nn ≤ 4000000 := hI.cap.1.2.2; omega
  have HIV := Lib.hid hiv
  have q4 : (d.kind == 4) = false := by rw [hk]; rfl
  have q6 : (d.kind == 6) = true := by rw [hk]; rfl
  have q7 : (d.kind == 7) = false := by rw [hk]; rfl
  have q14 : (d.kind == 14) = false := by rw [hk]; rfl
  have i0 : (iv == 1) = true := by rw [beq_iff_eq]; omega
  clear hk hiv
  rw [HE.out]
  clear h hI HE
  go_enter Try.func40, Try.ntmps40
  go_wp2_with fail
  go_returns
  exact ⟨_, 1, 1, rfl, Rd.lit w #[.string (bstr d.s)] 9 rfl, by omega, (Below.refl _ _).alloc (Nat.le_refl _) _⟩

set_option maxRecDepth 100000 in
set_option maxHeartbeats 1000000 in
theorem bound_6n (d : ExD) (l : List Ex) (b o : Nat) (i : Nat) (iv : Int) (hiv : iv = (i : Int)) (hi4 : i ≤ 4000000) (w : World) (h : d.At w b o) (hI : (Ex.mk d l).In w) (hk : d.kind = 6) (h0 : ¬ i = 1) : Calls Try.prog 40 #[.pointer (some ⟨b, o, none⟩), .int .i64 iv] w fun e w' => BR (d.boundF i) w e w' := by
  have HE := Lib.hid (show d.boundF i = [] by unfold ExD.boundF; simp [hk, h0])
  have HI := Lib.hid (And.intro hI h)
  have c0 := h.c0
  have c2 := h.c2
  have c3 := h.c3
  have c4 := h.c4
  have HNN := Lib.hid hI.cap.1
  have hn4 : (d.nn : Int) ≤ 4000000 := by have : d.nn ≤ 4000000 := hI.cap.1.2.2; omega
  have HIV := Lib.hid hiv
  have q4 : (d.kind == 4) = false := by rw [hk]; rfl
  have q6 : (d.kind == 6) = true := by rw [hk]; rfl
  have q7 : (d.kind == 7) = false := by rw [hk]; rfl
  have q14 : (d.kind == 14) = false := by rw [hk]; rfl
  have i0 : (iv == 1) = false := by rw [beq_eq_false_iff_ne]; omega
  clear hk hiv
  rw [HE.out]
  clear h hI HE
  go_enter Try.func40, Try.ntmps40
  go_wp2_with fail
  go_returns
  exact BR.nil

set_option maxRecDepth 100000 in
set_option maxHeartbeats 1000000 in
theorem bound_71 (d : ExD) (l : List Ex) (b o : Nat) (i : Nat) (iv : Int) (hiv : iv = (i : Int)) (hi4 : i ≤ 4000000) (w : World) (h : d.At w b o) (hI : (Ex.mk d l).In w) (hk : d.kind = 7) (h0 : i = 1) : Calls Try.prog 40 #[.pointer (some ⟨b, o, none⟩), .int .i64 iv] w fun e w' => BR (d.boundF i) w e w' := by
  have HE := Lib.hid (show d.boundF i = [d.s] by unfold ExD.boundF; simp [hk, h0])
  have HI := Lib.hid (And.intro hI h)
  have c0 := h.c0
  have c2 := h.c2
  have c3 := h.c3
  have c4 := h.c4
  have HNN := Lib.hid hI.cap.1
  have hn4 : (d.nn : Int) ≤ 4000000 := by have : d.nn ≤ 4000000 := hI.cap.1.2.2; omega
  have HIV := Lib.hid hiv
  have q4 : (d.kind == 4) = false := by rw [hk]; rfl
  have q6 : (d.kind == 6) = false := by rw [hk]; rfl
  have q7 : (d.kind == 7) = true := by rw [hk]; rfl
  have q14 : (d.kind == 14) = false := by rw [hk]; rfl
  have i0 : (iv == 1) = true := by rw [beq_iff_eq]; omega
  clear hk hiv
  rw [HE.out]
  clear h hI HE
  go_enter Try.func40, Try.ntmps40
  go_wp2_with fail
  go_returns
  exact ⟨_, 1, 1, rfl, Rd.lit w #[.string (bstr d.s)] 9 rfl, by omega, (Below.refl _ _).alloc (Nat.le_refl _) _⟩

set_option maxRecDepth 100000 in
set_option maxHeartbeats 1000000 in
theorem bound_70 (d : ExD) (l : List Ex) (b o : Nat) (i : Nat) (iv : Int) (hiv : iv = (i : Int)) (hi4 : i ≤ 4000000) (w : World) (h : d.At w b o) (hI : (Ex.mk d l).In w) (hk : d.kind = 7) (h0 : i = 0) : Calls Try.prog 40 #[.pointer (some ⟨b, o, none⟩), .int .i64 iv] w fun e w' => BR (d.boundF i) w e w' := by
  have HE := Lib.hid (show d.boundF i = [d.s, d.t] by unfold ExD.boundF; simp [hk, h0])
  have HI := Lib.hid (And.intro hI h)
  have c0 := h.c0
  have c2 := h.c2
  have c3 := h.c3
  have c4 := h.c4
  have HNN := Lib.hid hI.cap.1
  have hn4 : (d.nn : Int) ≤ 4000000 := by have : d.nn ≤ 4000000 := hI.cap.1.2.2; omega
  have HIV := Lib.hid hiv
  have q4 : (d.kind == 4) = false := by rw [hk]; rfl
  have q6 : (d.kind == 6) = false := by rw [hk]; rfl
  have q7 : (d.kind == 7) = true := by rw [hk]; rfl
  have q14 : (d.kind == 14) = false := by rw [hk]; rfl
  have i0 : (iv == 1) = false := by rw [beq_eq_false_iff_ne]; omega
  have i1 : (iv == 0) = true := by rw [beq_iff_eq]; omega
  clear hk hiv
  rw [HE.out]
  clear h hI HE
  go_enter Try.func40, Try.ntmps40
  go_wp2_with fail
  go_region
  all_goals
    go_wp2_with fail
    go_returns
    exact ⟨_, 2, 2, rfl, (Rd.lit w #[.string (bstr d.s), .string (bstr d.t)] 9 rfl).drew, by omega, ((Below.refl w.heap.size w).alloc (Nat.le_refl _) _).drew⟩

set_option maxRecDepth 100000 in
set_option maxHeartbeats 1000000 in
theorem bound_7n (d : ExD) (l : List Ex) (b o : Nat) (i : Nat) (iv : Int) (hiv : iv = (i : Int)) (hi4 : i ≤ 4000000) (w : World) (h : d.At w b o) (hI : (Ex.mk d l).In w) (hk : d.kind = 7) (h0 : ¬ i = 0) (h1 : ¬ i = 1) : Calls Try.prog 40 #[.pointer (some ⟨b, o, none⟩), .int .i64 iv] w fun e w' => BR (d.boundF i) w e w' := by
  have HE := Lib.hid (show d.boundF i = [] by unfold ExD.boundF; simp [hk, h0, h1])
  have HI := Lib.hid (And.intro hI h)
  have c0 := h.c0
  have c2 := h.c2
  have c3 := h.c3
  have c4 := h.c4
  have HNN := Lib.hid hI.cap.1
  have hn4 : (d.nn : Int) ≤ 4000000 := by have : d.nn ≤ 4000000 := hI.cap.1.2.2; omega
  have HIV := Lib.hid hiv
  have q4 : (d.kind == 4) = false := by rw [hk]; rfl
  have q6 : (d.kind == 6) = false := by rw [hk]; rfl
  have q7 : (d.kind == 7) = true := by rw [hk]; rfl
  have q14 : (d.kind == 14) = false := by rw [hk]; rfl
  have i0 : (iv == 1) = false := by rw [beq_eq_false_iff_ne]; omega
  have i1 : (iv == 0) = false := by rw [beq_eq_false_iff_ne]; omega
  clear hk hiv
  rw [HE.out]
  clear h hI HE
  go_enter Try.func40, Try.ntmps40
  go_wp2_with fail
  go_returns
  exact BR.nil

set_option maxRecDepth 100000 in
set_option maxHeartbeats 1000000 in
theorem bound_14t (d : ExD) (l : List Ex) (b o : Nat) (i : Nat) (iv : Int) (hiv : iv = (i : Int)) (hi4 : i ≤ 4000000) (w : World) (h : d.At w b o) (hI : (Ex.mk d l).In w) (hk : d.kind = 14) (h0 : 2 * d.nn < i) : Calls Try.prog 40 #[.pointer (some ⟨b, o, none⟩), .int .i64 iv] w fun e w' => BR (d.boundF i) w e w' := by
  have HE := Lib.hid (show d.boundF i = [d.t] by unfold ExD.boundF; simp [hk, h0])
  have HI := Lib.hid (And.intro hI h)
  have c0 := h.c0
  have c2 := h.c2
  have c3 := h.c3
  have c4 := h.c4
  have HNN := Lib.hid hI.cap.1
  have hn4 : (d.nn : Int) ≤ 4000000 := by have : d.nn ≤ 4000000 := hI.cap.1.2.2; omega
  have HIV := Lib.hid hiv
  have q4 : (d.kind == 4) = false := by rw [hk]; rfl
  have q6 : (d.kind == 6) = false := by rw [hk]; rfl
  have q7 : (d.kind == 7) = false := by rw [hk]; rfl
  have q14 : (d.kind == 14) = true := by rw [hk]; rfl
  have i1 : 2 * (d.nn : Int) < iv := by omega
  have i4 : iv ≤ 4000000 := by omega
  clear hk hiv
  rw [HE.out]
  clear h hI HE
  go_enter Try.func40, Try.ntmps40
  go_wp2_with fail
  go_returns
  exact ⟨_, 1, 1, rfl, Rd.lit w #[.string (bstr d.t)] 9 rfl, by omega, (Below.refl _ _).alloc (Nat.le_refl _) _⟩

set_option maxRecDepth 100000 in
set_option maxHeartbeats 1000000 in
theorem bound_14z (d : ExD) (l : List Ex) (b o : Nat) (i : Nat) (iv : Int) (hiv : iv = (i : Int)) (hi4 : i ≤ 4000000) (w : World) (h : d.At w b o) (hI : (Ex.mk d l).In w) (hk : d.kind = 14) (h0 : i = 0) : Calls Try.prog 40 #[.pointer (some ⟨b, o, none⟩), .int .i64 iv] w fun e w' => BR (d.boundF i) w e w' := by
  have HE := Lib.hid (show d.boundF i = [] by unfold ExD.boundF; simp [hk, h0])
  have HI := Lib.hid (And.intro hI h)
  have c0 := h.c0
  have c2 := h.c2
  have c3 := h.c3
  have c4 := h.c4
  have HNN := Lib.hid hI.cap.1
  have hn4 : (d.nn : Int) ≤ 4000000 := by have : d.nn ≤ 4000000 := hI.cap.1.2.2; omega
  have HIV := Lib.hid hiv
  have q4 : (d.kind == 4) = false := by rw [hk]; rfl
  have q6 : (d.kind == 6) = false := by rw [hk]; rfl
  have q7 : (d.kind == 7) = false := by rw [hk]; rfl
  have q14 : (d.kind == 14) = true := by rw [hk]; rfl
  have i1 : ¬ 2 * (d.nn : Int) < iv := by omega
  have i2 : ¬ 0 < iv := by omega
  have i4 : iv ≤ 4000000 := by omega
  clear hk hiv
  rw [HE.out]
  clear h hI HE
  go_enter Try.func40, Try.ntmps40
  go_wp2_with fail
  all_goals
    go_returns
    exact BR.nil

set_option maxRecDepth 100000 in
set_option maxHeartbeats 1000000 in
theorem bound_14n (d : ExD) (l : List Ex) (b o : Nat) (i : Nat) (iv : Int) (hiv : iv = (i : Int)) (hi4 : i ≤ 4000000) (w : World) (h : d.At w b o) (hI : (Ex.mk d l).In w) (hk : d.kind = 14) (h0 : ¬ 2 * d.nn < i) (h1 : ¬ i % 2 = 0) : Calls Try.prog 40 #[.pointer (some ⟨b, o, none⟩), .int .i64 iv] w fun e w' => BR (d.boundF i) w e w' := by
  have HE := Lib.hid (show d.boundF i = [] by unfold ExD.boundF; rw [if_neg (by omega), if_neg (by omega), if_neg (by omega), if_neg (by omega)])
  have HI := Lib.hid (And.intro hI h)
  have c0 := h.c0
  have c2 := h.c2
  have c3 := h.c3
  have c4 := h.c4
  have HNN := Lib.hid hI.cap.1
  have hn4 : (d.nn : Int) ≤ 4000000 := by have : d.nn ≤ 4000000 := hI.cap.1.2.2; omega
  have HIV := Lib.hid hiv
  have q4 : (d.kind == 4) = false := by rw [hk]; rfl
  have q6 : (d.kind == 6) = false := by rw [hk]; rfl
  have q7 : (d.kind == 7) = false := by rw [hk]; rfl
  have q14 : (d.kind == 14) = true := by rw [hk]; rfl
  have i1 : ¬ 2 * (d.nn : Int) < iv := by omega
  have i2 : 0 < iv := by omega
  have i4 : iv ≤ 4000000 := by omega
  have i5 : (iv % 2 == 0) = false := by rw [beq_eq_false_iff_ne]; omega
  clear hk hiv
  rw [HE.out]
  clear h hI HE
  go_enter Try.func40, Try.ntmps40
  go_wp2_with fail
  all_goals
    go_returns
    exact BR.nil

set_option maxRecDepth 100000 in
set_option maxHeartbeats 1000000 in
theorem bound_14y (d : ExD) (l : List Ex) (b o : Nat) (i : Nat) (iv : Int) (hiv : iv = (i : Int)) (hi4 : i ≤ 4000000) (w : World) (h : d.At w b o) (hI : (Ex.mk d l).In w) (hk : d.kind = 14) (h0 : ¬ 2 * d.nn < i) (h1 : 0 < i) (h2 : i % 2 = 0) : Calls Try.prog 40 #[.pointer (some ⟨b, o, none⟩), .int .i64 iv] w fun e w' => BR (d.boundF i) w e w' := by
  have HE := Lib.hid (show d.boundF i = (d.names.drop (i / 2 - 1)).take 1 by unfold ExD.boundF; rw [if_neg (by omega), if_neg (by omega), if_neg (by omega), if_pos ⟨hk, h1, h2⟩])
  have HI := Lib.hid (And.intro hI h)
  have c0 := h.c0
  have c2 := h.c2
  have c3 := h.c3
  have c4 := h.c4
  have HNN := Lib.hid hI.cap.1
  have hn4 : (d.nn : Int) ≤ 4000000 := by have : d.nn ≤ 4000000 := hI.cap.1.2.2; omega
  have HIV := Lib.hid hiv
  have q4 : (d.kind == 4) = false := by rw [hk]; rfl
  have q6 : (d.kind == 6) = false := by rw [hk]; rfl
  have q7 : (d.kind == 7) = false := by rw [hk]; rfl
  have q14 : (d.kind == 14) = true := by rw [hk]; rfl
  have i1 : ¬ 2 * (d.nn : Int) < iv := by omega
  have i2 : 0 < iv := by omega
  have i4 : iv ≤ 4000000 := by omega
  have i5 : (iv % 2 == 0) = true := by rw [beq_iff_eq]; omega
  obtain ⟨j, hj⟩ : ∃ j, i / 2 - 1 = j := ⟨_, rfl⟩
  have hjn : j < d.names.length := by have h9 : d.names.length = d.nn := hI.namLen; omega
  have f0 : iv / 2 = (j : Int) + 1 := by omega
  obtain ⟨nb, no, hnA, hcs⟩ := Rd.str (show Rd w 1 d.nA d.nn (strs d.names) from hI.nam) hjn
  have hc := hcs j hjn
  have hjd : (d.names.drop j).take 1 = [d.names[j]] := by rw [List.drop_eq_getElem_cons hjn]; rfl
  obtain ⟨s, hs⟩ : ∃ s, d.names[j] = s := ⟨_, rfl⟩
  rw [hs] at hc hjd
  have j0 : (0 : Int) ≤ (j : Int) := by omega
  have j1 : (j : Int) < (d.nn : Int) := by have h9 : d.names.length = d.nn := hI.namLen; omega
  have j4 : (j : Int) ≤ 4000000 := by omega
  rw [hnA] at c4
  rw [hj, hjd] at HE
  clear hs hj hjn hcs hnA hjd h0 h1 h2
  clear hk hiv
  rw [HE.out]
  clear h hI HE
  go_enter Try.func40, Try.ntmps40
  go_wp2_with fail
  go_returns
  exact ⟨_, 1, 1, rfl, Rd.lit w #[.string (bstr s)] 9 rfl, by omega, (Below.refl _ _).alloc (Nat.le_refl _) _⟩

set_option maxRecDepth 100000 in
set_option maxHeartbeats 1000000 in
theorem bound_o (d : ExD) (l : List Ex) (b o : Nat) (i : Nat) (iv : Int) (hiv : iv = (i : Int)) (hi4 : i ≤ 4000000) (w : World) (h : d.At w b o) (hI : (Ex.mk d l).In w) (h4 : ¬ d.kind = 4) (h6 : ¬ d.kind = 6) (h7 : ¬ d.kind = 7) (h14 : ¬ d.kind = 14) : Calls Try.prog 40 #[.pointer (some ⟨b, o, none⟩), .int .i64 iv] w fun e w' => BR (d.boundF i) w e w' := by
  have HE := Lib.hid (show d.boundF i = [] by unfold ExD.boundF; simp [h4, h6, h7, h14])
  have HI := Lib.hid (And.intro hI h)
  have c0 := h.c0
  have c2 := h.c2
  have c3 := h.c3
  have c4 := h.c4
  have HNN := Lib.hid hI.cap.1
  have hn4 : (d.nn : Int) ≤ 4000000 := by have : d.nn ≤ 4000000 := hI.cap.1.2.2; omega
  have HIV := Lib.hid hiv
  have q4 : (d.kind == 4) = false := by simpa using h4
  have q6 : (d.kind == 6) = false := by simpa using h6
  have q7 : (d.kind == 7) = false := by simpa using h7
  have q14 : (d.kind == 14) = false := by simpa using h14
  clear h4 h6 h7 h14 hiv
  rw [HE.out]
  clear h hI HE
  go_enter Try.func40, Try.ntmps40
  go_wp2_with fail
  go_returns
  exact BR.nil

theorem bound_any (d : ExD) (l : List Ex) (b o : Nat) (i : Nat) (hi4 : i ≤ 4000000) (w : World) (h : d.At w b o) (hI : (Ex.mk d l).In w) : Calls Try.prog 40 #[.pointer (some ⟨b, o, none⟩), .int .i64 (i : Int)] w fun e w' => BR (d.boundF i) w e w' := by
  by_cases h4 : d.kind = 4
  · by_cases h0 : i = 0
    · exact bound_4 d l b o i _ rfl hi4 w h hI h4 h0
    · exact bound_4n d l b o i _ rfl hi4 w h hI h4 h0
  by_cases h6 : d.kind = 6
  · by_cases h0 : i = 1
    · exact bound_6 d l b o i _ rfl hi4 w h hI h6 h0
    · exact bound_6n d l b o i _ rfl hi4 w h hI h6 h0
  by_cases h7 : d.kind = 7
  · by_cases h1 : i = 1
    · exact bound_71 d l b o i _ rfl hi4 w h hI h7 h1
    · by_cases h0 : i = 0
      · exact bound_70 d l b o i _ rfl hi4 w h hI h7 h0
      · exact bound_7n d l b o i _ rfl hi4 w h hI h7 h0 h1
  by_cases h14 : d.kind = 14
  · by_cases h0 : 2 * d.nn < i
    · exact bound_14t d l b o i _ rfl hi4 w h hI h14 h0
    · by_cases h1 : i = 0
      · exact bound_14z d l b o i _ rfl hi4 w h hI h14 h1
      by_cases h2 : i % 2 = 0
      · exact bound_14y d l b o i _ rfl hi4 w h hI h14 h0 (by omega) h2
      · exact bound_14n d l b o i _ rfl hi4 w h hI h14 h0 h2
  · exact bound_o d l b o i _ rfl hi4 w h hI h4 h6 h7 h14
end Go.Proofs.Ytpnihimoekkepaa
