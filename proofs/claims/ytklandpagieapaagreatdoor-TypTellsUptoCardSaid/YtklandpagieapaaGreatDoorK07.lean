/-
  Whether a type's own fields may be, by the document's answer: where they may not.
-/
import Derived.Test.YtklandpagieapaaGreatDoorK02
namespace Go.Proofs.YtklandpagieapaaGreatDoor
open Go.ChangeShapes Go.WideShapes Go.ChangeAt Go.RowKit Go.Sort
set_option linter.unusedVariables false
set_option linter.unusedSimpArgs false

set_option maxRecDepth 100000 in
set_option maxHeartbeats 1000000 in
theorem fb1_neg (n : Int) (pA : Option Addr) (pn pc : Nat) (lA : Option Addr) (ln lc : Nat) (labels : List Str) (tail : Int) (w : World) (hn : n < 0) :
    Calls Tryz.prog 24 #[.agg #[.int .i64 1, .int .i64 n, .slice pA pn pc, .slice lA ln lc, .int .i64 tail]] w fun e w' => e = .returned (.bool false) ∧ Below w.heap.size w w' := by
  go_enter Tryz.func24, Tryz.ntmps24
  go_wp2_with fail
  all_goals (go_returns; exact ⟨rfl, (Below.refl _ _).alloc (Nat.le_refl _) _⟩)

set_option maxRecDepth 100000 in
set_option maxHeartbeats 1000000 in
theorem fb1_pos (n : Int) (pA : Option Addr) (pn pc : Nat) (lA : Option Addr) (ln lc : Nat) (labels : List Str) (tail : Int) (w : World) (hn : 0 < n) :
    Calls Tryz.prog 24 #[.agg #[.int .i64 1, .int .i64 n, .slice pA pn pc, .slice lA ln lc, .int .i64 tail]] w fun e w' => e = .returned (.bool false) ∧ Below w.heap.size w w' := by
  have n1 : ¬ n < 0 := by omega
  have n2 : (n != 0) = true := by rw [bne_iff_ne]; omega
  go_enter Tryz.func24, Tryz.ntmps24
  go_wp2_with fail
  all_goals (go_returns; exact ⟨rfl, (Below.refl _ _).alloc (Nat.le_refl _) _⟩)

set_option maxRecDepth 100000 in
set_option maxHeartbeats 1000000 in
theorem fb1_tail (n : Int) (pA : Option Addr) (pn pc : Nat) (lA : Option Addr) (ln lc : Nat) (labels : List Str) (tail : Int) (w : World) (hn : n = 0) (ht : ¬ tail = -1) :
    Calls Tryz.prog 24 #[.agg #[.int .i64 1, .int .i64 n, .slice pA pn pc, .slice lA ln lc, .int .i64 tail]] w fun e w' => e = .returned (.bool false) ∧ Below w.heap.size w w' := by
  subst hn
  have t1 : (tail != -1) = true := by rw [bne_iff_ne]; exact ht
  go_enter Tryz.func24, Tryz.ntmps24
  go_wp2_with fail
  all_goals (go_returns; exact ⟨rfl, (Below.refl _ _).alloc (Nat.le_refl _) _⟩)

set_option maxRecDepth 100000 in
set_option maxHeartbeats 1000000 in
theorem fb1_lab (n : Int) (pA : Option Addr) (pn pc : Nat) (lA : Option Addr) (ln lc : Nat) (labels : List Str) (tail : Int) (w : World) (hn : n = 0) (ht : tail = -1) (hl : ¬ ln = 0) :
    Calls Tryz.prog 24 #[.agg #[.int .i64 1, .int .i64 n, .slice pA pn pc, .slice lA ln lc, .int .i64 tail]] w fun e w' => e = .returned (.bool false) ∧ Below w.heap.size w w' := by
  subst hn
  subst ht
  have l1 : (0 : Int) < (ln : Int) := by omega
  go_enter Tryz.func24, Tryz.ntmps24
  go_wp2_with fail
  all_goals (go_returns; exact ⟨rfl, (Below.refl _ _).alloc (Nat.le_refl _) _⟩)

set_option maxRecDepth 100000 in
set_option maxHeartbeats 1000000 in
theorem fb1_parts (n : Int) (pA : Option Addr) (pn pc : Nat) (lA : Option Addr) (ln lc : Nat) (labels : List Str) (tail : Int) (w : World) (hn : n = 0) (ht : tail = -1) (hl : ln = 0) (hp : ¬ pn = 0) :
    Calls Tryz.prog 24 #[.agg #[.int .i64 1, .int .i64 n, .slice pA pn pc, .slice lA ln lc, .int .i64 tail]] w fun e w' => e = .returned (.bool false) ∧ Below w.heap.size w w' := by
  subst hn
  subst ht
  subst hl
  have l1 : ((pn : Int) != 0) = true := by rw [bne_iff_ne]; omega
  go_enter Tryz.func24, Tryz.ntmps24
  go_wp2_with fail
  all_goals (go_returns; exact ⟨rfl, (Below.refl _ _).alloc (Nat.le_refl _) _⟩)

set_option maxRecDepth 100000 in
set_option maxHeartbeats 1000000 in
theorem fb2_neg (n : Int) (pA : Option Addr) (pn pc : Nat) (lA : Option Addr) (ln lc : Nat) (labels : List Str) (tail : Int) (w : World) (hn : n < 0) :
    Calls Tryz.prog 24 #[.agg #[.int .i64 2, .int .i64 n, .slice pA pn pc, .slice lA ln lc, .int .i64 tail]] w fun e w' => e = .returned (.bool false) ∧ Below w.heap.size w w' := by
  go_enter Tryz.func24, Tryz.ntmps24
  go_wp2_with fail
  all_goals (go_returns; exact ⟨rfl, (Below.refl _ _).alloc (Nat.le_refl _) _⟩)

set_option maxRecDepth 100000 in
set_option maxHeartbeats 1000000 in
theorem fb2_pos (n : Int) (pA : Option Addr) (pn pc : Nat) (lA : Option Addr) (ln lc : Nat) (labels : List Str) (tail : Int) (w : World) (hn : 0 < n) :
    Calls Tryz.prog 24 #[.agg #[.int .i64 2, .int .i64 n, .slice pA pn pc, .slice lA ln lc, .int .i64 tail]] w fun e w' => e = .returned (.bool false) ∧ Below w.heap.size w w' := by
  have n1 : ¬ n < 0 := by omega
  have n2 : (n != 0) = true := by rw [bne_iff_ne]; omega
  go_enter Tryz.func24, Tryz.ntmps24
  go_wp2_with fail
  all_goals (go_returns; exact ⟨rfl, (Below.refl _ _).alloc (Nat.le_refl _) _⟩)

set_option maxRecDepth 100000 in
set_option maxHeartbeats 1000000 in
theorem fb2_tail (n : Int) (pA : Option Addr) (pn pc : Nat) (lA : Option Addr) (ln lc : Nat) (labels : List Str) (tail : Int) (w : World) (hn : n = 0) (ht : ¬ tail = -1) :
    Calls Tryz.prog 24 #[.agg #[.int .i64 2, .int .i64 n, .slice pA pn pc, .slice lA ln lc, .int .i64 tail]] w fun e w' => e = .returned (.bool false) ∧ Below w.heap.size w w' := by
  subst hn
  have t1 : (tail != -1) = true := by rw [bne_iff_ne]; exact ht
  go_enter Tryz.func24, Tryz.ntmps24
  go_wp2_with fail
  all_goals (go_returns; exact ⟨rfl, (Below.refl _ _).alloc (Nat.le_refl _) _⟩)

set_option maxRecDepth 100000 in
set_option maxHeartbeats 1000000 in
theorem fb2_lab (n : Int) (pA : Option Addr) (pn pc : Nat) (lA : Option Addr) (ln lc : Nat) (labels : List Str) (tail : Int) (w : World) (hn : n = 0) (ht : tail = -1) (hl : ¬ ln = 0) :
    Calls Tryz.prog 24 #[.agg #[.int .i64 2, .int .i64 n, .slice pA pn pc, .slice lA ln lc, .int .i64 tail]] w fun e w' => e = .returned (.bool false) ∧ Below w.heap.size w w' := by
  subst hn
  subst ht
  have l1 : (0 : Int) < (ln : Int) := by omega
  go_enter Tryz.func24, Tryz.ntmps24
  go_wp2_with fail
  all_goals (go_returns; exact ⟨rfl, (Below.refl _ _).alloc (Nat.le_refl _) _⟩)

set_option maxRecDepth 100000 in
set_option maxHeartbeats 1000000 in
theorem fb2_parts (n : Int) (pA : Option Addr) (pn pc : Nat) (lA : Option Addr) (ln lc : Nat) (labels : List Str) (tail : Int) (w : World) (hn : n = 0) (ht : tail = -1) (hl : ln = 0) (hp : ¬ pn = 0) :
    Calls Tryz.prog 24 #[.agg #[.int .i64 2, .int .i64 n, .slice pA pn pc, .slice lA ln lc, .int .i64 tail]] w fun e w' => e = .returned (.bool false) ∧ Below w.heap.size w w' := by
  subst hn
  subst ht
  subst hl
  have l1 : ((pn : Int) != 0) = true := by rw [bne_iff_ne]; omega
  go_enter Tryz.func24, Tryz.ntmps24
  go_wp2_with fail
  all_goals (go_returns; exact ⟨rfl, (Below.refl _ _).alloc (Nat.le_refl _) _⟩)

set_option maxRecDepth 100000 in
set_option maxHeartbeats 1000000 in
theorem fb7_neg (n : Int) (pA : Option Addr) (pn pc : Nat) (lA : Option Addr) (ln lc : Nat) (labels : List Str) (tail : Int) (w : World) (hn : n < 0) :
    Calls Tryz.prog 24 #[.agg #[.int .i64 7, .int .i64 n, .slice pA pn pc, .slice lA ln lc, .int .i64 tail]] w fun e w' => e = .returned (.bool false) ∧ Below w.heap.size w w' := by
  go_enter Tryz.func24, Tryz.ntmps24
  go_wp2_with fail
  all_goals (go_returns; exact ⟨rfl, (Below.refl _ _).alloc (Nat.le_refl _) _⟩)

set_option maxRecDepth 100000 in
set_option maxHeartbeats 1000000 in
theorem fb7_tail (n : Int) (pA : Option Addr) (pn pc : Nat) (lA : Option Addr) (ln lc : Nat) (labels : List Str) (tail : Int) (w : World) (hn : 0 ≤ n) (ht : ¬ tail = -1) :
    Calls Tryz.prog 24 #[.agg #[.int .i64 7, .int .i64 n, .slice pA pn pc, .slice lA ln lc, .int .i64 tail]] w fun e w' => e = .returned (.bool false) ∧ Below w.heap.size w w' := by
  have n1 : ¬ n < 0 := by omega
  have t1 : (tail != -1) = true := by rw [bne_iff_ne]; exact ht
  go_enter Tryz.func24, Tryz.ntmps24
  go_wp2_with fail
  all_goals (go_returns; exact ⟨rfl, (Below.refl _ _).alloc (Nat.le_refl _) _⟩)

set_option maxRecDepth 100000 in
set_option maxHeartbeats 1000000 in
theorem fb7_lab (n : Int) (pA : Option Addr) (pn pc : Nat) (lA : Option Addr) (ln lc : Nat) (labels : List Str) (tail : Int) (w : World) (hn : 0 ≤ n) (ht : tail = -1) (hl : ¬ ln = 0) :
    Calls Tryz.prog 24 #[.agg #[.int .i64 7, .int .i64 n, .slice pA pn pc, .slice lA ln lc, .int .i64 tail]] w fun e w' => e = .returned (.bool false) ∧ Below w.heap.size w w' := by
  have n1 : ¬ n < 0 := by omega
  subst ht
  have l1 : (0 : Int) < (ln : Int) := by omega
  go_enter Tryz.func24, Tryz.ntmps24
  go_wp2_with fail
  all_goals (go_returns; exact ⟨rfl, (Below.refl _ _).alloc (Nat.le_refl _) _⟩)

set_option maxRecDepth 100000 in
set_option maxHeartbeats 1000000 in
theorem fb7_parts (n : Int) (pA : Option Addr) (pn pc : Nat) (lA : Option Addr) (ln lc : Nat) (labels : List Str) (tail : Int) (w : World) (hn : 0 ≤ n) (ht : tail = -1) (hl : ln = 0) (hp : ¬ pn = 0) :
    Calls Tryz.prog 24 #[.agg #[.int .i64 7, .int .i64 n, .slice pA pn pc, .slice lA ln lc, .int .i64 tail]] w fun e w' => e = .returned (.bool false) ∧ Below w.heap.size w w' := by
  have n1 : ¬ n < 0 := by omega
  subst ht
  subst hl
  have l1 : ((pn : Int) != 0) = true := by rw [bne_iff_ne]; omega
  go_enter Tryz.func24, Tryz.ntmps24
  go_wp2_with fail
  all_goals (go_returns; exact ⟨rfl, (Below.refl _ _).alloc (Nat.le_refl _) _⟩)

set_option maxRecDepth 100000 in
set_option maxHeartbeats 1000000 in
theorem fb6_neg (n : Int) (pA : Option Addr) (pn pc : Nat) (lA : Option Addr) (ln lc : Nat) (labels : List Str) (tail : Int) (w : World) (hn : n < 0) :
    Calls Tryz.prog 24 #[.agg #[.int .i64 6, .int .i64 n, .slice pA pn pc, .slice lA ln lc, .int .i64 tail]] w fun e w' => e = .returned (.bool false) ∧ Below w.heap.size w w' := by
  go_enter Tryz.func24, Tryz.ntmps24
  go_wp2_with fail
  all_goals (go_returns; exact ⟨rfl, (Below.refl _ _).alloc (Nat.le_refl _) _⟩)

set_option maxRecDepth 100000 in
set_option maxHeartbeats 1000000 in
theorem fb6_pos (n : Int) (pA : Option Addr) (pn pc : Nat) (lA : Option Addr) (ln lc : Nat) (labels : List Str) (tail : Int) (w : World) (hn : 0 < n) :
    Calls Tryz.prog 24 #[.agg #[.int .i64 6, .int .i64 n, .slice pA pn pc, .slice lA ln lc, .int .i64 tail]] w fun e w' => e = .returned (.bool false) ∧ Below w.heap.size w w' := by
  have n1 : ¬ n < 0 := by omega
  have n2 : (n != 0) = true := by rw [bne_iff_ne]; omega
  go_enter Tryz.func24, Tryz.ntmps24
  go_wp2_with fail
  all_goals (go_returns; exact ⟨rfl, (Below.refl _ _).alloc (Nat.le_refl _) _⟩)

set_option maxRecDepth 100000 in
set_option maxHeartbeats 1000000 in
theorem fb6_tail (n : Int) (pA : Option Addr) (pn pc : Nat) (lA : Option Addr) (ln lc : Nat) (labels : List Str) (tail : Int) (w : World) (hn : n = 0) (ht : ¬ tail = -1) :
    Calls Tryz.prog 24 #[.agg #[.int .i64 6, .int .i64 n, .slice pA pn pc, .slice lA ln lc, .int .i64 tail]] w fun e w' => e = .returned (.bool false) ∧ Below w.heap.size w w' := by
  subst hn
  have t1 : (tail != -1) = true := by rw [bne_iff_ne]; exact ht
  go_enter Tryz.func24, Tryz.ntmps24
  go_wp2_with fail
  all_goals (go_returns; exact ⟨rfl, (Below.refl _ _).alloc (Nat.le_refl _) _⟩)

set_option maxRecDepth 100000 in
set_option maxHeartbeats 1000000 in
theorem fb6_lab (n : Int) (pA : Option Addr) (pn pc : Nat) (lA : Option Addr) (ln lc : Nat) (labels : List Str) (tail : Int) (w : World) (hn : n = 0) (ht : tail = -1) (hl : ¬ ln = 0) :
    Calls Tryz.prog 24 #[.agg #[.int .i64 6, .int .i64 n, .slice pA pn pc, .slice lA ln lc, .int .i64 tail]] w fun e w' => e = .returned (.bool false) ∧ Below w.heap.size w w' := by
  subst hn
  subst ht
  have l1 : (0 : Int) < (ln : Int) := by omega
  go_enter Tryz.func24, Tryz.ntmps24
  go_wp2_with fail
  all_goals (go_returns; exact ⟨rfl, (Below.refl _ _).alloc (Nat.le_refl _) _⟩)

set_option maxRecDepth 100000 in
set_option maxHeartbeats 1000000 in
theorem fb6_parts (n : Int) (pA : Option Addr) (pn pc : Nat) (lA : Option Addr) (ln lc : Nat) (labels : List Str) (tail : Int) (w : World) (hn : n = 0) (ht : tail = -1) (hl : ln = 0) (hp : ¬ pn = 1) :
    Calls Tryz.prog 24 #[.agg #[.int .i64 6, .int .i64 n, .slice pA pn pc, .slice lA ln lc, .int .i64 tail]] w fun e w' => e = .returned (.bool false) ∧ Below w.heap.size w w' := by
  subst hn
  subst ht
  subst hl
  have l1 : ((pn : Int) != 1) = true := by rw [bne_iff_ne]; omega
  go_enter Tryz.func24, Tryz.ntmps24
  go_wp2_with fail
  all_goals (go_returns; exact ⟨rfl, (Below.refl _ _).alloc (Nat.le_refl _) _⟩)

set_option maxRecDepth 100000 in
set_option maxHeartbeats 1000000 in
theorem fb3_neg (n : Int) (pA : Option Addr) (pn pc : Nat) (lA : Option Addr) (ln lc : Nat) (labels : List Str) (tail : Int) (w : World) (hn : n < 0) :
    Calls Tryz.prog 24 #[.agg #[.int .i64 3, .int .i64 n, .slice pA pn pc, .slice lA ln lc, .int .i64 tail]] w fun e w' => e = .returned (.bool false) ∧ Below w.heap.size w w' := by
  go_enter Tryz.func24, Tryz.ntmps24
  go_wp2_with fail
  all_goals (go_returns; exact ⟨rfl, (Below.refl _ _).alloc (Nat.le_refl _) _⟩)

set_option maxRecDepth 100000 in
set_option maxHeartbeats 1000000 in
theorem fb3_pos (n : Int) (pA : Option Addr) (pn pc : Nat) (lA : Option Addr) (ln lc : Nat) (labels : List Str) (tail : Int) (w : World) (hn : 0 < n) :
    Calls Tryz.prog 24 #[.agg #[.int .i64 3, .int .i64 n, .slice pA pn pc, .slice lA ln lc, .int .i64 tail]] w fun e w' => e = .returned (.bool false) ∧ Below w.heap.size w w' := by
  have n1 : ¬ n < 0 := by omega
  have n2 : (n != 0) = true := by rw [bne_iff_ne]; omega
  go_enter Tryz.func24, Tryz.ntmps24
  go_wp2_with fail
  all_goals (go_returns; exact ⟨rfl, (Below.refl _ _).alloc (Nat.le_refl _) _⟩)

set_option maxRecDepth 100000 in
set_option maxHeartbeats 1000000 in
theorem fb3_tail (n : Int) (pA : Option Addr) (pn pc : Nat) (lA : Option Addr) (ln lc : Nat) (labels : List Str) (tail : Int) (w : World) (hn : n = 0) (ht : ¬ tail = -1) :
    Calls Tryz.prog 24 #[.agg #[.int .i64 3, .int .i64 n, .slice pA pn pc, .slice lA ln lc, .int .i64 tail]] w fun e w' => e = .returned (.bool false) ∧ Below w.heap.size w w' := by
  subst hn
  have t1 : (tail != -1) = true := by rw [bne_iff_ne]; exact ht
  go_enter Tryz.func24, Tryz.ntmps24
  go_wp2_with fail
  all_goals (go_returns; exact ⟨rfl, (Below.refl _ _).alloc (Nat.le_refl _) _⟩)

set_option maxRecDepth 100000 in
set_option maxHeartbeats 1000000 in
theorem fb3_lab (n : Int) (pA : Option Addr) (pn pc : Nat) (lA : Option Addr) (ln lc : Nat) (labels : List Str) (tail : Int) (w : World) (hn : n = 0) (ht : tail = -1) (hl : ¬ ln = 0) :
    Calls Tryz.prog 24 #[.agg #[.int .i64 3, .int .i64 n, .slice pA pn pc, .slice lA ln lc, .int .i64 tail]] w fun e w' => e = .returned (.bool false) ∧ Below w.heap.size w w' := by
  subst hn
  subst ht
  have l1 : (0 : Int) < (ln : Int) := by omega
  go_enter Tryz.func24, Tryz.ntmps24
  go_wp2_with fail
  all_goals (go_returns; exact ⟨rfl, (Below.refl _ _).alloc (Nat.le_refl _) _⟩)

set_option maxRecDepth 100000 in
set_option maxHeartbeats 1000000 in
theorem fb3_parts (n : Int) (pA : Option Addr) (pn pc : Nat) (lA : Option Addr) (ln lc : Nat) (labels : List Str) (tail : Int) (w : World) (hn : n = 0) (ht : tail = -1) (hl : ln = 0) (hp : ¬ pn = 2) :
    Calls Tryz.prog 24 #[.agg #[.int .i64 3, .int .i64 n, .slice pA pn pc, .slice lA ln lc, .int .i64 tail]] w fun e w' => e = .returned (.bool false) ∧ Below w.heap.size w w' := by
  subst hn
  subst ht
  subst hl
  have l1 : ((pn : Int) != 2) = true := by rw [bne_iff_ne]; omega
  go_enter Tryz.func24, Tryz.ntmps24
  go_wp2_with fail
  all_goals (go_returns; exact ⟨rfl, (Below.refl _ _).alloc (Nat.le_refl _) _⟩)

set_option maxRecDepth 100000 in
set_option maxHeartbeats 1000000 in
theorem fb4_neg (n : Int) (pA : Option Addr) (pn pc : Nat) (lA : Option Addr) (ln lc : Nat) (labels : List Str) (tail : Int) (w : World) (hn : n < 0) :
    Calls Tryz.prog 24 #[.agg #[.int .i64 4, .int .i64 n, .slice pA pn pc, .slice lA ln lc, .int .i64 tail]] w fun e w' => e = .returned (.bool false) ∧ Below w.heap.size w w' := by
  go_enter Tryz.func24, Tryz.ntmps24
  go_wp2_with fail
  all_goals (go_returns; exact ⟨rfl, (Below.refl _ _).alloc (Nat.le_refl _) _⟩)

set_option maxRecDepth 100000 in
set_option maxHeartbeats 1000000 in
theorem fb4_pos (n : Int) (pA : Option Addr) (pn pc : Nat) (lA : Option Addr) (ln lc : Nat) (labels : List Str) (tail : Int) (w : World) (hn : 0 < n) :
    Calls Tryz.prog 24 #[.agg #[.int .i64 4, .int .i64 n, .slice pA pn pc, .slice lA ln lc, .int .i64 tail]] w fun e w' => e = .returned (.bool false) ∧ Below w.heap.size w w' := by
  have n1 : ¬ n < 0 := by omega
  have n2 : (n != 0) = true := by rw [bne_iff_ne]; omega
  go_enter Tryz.func24, Tryz.ntmps24
  go_wp2_with fail
  all_goals (go_returns; exact ⟨rfl, (Below.refl _ _).alloc (Nat.le_refl _) _⟩)

set_option maxRecDepth 100000 in
set_option maxHeartbeats 1000000 in
theorem fb4_tail (n : Int) (pA : Option Addr) (pn pc : Nat) (lA : Option Addr) (ln lc : Nat) (labels : List Str) (tail : Int) (w : World) (hn : n = 0) (hr : Rd w 1 lA ln (strs labels)) (hm : ln ≤ maxLen) (ht : tail < -1) :
    Calls Tryz.prog 24 #[.agg #[.int .i64 4, .int .i64 n, .slice pA pn pc, .slice lA ln lc, .int .i64 tail]] w fun e w' => e = .returned (.bool false) ∧ Below w.heap.size w w' := by
  subst hn
  have hb : Below w.heap.size w (w.alloc (.cells #[.int .i64 4, .int .i64 0, .slice pA pn pc, .slice lA ln lc, .int .i64 tail] 25)) := (Below.refl _ _).alloc (Nat.le_refl _) _
  have HI := Lib.hid (refIs_any lA labels ln lc _ (hr.below hb) hm)
  have HH := Lib.hid (fun w2 (hb2 : Below w.heap.size w w2) => refHas_any lA labels [] ln lc w2 (hr.below hb2) hm)
  have e0 : bstr [] = ({ data := #[] } : ByteArray) := rfl
  rw [e0] at HH
  obtain ⟨is, his⟩ : ∃ is, isB labels = is := ⟨_, rfl⟩
  obtain ⟨has, hhas⟩ : ∃ has, decide (([] : Str) ∈ labels) = has := ⟨_, rfl⟩
  rw [his] at HI
  rw [hhas] at HH
  have HB := Lib.hid hb
  clear hb hr
  go_enter Tryz.func24, Tryz.ntmps24
  go_wp2_with fail
  refine HI.out.mono ?_
  rintro e w2 ⟨rfl, hb2⟩
  have HB2 := Lib.hid (below_then HB.out hb2)
  have c2 : w2.cell? ⟨w.heap.size, 2, none⟩ = some (.slice pA pn pc) := cell_below hb2 (cell_new w _ _ 2 rfl)
  have c3 : w2.cell? ⟨w.heap.size, 3, none⟩ = some (.slice lA ln lc) := cell_below hb2 (cell_new w _ _ 3 rfl)
  have c4 : w2.cell? ⟨w.heap.size, 4, none⟩ = some (.int .i64 tail) := cell_below hb2 (cell_new w _ _ 4 rfl)
  clear hb2
  go_wp2_with fail
  refine (HH.out w2 HB2.out).mono ?_
  rintro e w3 ⟨rfl, hb3⟩
  have HB3 := Lib.hid (below_then HB2.out hb3)
  have d2 := cell_below hb3 c2
  have d4 := cell_below hb3 c4
  clear hb3 c2 c3 c4
  go_wp2_with fail
  all_goals (go_returns; exact ⟨rfl, HB3.out⟩)

set_option maxRecDepth 100000 in
set_option maxHeartbeats 1000000 in
theorem fb4_is (n : Int) (pA : Option Addr) (pn pc : Nat) (lA : Option Addr) (ln lc : Nat) (labels : List Str) (tail : Int) (w : World) (hn : n = 0) (hr : Rd w 1 lA ln (strs labels)) (hm : ln ≤ maxLen) (ht : -1 ≤ tail) (hi : isB labels = false) :
    Calls Tryz.prog 24 #[.agg #[.int .i64 4, .int .i64 n, .slice pA pn pc, .slice lA ln lc, .int .i64 tail]] w fun e w' => e = .returned (.bool false) ∧ Below w.heap.size w w' := by
  subst hn
  have hb : Below w.heap.size w (w.alloc (.cells #[.int .i64 4, .int .i64 0, .slice pA pn pc, .slice lA ln lc, .int .i64 tail] 25)) := (Below.refl _ _).alloc (Nat.le_refl _) _
  have HI := Lib.hid (refIs_any lA labels ln lc _ (hr.below hb) hm)
  have HH := Lib.hid (fun w2 (hb2 : Below w.heap.size w w2) => refHas_any lA labels [] ln lc w2 (hr.below hb2) hm)
  have e0 : bstr [] = ({ data := #[] } : ByteArray) := rfl
  rw [e0] at HH
  obtain ⟨is, his⟩ : ∃ is, isB labels = is := ⟨_, rfl⟩
  obtain ⟨has, hhas⟩ : ∃ has, decide (([] : Str) ∈ labels) = has := ⟨_, rfl⟩
  rw [his] at HI
  rw [hhas] at HH
  have HB := Lib.hid hb
  have t1 : ¬ tail < -1 := by omega
  obtain rfl : is = false := by rw [← his, hi]
  clear hb hr
  go_enter Tryz.func24, Tryz.ntmps24
  go_wp2_with fail
  refine HI.out.mono ?_
  rintro e w2 ⟨rfl, hb2⟩
  have HB2 := Lib.hid (below_then HB.out hb2)
  have c2 : w2.cell? ⟨w.heap.size, 2, none⟩ = some (.slice pA pn pc) := cell_below hb2 (cell_new w _ _ 2 rfl)
  have c3 : w2.cell? ⟨w.heap.size, 3, none⟩ = some (.slice lA ln lc) := cell_below hb2 (cell_new w _ _ 3 rfl)
  have c4 : w2.cell? ⟨w.heap.size, 4, none⟩ = some (.int .i64 tail) := cell_below hb2 (cell_new w _ _ 4 rfl)
  clear hb2
  go_wp2_with fail
  refine (HH.out w2 HB2.out).mono ?_
  rintro e w3 ⟨rfl, hb3⟩
  have HB3 := Lib.hid (below_then HB2.out hb3)
  have d2 := cell_below hb3 c2
  have d4 := cell_below hb3 c4
  clear hb3 c2 c3 c4
  go_wp2_with fail
  all_goals (go_returns; exact ⟨rfl, HB3.out⟩)

set_option maxRecDepth 100000 in
set_option maxHeartbeats 1000000 in
theorem fb4_has (n : Int) (pA : Option Addr) (pn pc : Nat) (lA : Option Addr) (ln lc : Nat) (labels : List Str) (tail : Int) (w : World) (hn : n = 0) (hr : Rd w 1 lA ln (strs labels)) (hm : ln ≤ maxLen) (ht : -1 ≤ tail) (hi : isB labels = true) (hh : ([] : Str) ∈ labels) :
    Calls Tryz.prog 24 #[.agg #[.int .i64 4, .int .i64 n, .slice pA pn pc, .slice lA ln lc, .int .i64 tail]] w fun e w' => e = .returned (.bool false) ∧ Below w.heap.size w w' := by
  subst hn
  have hb : Below w.heap.size w (w.alloc (.cells #[.int .i64 4, .int .i64 0, .slice pA pn pc, .slice lA ln lc, .int .i64 tail] 25)) := (Below.refl _ _).alloc (Nat.le_refl _) _
  have HI := Lib.hid (refIs_any lA labels ln lc _ (hr.below hb) hm)
  have HH := Lib.hid (fun w2 (hb2 : Below w.heap.size w w2) => refHas_any lA labels [] ln lc w2 (hr.below hb2) hm)
  have e0 : bstr [] = ({ data := #[] } : ByteArray) := rfl
  rw [e0] at HH
  obtain ⟨is, his⟩ : ∃ is, isB labels = is := ⟨_, rfl⟩
  obtain ⟨has, hhas⟩ : ∃ has, decide (([] : Str) ∈ labels) = has := ⟨_, rfl⟩
  rw [his] at HI
  rw [hhas] at HH
  have HB := Lib.hid hb
  have t1 : ¬ tail < -1 := by omega
  obtain rfl : is = true := by rw [← his, hi]
  obtain rfl : has = true := by rw [← hhas, decide_eq_true hh]
  clear hb hr
  go_enter Tryz.func24, Tryz.ntmps24
  go_wp2_with fail
  refine HI.out.mono ?_
  rintro e w2 ⟨rfl, hb2⟩
  have HB2 := Lib.hid (below_then HB.out hb2)
  have c2 : w2.cell? ⟨w.heap.size, 2, none⟩ = some (.slice pA pn pc) := cell_below hb2 (cell_new w _ _ 2 rfl)
  have c3 : w2.cell? ⟨w.heap.size, 3, none⟩ = some (.slice lA ln lc) := cell_below hb2 (cell_new w _ _ 3 rfl)
  have c4 : w2.cell? ⟨w.heap.size, 4, none⟩ = some (.int .i64 tail) := cell_below hb2 (cell_new w _ _ 4 rfl)
  clear hb2
  go_wp2_with fail
  refine (HH.out w2 HB2.out).mono ?_
  rintro e w3 ⟨rfl, hb3⟩
  have HB3 := Lib.hid (below_then HB2.out hb3)
  have d2 := cell_below hb3 c2
  have d4 := cell_below hb3 c4
  clear hb3 c2 c3 c4
  go_wp2_with fail
  all_goals (go_returns; exact ⟨rfl, HB3.out⟩)

set_option maxRecDepth 100000 in
set_option maxHeartbeats 1000000 in
theorem fb4_parts (n : Int) (pA : Option Addr) (pn pc : Nat) (lA : Option Addr) (ln lc : Nat) (labels : List Str) (tail : Int) (w : World) (hn : n = 0) (hr : Rd w 1 lA ln (strs labels)) (hm : ln ≤ maxLen) (ht : -1 ≤ tail) (hi : isB labels = true) (hh : ¬ ([] : Str) ∈ labels) (hp : ¬ pn = ln) :
    Calls Tryz.prog 24 #[.agg #[.int .i64 4, .int .i64 n, .slice pA pn pc, .slice lA ln lc, .int .i64 tail]] w fun e w' => e = .returned (.bool false) ∧ Below w.heap.size w w' := by
  subst hn
  have hb : Below w.heap.size w (w.alloc (.cells #[.int .i64 4, .int .i64 0, .slice pA pn pc, .slice lA ln lc, .int .i64 tail] 25)) := (Below.refl _ _).alloc (Nat.le_refl _) _
  have HI := Lib.hid (refIs_any lA labels ln lc _ (hr.below hb) hm)
  have HH := Lib.hid (fun w2 (hb2 : Below w.heap.size w w2) => refHas_any lA labels [] ln lc w2 (hr.below hb2) hm)
  have e0 : bstr [] = ({ data := #[] } : ByteArray) := rfl
  rw [e0] at HH
  obtain ⟨is, his⟩ : ∃ is, isB labels = is := ⟨_, rfl⟩
  obtain ⟨has, hhas⟩ : ∃ has, decide (([] : Str) ∈ labels) = has := ⟨_, rfl⟩
  rw [his] at HI
  rw [hhas] at HH
  have HB := Lib.hid hb
  have t1 : ¬ tail < -1 := by omega
  obtain rfl : is = true := by rw [← his, hi]
  obtain rfl : has = false := by rw [← hhas, decide_eq_false hh]
  have p1 : ((pn : Int) != (ln : Int)) = true := by rw [bne_iff_ne]; omega
  clear hb hr
  go_enter Tryz.func24, Tryz.ntmps24
  go_wp2_with fail
  refine HI.out.mono ?_
  rintro e w2 ⟨rfl, hb2⟩
  have HB2 := Lib.hid (below_then HB.out hb2)
  have c2 : w2.cell? ⟨w.heap.size, 2, none⟩ = some (.slice pA pn pc) := cell_below hb2 (cell_new w _ _ 2 rfl)
  have c3 : w2.cell? ⟨w.heap.size, 3, none⟩ = some (.slice lA ln lc) := cell_below hb2 (cell_new w _ _ 3 rfl)
  have c4 : w2.cell? ⟨w.heap.size, 4, none⟩ = some (.int .i64 tail) := cell_below hb2 (cell_new w _ _ 4 rfl)
  clear hb2
  go_wp2_with fail
  refine (HH.out w2 HB2.out).mono ?_
  rintro e w3 ⟨rfl, hb3⟩
  have HB3 := Lib.hid (below_then HB2.out hb3)
  have d2 := cell_below hb3 c2
  have d4 := cell_below hb3 c4
  clear hb3 c2 c3 c4
  go_wp2_with fail
  all_goals (go_returns; exact ⟨rfl, HB3.out⟩)

set_option maxRecDepth 100000 in
set_option maxHeartbeats 1000000 in
theorem fb5_neg (n : Int) (pA : Option Addr) (pn pc : Nat) (lA : Option Addr) (ln lc : Nat) (labels : List Str) (tail : Int) (w : World) (hn : n < 0) :
    Calls Tryz.prog 24 #[.agg #[.int .i64 5, .int .i64 n, .slice pA pn pc, .slice lA ln lc, .int .i64 tail]] w fun e w' => e = .returned (.bool false) ∧ Below w.heap.size w w' := by
  go_enter Tryz.func24, Tryz.ntmps24
  go_wp2_with fail
  all_goals (go_returns; exact ⟨rfl, (Below.refl _ _).alloc (Nat.le_refl _) _⟩)

set_option maxRecDepth 100000 in
set_option maxHeartbeats 1000000 in
theorem fb5_pos (n : Int) (pA : Option Addr) (pn pc : Nat) (lA : Option Addr) (ln lc : Nat) (labels : List Str) (tail : Int) (w : World) (hn : 0 < n) :
    Calls Tryz.prog 24 #[.agg #[.int .i64 5, .int .i64 n, .slice pA pn pc, .slice lA ln lc, .int .i64 tail]] w fun e w' => e = .returned (.bool false) ∧ Below w.heap.size w w' := by
  have n1 : ¬ n < 0 := by omega
  have n2 : (n != 0) = true := by rw [bne_iff_ne]; omega
  go_enter Tryz.func24, Tryz.ntmps24
  go_wp2_with fail
  all_goals (go_returns; exact ⟨rfl, (Below.refl _ _).alloc (Nat.le_refl _) _⟩)

set_option maxRecDepth 100000 in
set_option maxHeartbeats 1000000 in
theorem fb5_tail (n : Int) (pA : Option Addr) (pn pc : Nat) (lA : Option Addr) (ln lc : Nat) (labels : List Str) (tail : Int) (w : World) (hn : n = 0) (hr : Rd w 1 lA ln (strs labels)) (hm : ln ≤ maxLen) (ht : tail < -1) :
    Calls Tryz.prog 24 #[.agg #[.int .i64 5, .int .i64 n, .slice pA pn pc, .slice lA ln lc, .int .i64 tail]] w fun e w' => e = .returned (.bool false) ∧ Below w.heap.size w w' := by
  subst hn
  have hb : Below w.heap.size w (w.alloc (.cells #[.int .i64 5, .int .i64 0, .slice pA pn pc, .slice lA ln lc, .int .i64 tail] 25)) := (Below.refl _ _).alloc (Nat.le_refl _) _
  have HI := Lib.hid (refIs_any lA labels ln lc _ (hr.below hb) hm)
  have HH := Lib.hid (fun w2 (hb2 : Below w.heap.size w w2) => refHas_any lA labels [] ln lc w2 (hr.below hb2) hm)
  have e0 : bstr [] = ({ data := #[] } : ByteArray) := rfl
  rw [e0] at HH
  obtain ⟨is, his⟩ : ∃ is, isB labels = is := ⟨_, rfl⟩
  obtain ⟨has, hhas⟩ : ∃ has, decide (([] : Str) ∈ labels) = has := ⟨_, rfl⟩
  rw [his] at HI
  rw [hhas] at HH
  have HB := Lib.hid hb
  clear hb hr
  go_enter Tryz.func24, Tryz.ntmps24
  go_wp2_with fail
  refine HI.out.mono ?_
  rintro e w2 ⟨rfl, hb2⟩
  have HB2 := Lib.hid (below_then HB.out hb2)
  have c2 : w2.cell? ⟨w.heap.size, 2, none⟩ = some (.slice pA pn pc) := cell_below hb2 (cell_new w _ _ 2 rfl)
  have c3 : w2.cell? ⟨w.heap.size, 3, none⟩ = some (.slice lA ln lc) := cell_below hb2 (cell_new w _ _ 3 rfl)
  have c4 : w2.cell? ⟨w.heap.size, 4, none⟩ = some (.int .i64 tail) := cell_below hb2 (cell_new w _ _ 4 rfl)
  clear hb2
  go_wp2_with fail
  refine (HH.out w2 HB2.out).mono ?_
  rintro e w3 ⟨rfl, hb3⟩
  have HB3 := Lib.hid (below_then HB2.out hb3)
  have d2 := cell_below hb3 c2
  have d4 := cell_below hb3 c4
  clear hb3 c2 c3 c4
  go_wp2_with fail
  all_goals (go_returns; exact ⟨rfl, HB3.out⟩)

set_option maxRecDepth 100000 in
set_option maxHeartbeats 1000000 in
theorem fb5_is (n : Int) (pA : Option Addr) (pn pc : Nat) (lA : Option Addr) (ln lc : Nat) (labels : List Str) (tail : Int) (w : World) (hn : n = 0) (hr : Rd w 1 lA ln (strs labels)) (hm : ln ≤ maxLen) (ht : -1 ≤ tail) (hi : isB labels = false) :
    Calls Tryz.prog 24 #[.agg #[.int .i64 5, .int .i64 n, .slice pA pn pc, .slice lA ln lc, .int .i64 tail]] w fun e w' => e = .returned (.bool false) ∧ Below w.heap.size w w' := by
  subst hn
  have hb : Below w.heap.size w (w.alloc (.cells #[.int .i64 5, .int .i64 0, .slice pA pn pc, .slice lA ln lc, .int .i64 tail] 25)) := (Below.refl _ _).alloc (Nat.le_refl _) _
  have HI := Lib.hid (refIs_any lA labels ln lc _ (hr.below hb) hm)
  have HH := Lib.hid (fun w2 (hb2 : Below w.heap.size w w2) => refHas_any lA labels [] ln lc w2 (hr.below hb2) hm)
  have e0 : bstr [] = ({ data := #[] } : ByteArray) := rfl
  rw [e0] at HH
  obtain ⟨is, his⟩ : ∃ is, isB labels = is := ⟨_, rfl⟩
  obtain ⟨has, hhas⟩ : ∃ has, decide (([] : Str) ∈ labels) = has := ⟨_, rfl⟩
  rw [his] at HI
  rw [hhas] at HH
  have HB := Lib.hid hb
  have t1 : ¬ tail < -1 := by omega
  obtain rfl : is = false := by rw [← his, hi]
  clear hb hr
  go_enter Tryz.func24, Tryz.ntmps24
  go_wp2_with fail
  refine HI.out.mono ?_
  rintro e w2 ⟨rfl, hb2⟩
  have HB2 := Lib.hid (below_then HB.out hb2)
  have c2 : w2.cell? ⟨w.heap.size, 2, none⟩ = some (.slice pA pn pc) := cell_below hb2 (cell_new w _ _ 2 rfl)
  have c3 : w2.cell? ⟨w.heap.size, 3, none⟩ = some (.slice lA ln lc) := cell_below hb2 (cell_new w _ _ 3 rfl)
  have c4 : w2.cell? ⟨w.heap.size, 4, none⟩ = some (.int .i64 tail) := cell_below hb2 (cell_new w _ _ 4 rfl)
  clear hb2
  go_wp2_with fail
  refine (HH.out w2 HB2.out).mono ?_
  rintro e w3 ⟨rfl, hb3⟩
  have HB3 := Lib.hid (below_then HB2.out hb3)
  have d2 := cell_below hb3 c2
  have d4 := cell_below hb3 c4
  clear hb3 c2 c3 c4
  go_wp2_with fail
  all_goals (go_returns; exact ⟨rfl, HB3.out⟩)

set_option maxRecDepth 100000 in
set_option maxHeartbeats 1000000 in
theorem fb5_has (n : Int) (pA : Option Addr) (pn pc : Nat) (lA : Option Addr) (ln lc : Nat) (labels : List Str) (tail : Int) (w : World) (hn : n = 0) (hr : Rd w 1 lA ln (strs labels)) (hm : ln ≤ maxLen) (ht : -1 ≤ tail) (hi : isB labels = true) (hh : ([] : Str) ∈ labels) :
    Calls Tryz.prog 24 #[.agg #[.int .i64 5, .int .i64 n, .slice pA pn pc, .slice lA ln lc, .int .i64 tail]] w fun e w' => e = .returned (.bool false) ∧ Below w.heap.size w w' := by
  subst hn
  have hb : Below w.heap.size w (w.alloc (.cells #[.int .i64 5, .int .i64 0, .slice pA pn pc, .slice lA ln lc, .int .i64 tail] 25)) := (Below.refl _ _).alloc (Nat.le_refl _) _
  have HI := Lib.hid (refIs_any lA labels ln lc _ (hr.below hb) hm)
  have HH := Lib.hid (fun w2 (hb2 : Below w.heap.size w w2) => refHas_any lA labels [] ln lc w2 (hr.below hb2) hm)
  have e0 : bstr [] = ({ data := #[] } : ByteArray) := rfl
  rw [e0] at HH
  obtain ⟨is, his⟩ : ∃ is, isB labels = is := ⟨_, rfl⟩
  obtain ⟨has, hhas⟩ : ∃ has, decide (([] : Str) ∈ labels) = has := ⟨_, rfl⟩
  rw [his] at HI
  rw [hhas] at HH
  have HB := Lib.hid hb
  have t1 : ¬ tail < -1 := by omega
  obtain rfl : is = true := by rw [← his, hi]
  obtain rfl : has = true := by rw [← hhas, decide_eq_true hh]
  clear hb hr
  go_enter Tryz.func24, Tryz.ntmps24
  go_wp2_with fail
  refine HI.out.mono ?_
  rintro e w2 ⟨rfl, hb2⟩
  have HB2 := Lib.hid (below_then HB.out hb2)
  have c2 : w2.cell? ⟨w.heap.size, 2, none⟩ = some (.slice pA pn pc) := cell_below hb2 (cell_new w _ _ 2 rfl)
  have c3 : w2.cell? ⟨w.heap.size, 3, none⟩ = some (.slice lA ln lc) := cell_below hb2 (cell_new w _ _ 3 rfl)
  have c4 : w2.cell? ⟨w.heap.size, 4, none⟩ = some (.int .i64 tail) := cell_below hb2 (cell_new w _ _ 4 rfl)
  clear hb2
  go_wp2_with fail
  refine (HH.out w2 HB2.out).mono ?_
  rintro e w3 ⟨rfl, hb3⟩
  have HB3 := Lib.hid (below_then HB2.out hb3)
  have d2 := cell_below hb3 c2
  have d4 := cell_below hb3 c4
  clear hb3 c2 c3 c4
  go_wp2_with fail
  all_goals (go_returns; exact ⟨rfl, HB3.out⟩)

set_option maxRecDepth 100000 in
set_option maxHeartbeats 1000000 in
theorem fb5_parts (n : Int) (pA : Option Addr) (pn pc : Nat) (lA : Option Addr) (ln lc : Nat) (labels : List Str) (tail : Int) (w : World) (hn : n = 0) (hr : Rd w 1 lA ln (strs labels)) (hm : ln ≤ maxLen) (ht : -1 ≤ tail) (hi : isB labels = true) (hh : ¬ ([] : Str) ∈ labels) (hp : ¬ pn = ln) :
    Calls Tryz.prog 24 #[.agg #[.int .i64 5, .int .i64 n, .slice pA pn pc, .slice lA ln lc, .int .i64 tail]] w fun e w' => e = .returned (.bool false) ∧ Below w.heap.size w w' := by
  subst hn
  have hb : Below w.heap.size w (w.alloc (.cells #[.int .i64 5, .int .i64 0, .slice pA pn pc, .slice lA ln lc, .int .i64 tail] 25)) := (Below.refl _ _).alloc (Nat.le_refl _) _
  have HI := Lib.hid (refIs_any lA labels ln lc _ (hr.below hb) hm)
  have HH := Lib.hid (fun w2 (hb2 : Below w.heap.size w w2) => refHas_any lA labels [] ln lc w2 (hr.below hb2) hm)
  have e0 : bstr [] = ({ data := #[] } : ByteArray) := rfl
  rw [e0] at HH
  obtain ⟨is, his⟩ : ∃ is, isB labels = is := ⟨_, rfl⟩
  obtain ⟨has, hhas⟩ : ∃ has, decide (([] : Str) ∈ labels) = has := ⟨_, rfl⟩
  rw [his] at HI
  rw [hhas] at HH
  have HB := Lib.hid hb
  have t1 : ¬ tail < -1 := by omega
  obtain rfl : is = true := by rw [← his, hi]
  obtain rfl : has = false := by rw [← hhas, decide_eq_false hh]
  have p1 : ((pn : Int) != (ln : Int)) = true := by rw [bne_iff_ne]; omega
  clear hb hr
  go_enter Tryz.func24, Tryz.ntmps24
  go_wp2_with fail
  refine HI.out.mono ?_
  rintro e w2 ⟨rfl, hb2⟩
  have HB2 := Lib.hid (below_then HB.out hb2)
  have c2 : w2.cell? ⟨w.heap.size, 2, none⟩ = some (.slice pA pn pc) := cell_below hb2 (cell_new w _ _ 2 rfl)
  have c3 : w2.cell? ⟨w.heap.size, 3, none⟩ = some (.slice lA ln lc) := cell_below hb2 (cell_new w _ _ 3 rfl)
  have c4 : w2.cell? ⟨w.heap.size, 4, none⟩ = some (.int .i64 tail) := cell_below hb2 (cell_new w _ _ 4 rfl)
  clear hb2
  go_wp2_with fail
  refine (HH.out w2 HB2.out).mono ?_
  rintro e w3 ⟨rfl, hb3⟩
  have HB3 := Lib.hid (below_then HB2.out hb3)
  have d2 := cell_below hb3 c2
  have d4 := cell_below hb3 c4
  clear hb3 c2 c3 c4
  go_wp2_with fail
  all_goals (go_returns; exact ⟨rfl, HB3.out⟩)

set_option maxRecDepth 100000 in
set_option maxHeartbeats 1000000 in
theorem fbX (kind : Int) (n : Int) (pA : Option Addr) (pn pc : Nat) (lA : Option Addr) (ln lc : Nat) (labels : List Str) (tail : Int) (w : World) (h1 : ¬ kind = 1) (h2 : ¬ kind = 2) (h3 : ¬ kind = 3) (h4 : ¬ kind = 4) (h5 : ¬ kind = 5) (h6 : ¬ kind = 6) (h7 : ¬ kind = 7) :
    Calls Tryz.prog 24 #[.agg #[.int .i64 kind, .int .i64 n, .slice pA pn pc, .slice lA ln lc, .int .i64 tail]] w fun e w' => e = .returned (.bool false) ∧ Below w.heap.size w w' := by
  have k1 : (kind == 1) = false := by rw [beq_eq_false_iff_ne]; exact h1
  have k2 : (kind == 2) = false := by rw [beq_eq_false_iff_ne]; exact h2
  have k3 : (kind == 3) = false := by rw [beq_eq_false_iff_ne]; exact h3
  have k4 : (kind == 4) = false := by rw [beq_eq_false_iff_ne]; exact h4
  have k5 : (kind == 5) = false := by rw [beq_eq_false_iff_ne]; exact h5
  have k6 : (kind == 6) = false := by rw [beq_eq_false_iff_ne]; exact h6
  have k7 : (kind == 7) = false := by rw [beq_eq_false_iff_ne]; exact h7
  have k8 : (kind != 7) = true := by rw [bne_iff_ne]; exact h7
  clear h1 h2 h3 h4 h5 h6 h7
  go_enter Tryz.func24, Tryz.ntmps24
  go_wp2_with fail
  all_goals (go_returns; exact ⟨rfl, (Below.refl _ _).alloc (Nat.le_refl _) _⟩)

theorem fine_bad (d : TyD) (w : World) (hr : Rd w 1 d.lA d.ln (strs d.labels)) (hm : d.ln ≤ maxLen) (h : d.fieldsB = false) :
    Calls Tryz.prog 24 #[.agg d.arr] w fun e w' => e = .returned (.bool false) ∧ Below w.heap.size w w' := by
  obtain ⟨kind, n, pA, pn, pc, lA, ln, lc, labels, tail⟩ := d
  unfold TyD.fieldsB TyD.bareB at h
  dsimp only at h hr hm ⊢
  by_cases k4 : kind = 4
  · subst k4
    simp only [true_or, or_true, if_true, Bool.and_eq_false_iff, Bool.not_eq_false', decide_eq_false_iff_not, decide_eq_true_eq] at h
    by_cases hn : n < 0
    · exact fb4_neg n pA pn pc lA ln lc labels tail w hn
    by_cases hn2 : 0 < n
    · exact fb4_pos n pA pn pc lA ln lc labels tail w hn2
    have hn3 : n = 0 := by omega
    by_cases ht : tail < -1
    · exact fb4_tail n pA pn pc lA ln lc labels tail w hn3 hr hm ht
    have ht2 : -1 ≤ tail := by omega
    cases hi : isB labels with
    | false => exact fb4_is n pA pn pc lA ln lc labels tail w hn3 hr hm ht2 hi
    | true =>
      by_cases hh : ([] : Str) ∈ labels
      · exact fb4_has n pA pn pc lA ln lc labels tail w hn3 hr hm ht2 hi hh
      by_cases hp : pn = ln
      · exfalso
        rw [hi] at h
        rcases h with (((h | h) | h) | h) | h
        · exact h hn3
        · exact h ht2
        · exact h hp
        · cases h
        · exact hh h
      · exact fb4_parts n pA pn pc lA ln lc labels tail w hn3 hr hm ht2 hi hh hp
  by_cases k5 : kind = 5
  · subst k5
    simp only [true_or, or_true, if_true, Bool.and_eq_false_iff, Bool.not_eq_false', decide_eq_false_iff_not, decide_eq_true_eq] at h
    by_cases hn : n < 0
    · exact fb5_neg n pA pn pc lA ln lc labels tail w hn
    by_cases hn2 : 0 < n
    · exact fb5_pos n pA pn pc lA ln lc labels tail w hn2
    have hn3 : n = 0 := by omega
    by_cases ht : tail < -1
    · exact fb5_tail n pA pn pc lA ln lc labels tail w hn3 hr hm ht
    have ht2 : -1 ≤ tail := by omega
    cases hi : isB labels with
    | false => exact fb5_is n pA pn pc lA ln lc labels tail w hn3 hr hm ht2 hi
    | true =>
      by_cases hh : ([] : Str) ∈ labels
      · exact fb5_has n pA pn pc lA ln lc labels tail w hn3 hr hm ht2 hi hh
      by_cases hp : pn = ln
      · exfalso
        rw [hi] at h
        rcases h with (((h | h) | h) | h) | h
        · exact h hn3
        · exact h ht2
        · exact h hp
        · cases h
        · exact hh h
      · exact fb5_parts n pA pn pc lA ln lc labels tail w hn3 hr hm ht2 hi hh hp
  rw [if_neg (by rintro (e | e); exact k4 e; exact k5 e)] at h
  by_cases k7 : kind = 7
  · subst k7
    simp only [true_or, or_true, if_true, if_false, Bool.and_eq_false_iff, decide_eq_false_iff_not] at h
    by_cases hn : n < 0
    · exact fb7_neg n pA pn pc lA ln lc labels tail w hn
    have hn3 : 0 ≤ n := by omega
    by_cases ht : tail = -1
    · by_cases hl : ln = 0
      · by_cases hp : pn = 0
        · exfalso
          rcases h with h | ((h | h) | h)
          · exact h hn3
          · exact h (by omega)
          · exact h hl
          · exact h ht
        · exact fb7_parts n pA pn pc lA ln lc labels tail w hn3 ht hl hp
      · exact fb7_lab n pA pn pc lA ln lc labels tail w hn3 ht hl
    · exact fb7_tail n pA pn pc lA ln lc labels tail w hn3 ht
  by_cases k3 : kind = 3
  · subst k3
    simp only [true_or, or_true, if_true, if_false, Bool.and_eq_false_iff, decide_eq_false_iff_not, show ¬ ((3 : Int) = 7) from by decide] at h
    by_cases hn : n < 0
    · exact fb3_neg n pA pn pc lA ln lc labels tail w hn
    by_cases hn2 : 0 < n
    · exact fb3_pos n pA pn pc lA ln lc labels tail w hn2
    have hn3 : n = 0 := by omega
    by_cases ht : tail = -1
    · by_cases hl : ln = 0
      · by_cases hp : pn = 2
        · exfalso
          rcases h with h | ((h | h) | h)
          · exact h hn3
          · exact h (by omega)
          · exact h hl
          · exact h ht
        · exact fb3_parts n pA pn pc lA ln lc labels tail w hn3 ht hl hp
      · exact fb3_lab n pA pn pc lA ln lc labels tail w hn3 ht hl
    · exact fb3_tail n pA pn pc lA ln lc labels tail w hn3 ht
  by_cases k6 : kind = 6
  · subst k6
    simp only [true_or, or_true, if_true, if_false, Bool.and_eq_false_iff, decide_eq_false_iff_not, show ¬ ((6 : Int) = 7) from by decide, show ¬ ((6 : Int) = 3) from by decide] at h
    by_cases hn : n < 0
    · exact fb6_neg n pA pn pc lA ln lc labels tail w hn
    by_cases hn2 : 0 < n
    · exact fb6_pos n pA pn pc lA ln lc labels tail w hn2
    have hn3 : n = 0 := by omega
    by_cases ht : tail = -1
    · by_cases hl : ln = 0
      · by_cases hp : pn = 1
        · exfalso
          rcases h with h | ((h | h) | h)
          · exact h hn3
          · exact h (by omega)
          · exact h hl
          · exact h ht
        · exact fb6_parts n pA pn pc lA ln lc labels tail w hn3 ht hl hp
      · exact fb6_lab n pA pn pc lA ln lc labels tail w hn3 ht hl
    · exact fb6_tail n pA pn pc lA ln lc labels tail w hn3 ht
  by_cases k1 : kind = 1
  · subst k1
    simp only [true_or, or_true, if_true, if_false, Bool.and_eq_false_iff, decide_eq_false_iff_not, show ¬ ((1 : Int) = 7) from by decide, show ¬ ((1 : Int) = 3) from by decide, show ¬ ((1 : Int) = 6) from by decide] at h
    by_cases hn : n < 0
    · exact fb1_neg n pA pn pc lA ln lc labels tail w hn
    by_cases hn2 : 0 < n
    · exact fb1_pos n pA pn pc lA ln lc labels tail w hn2
    have hn3 : n = 0 := by omega
    by_cases ht : tail = -1
    · by_cases hl : ln = 0
      · by_cases hp : pn = 0
        · exfalso
          rcases h with h | ((h | h) | h)
          · exact h hn3
          · exact h (by omega)
          · exact h hl
          · exact h ht
        · exact fb1_parts n pA pn pc lA ln lc labels tail w hn3 ht hl hp
      · exact fb1_lab n pA pn pc lA ln lc labels tail w hn3 ht hl
    · exact fb1_tail n pA pn pc lA ln lc labels tail w hn3 ht
  by_cases k2 : kind = 2
  · subst k2
    simp only [true_or, or_true, if_true, if_false, Bool.and_eq_false_iff, decide_eq_false_iff_not, show ¬ ((2 : Int) = 7) from by decide, show ¬ ((2 : Int) = 3) from by decide, show ¬ ((2 : Int) = 6) from by decide] at h
    by_cases hn : n < 0
    · exact fb2_neg n pA pn pc lA ln lc labels tail w hn
    by_cases hn2 : 0 < n
    · exact fb2_pos n pA pn pc lA ln lc labels tail w hn2
    have hn3 : n = 0 := by omega
    by_cases ht : tail = -1
    · by_cases hl : ln = 0
      · by_cases hp : pn = 0
        · exfalso
          rcases h with h | ((h | h) | h)
          · exact h hn3
          · exact h (by omega)
          · exact h hl
          · exact h ht
        · exact fb2_parts n pA pn pc lA ln lc labels tail w hn3 ht hl hp
      · exact fb2_lab n pA pn pc lA ln lc labels tail w hn3 ht hl
    · exact fb2_tail n pA pn pc lA ln lc labels tail w hn3 ht
  exact fbX kind n pA pn pc lA ln lc labels tail w k1 k2 k3 k4 k5 k6 k7
end Go.Proofs.YtklandpagieapaaGreatDoor
