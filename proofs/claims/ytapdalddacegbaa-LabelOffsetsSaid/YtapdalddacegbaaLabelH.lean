/-
  The head of the laws of layer 9: the document's example.
-/
import Derived.Test.YtapdalddacegbaaLabelG
namespace Go.Proofs.Ytapdalddacegbaa
open Go.ChangeShapes Go.WideShapes Go.ChangeAt Go.RowKit
set_option linter.unusedVariables false

theorem offset_ex (A : Option Addr) (c : Nat) (w : World) (hr : Rd w 1 A 3 (strs [[97], [98], [100]])) :
    Calls Try.prog 14 #[.slice A 3 c, .string { data := #[99] }] w fun e w' => e = .returned (.int .i64 2) ∧ Below w.heap.size w w' := by
  have h := offset_any A [[97], [98], [100]] [99] 3 c w hr (by omega) (by simp [inOrder, slt, Op.bytesLess])
  rw [show ((offs [[97], [98], [100]] [99] : Nat) : Int) = 2 from by simp [offs, slt, Op.bytesLess]] at h
  exact h
theorem is_nil (w : World) : Calls Try.prog 8 #[.slice none 0 0] w fun e w' => e = .returned (.bool true) ∧ Below w.heap.size w w' :=
  is_any none [] 0 0 w (Rd.nil _ _ _) (by simp [maxLen])
theorem is_ba (A : Option Addr) (c : Nat) (w : World) (hr : Rd w 1 A 2 (strs [[98], [97]])) : Calls Try.prog 8 #[.slice A 2 c] w fun e w' => e = .returned (.bool false) ∧ Below w.heap.size w w' := by
  have h := is_any A [[98], [97]] 2 c w hr (by simp [maxLen])
  rw [show isB [[98], [97]] = false from by rfl] at h
  exact h
theorem of_aa (A : Option Addr) (c : Nat) (w : World) (hr : Rd w 1 A 2 (strs [[97], [97]])) : Calls Try.prog 11 #[.slice A 2 c] w fun e w' => ∃ B d, e = .returned (.slice B 1 d) ∧ Below w.heap.size w w' := by
  refine (of_any A [[97], [97]] 2 c w hr (by omega)).mono ?_
  have e : setOf [[97], [97]] = [[97]] := inOrder_ext (setOf_order _) (by simp [inOrder]) (by intro x; rw [setOf_mem]; simp)
  rw [e]
  rintro e w' ⟨v, rfl, hown, hb⟩
  obtain ⟨B, d, rfl, _⟩ := own_cap hown
  exact ⟨B, d, rfl, hb⟩

theorem up_any (w : World) : Calls Try.prog 5 #[] w fun e w' => e = .returned (.bool true) ∧ Below w.heap.size w w' := by
  go_enter Try.func5, Try.ntmps5
  go_wp2_with fail
  have r1 : Rd (w.alloc (.cells #[.string { data := #[97] }, .string { data := #[98] }, .string { data := #[100] }] 9)) 1 (some ⟨w.heap.size, 0, none⟩) 3 (strs [[97], [98], [100]]) := Rd.lit w _ _ rfl
  have b1 : Below w.heap.size w (w.alloc (.cells #[.string { data := #[97] }, .string { data := #[98] }, .string { data := #[100] }] 9)) := (Below.refl _ _).alloc (Nat.le_refl _) _
  refine (offset_ex _ 3 _ r1).mono ?_
  rintro e w1 ⟨rfl, hb1⟩
  have b2 := below_then b1 hb1
  clear r1 b1 hb1
  go_wp2_with fail
  refine (is_nil _).mono ?_
  rintro e w2 ⟨rfl, hb2⟩
  have b3 := below_then b2 hb2
  clear b2 hb2
  go_wp2_with fail
  have r4 : Rd (w2.alloc (.cells #[.string { data := #[98] }, .string { data := #[97] }] 9)) 1 (some ⟨w2.heap.size, 0, none⟩) 2 (strs [[98], [97]]) := Rd.lit w2 _ _ rfl
  have b4 : Below w.heap.size w (w2.alloc (.cells #[.string { data := #[98] }, .string { data := #[97] }] 9)) := b3.alloc b3.size _
  refine (is_ba _ 2 _ r4).mono ?_
  rintro e w5 ⟨rfl, hb5⟩
  have b5 := below_then b4 hb5
  clear b3 b4 hb5 r4
  go_wp2_with fail
  have r6 : Rd (w5.alloc (.cells #[.string { data := #[97] }, .string { data := #[97] }] 9)) 1 (some ⟨w5.heap.size, 0, none⟩) 2 (strs [[97], [97]]) := Rd.lit w5 _ _ rfl
  have b6 : Below w.heap.size w (w5.alloc (.cells #[.string { data := #[97] }, .string { data := #[97] }] 9)) := b5.alloc b5.size _
  refine (of_aa _ 2 _ r6).mono ?_
  rintro e w7 ⟨B, d, rfl, hb7⟩
  have b7 := below_then b6 hb7
  clear b5 b6 hb7 r6
  go_wp2_with fail
  go_returns
  exact ⟨rfl, b7⟩
end Go.Proofs.Ytapdalddacegbaa
