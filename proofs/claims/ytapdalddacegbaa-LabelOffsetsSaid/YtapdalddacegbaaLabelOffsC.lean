/-
  LabelOffsets holds: for every input the law returns true, and each argument reads afterwards as it read before. No condition.
-/
import Derived.Test.YtapdalddacegbaaLabelOffs
import Derived.Test.YtapdalddacegbaaStrOpen
import Derived.Test.YtapdalddacegbaaShell
namespace Go.Proofs.Ytapdalddacegbaa
open Go.ChangeShapes Go.WideShapes Go.ChangeAt Go.RowKit
set_option linter.unusedVariables false

theorem labelOffsets_walk : LawWalk 4 [22, 22, 9] := by
  intro H enc W base args ds p hval hA hlt
  obtain ⟨v0, vs0, d0, ds0, p0, q0, hargs, rfl, rfl, h0, r0⟩ := trodAll_cons hA
  obtain ⟨v1, vs1, d1, ds1, p1, q1, rfl, rfl, rfl, h1, r1⟩ := trodAll_cons r0
  obtain ⟨v2, vs2, d2, ds2, p2, q2, rfl, rfl, rfl, h2, r2⟩ := trodAll_cons r1
  obtain ⟨rfl, rfl, rfl⟩ := trodAll_nil r2
  obtain rfl : args = #[v0, v1, v2] := by cases args; simp_all
  obtain ⟨A, n, c, a, rfl, hnc, hc, hra⟩ := open_strs (hval 0 _ v0 rfl rfl) h0
  obtain ⟨B, m, d, b, rfl, hmd, hd, hrb⟩ := open_strs (hval 1 _ v1 rfl rfl) h1
  obtain ⟨s, rfl, hs⟩ := open_str (hval 2 _ v2 rfl rfl) h2
  by_cases ha : smallL a = true
  · by_cases hb : smallL b = true
    · by_cases hl : s.length ≤ 100
      · exact offs_in A B a b s n c m d W (by omega) (by omega) hra hrb ha hb hl
      · exact offs_out A B a b s n c m d W (by omega) (by omega) hra hrb (.inr (.inr (by omega)))
    · exact offs_out A B a b s n c m d W (by omega) (by omega) hra hrb (.inr (.inl (by simpa using hb)))
  · exact offs_out A B a b s n c m d W (by omega) (by omega) hra hrb (.inl (by simpa using ha))

theorem labelOffsets_holds : Rows.LabelOffsetsSaid :=
  OpenClaim.holds_of_wide 4 Try.f4 rfl rfl rfl rfl rfl rfl rfl ⟨rfl, rfl, rfl, rfl, rfl⟩ rfl rfl rfl rfl rfl (by kernel_rfl) Try.func4 (by kernel_rfl)
    (of_decide_eq_true (by kernel_rfl)) (by unfold Func.isWrapper; first | (rw [if_pos (by decide +kernel)]; kernel_rfl) | (rw [if_neg (by decide +kernel)]; exact ⟨rfl, rfl⟩))
    (fun os started H enc _ => law_lifted (f := Try.f4) (s := Rows.labelOffsetsSpec) started Try.func4 (by kernel_rfl) (by rw [Try.params4]) rfl rfl
      (fun H ds h => by match ds, h with | [_, _, _], _ => rfl) (by kernel_rfl)
      (ChangeSpec.witness6 (enc := enc) (C := Try.checked) false ⟨#[], #[.slice none 0 0, .slice none 0 0, .string ByteArray.empty], []⟩ 8 (by kernel_rfl) (by kernel_rfl) (by kernel_rfl) (by kernel_rfl)) labelOffsets_walk)
#print axioms labelOffsets_holds
end Go.Proofs.Ytapdalddacegbaa
