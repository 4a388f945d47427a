/-
  CodeChecks holds: for every input the law returns true, and each argument reads afterwards as it read before. No condition.
-/
import Derived.Test.YthdnnlelmelegaaCodeUpB
import Derived.Test.YthdnnlelmelegaaCodeChecksC
namespace Go.Proofs.Ythdnnlelmelegaa
open Go.ChangeShapes Go.WideShapes Go.ChangeAt Go.RowKit
set_option linter.unusedVariables false

theorem codeChecks_walk : LawWalkZ 3 [26, 26] := by
  intro H enc W base args ds p hval hA hlt hz
  obtain ⟨v0, vs0, d0, ds0, p0, q0, hargs, rfl, rfl, h0, r0⟩ := trodAll_cons hA
  obtain ⟨v1, vs1, d1, ds1, p1, q1, rfl, rfl, rfl, h1, r1⟩ := trodAll_cons r0
  obtain ⟨rfl, rfl, rfl⟩ := trodAll_nil r1
  obtain rfl : args = #[v0, v1] := by cases args; simp_all
  have hw : ∀ q ∈ DataW.weights Try.prog 26 d0, q ≤ 140737488351232 := fun q hq => by
    have := List.all_eq_true.1 hz q (by simp only [DataW.weightsEach, List.mem_append]; exact .inl hq)
    have h2 := of_decide_eq_true this
    simpa only [reachBytes] using h2
  have hw1 : ∀ q ∈ DataW.weights Try.prog 26 d1, q ≤ 140737488351232 := fun q hq => by
    have := List.all_eq_true.1 hz q (by simp only [DataW.weightsEach, List.mem_append]; exact .inr (.inl hq))
    have h2 := of_decide_eq_true this
    simpa only [reachBytes] using h2
  obtain ⟨m, rfl, hm⟩ := open_img (hval 0 _ v0 rfl rfl) h0 hw
  obtain ⟨n, rfl, hn⟩ := open_img (hval 1 _ v1 rfl rfl) h1 hw1
  exact checks_any up_any m n W hm hn

theorem codeChecks_holds : Rows.CodeChecksSaid :=
  OpenClaim.holds_of_wide 3 Try.f3 rfl rfl rfl rfl rfl rfl rfl ⟨rfl, rfl, rfl, rfl, rfl⟩ rfl rfl rfl rfl rfl (by kernel_rfl) Try.func3 (by kernel_rfl)
    (of_decide_eq_true (by kernel_rfl)) (by unfold Func.isWrapper; first | (rw [if_pos (by decide +kernel)]; kernel_rfl) | (rw [if_neg (by decide +kernel)]; exact ⟨rfl, rfl⟩))
    (fun os started H enc _ => law_liftedZ (f := Try.f3) (s := Rows.codeChecksSpec) started Try.func3 (by kernel_rfl) (by rw [Try.params3]) rfl rfl
      (fun H ds h => by match ds, h with | [_, _], _ => rfl) (by kernel_rfl)
      (ChangeSpec.witness6 (enc := enc) (C := Try.checked) false ⟨#[], #[.agg #[.slice none 0 0, .slice none 0 0, .slice none 0 0], .agg #[.slice none 0 0, .slice none 0 0, .slice none 0 0]], []⟩ 8 (by kernel_rfl) (by kernel_rfl) (by kernel_rfl) (by kernel_rfl)) codeChecks_walk)
#print axioms codeChecks_holds
end Go.Proofs.Ythdnnlelmelegaa
