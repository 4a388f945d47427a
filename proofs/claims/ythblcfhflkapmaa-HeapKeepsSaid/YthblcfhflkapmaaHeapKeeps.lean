/-
  HeapKeeps holds: for every input the law returns true, and each argument reads afterwards as it read before. No condition.
-/
import Derived.Test.YthblcfhflkapmaaHpAV
import Derived.Test.YthblcfhflkapmaaShell
namespace Go.Proofs.Ythblcfhflkapmaa
open Go.ChangeShapes Go.WideShapes Go.ChangeAt Go.RowKit
set_option linter.unusedVariables false

set_option maxRecDepth 100000 in
theorem heapKeeps_walk : LawWalk 4 [3, 22, 66] := by
  intro H enc W base args ds p hval hA hlt
  obtain ⟨v0, vs0, d0, ds0, p0, q0, hargs, rfl, rfl, h0, r0⟩ := trodAll_cons hA
  obtain ⟨v1, vs1, d1, ds1, p1, q1, rfl, rfl, rfl, h1, r1⟩ := trodAll_cons r0
  obtain ⟨v2, vs2, d2, ds2, p2, q2, rfl, rfl, rfl, h2, r2⟩ := trodAll_cons r1
  obtain ⟨rfl, rfl, rfl⟩ := trodAll_nil r2
  obtain rfl : args = #[v0, v1, v2] := by cases args; simp_all
  obtain ⟨f0, k0⟩ := h0
  obtain ⟨f1, k1⟩ := h1
  obtain ⟨f2, k2⟩ := h2
  have s1 := hval 1 _ v1 rfl rfl
  have s2 := hval 2 _ v2 rfl rfl
  have s0 := hval 0 _ v0 rfl rfl
  obtain ⟨half, rfl⟩ := okWide_int Try.underlying3 s0
  obtain ⟨A1, n1, c1, rfl⟩ := okWide_slice Try.underlying22 s1
  obtain ⟨A2, n2, c2, rfl⟩ := okWide_slice Try.underlying66 s2
  obtain ⟨A1', c1', ds, e1, hd⟩ := open_deeds k1
  obtain ⟨A2', c2', ks, e2, hk, hkr⟩ := open_ints Try.underlying66 Try.underlying3 (by kernel_rfl) k2
  simp [Value.cells] at e1 e2
  obtain ⟨rfl, rfl, rfl⟩ := e1
  obtain ⟨rfl, rfl, rfl⟩ := e2
  by_cases hbig : (decide (3000 < half) || decide (40 < (ds.length : Int)) || decide (10 < (ks.length : Int))) = true
  · exact keeps_big W half A1 A2 ds.length ks.length c1 c2 hbig
  · simp only [Bool.or_eq_true, decide_eq_true_eq, not_or] at hbig
    obtain ⟨⟨b1, b2⟩, b3⟩ := hbig
    by_cases hh : half < 1
    · exact keeps_none W half A1 A2 ds.length ks.length c1 c2 hh (by omega) (by omega)
    · exact keeps_main W half A1 A2 c1 c2 ds ks ⟨by omega, by omega⟩ (by omega) (by omega) hd hk hkr
set_option maxRecDepth 100000 in
theorem heapKeeps_holds : Rows.HeapKeepsSaid :=
  OpenClaim.holds_of_wide 4 Try.f4 rfl rfl rfl rfl rfl rfl rfl ⟨rfl, rfl, rfl, rfl, rfl⟩ rfl rfl rfl rfl rfl (by kernel_rfl) Try.func4 (by kernel_rfl)
    (of_decide_eq_true (by kernel_rfl)) (by unfold Func.isWrapper; first | (rw [if_pos (by decide +kernel)]; kernel_rfl) | (rw [if_neg (by decide +kernel)]; exact ⟨rfl, rfl⟩))
    (fun os started H enc _ => law_lifted (f := Try.f4) (s := Rows.heapKeepsSpec) started Try.func4 (by kernel_rfl) (by rw [Try.params4]) rfl rfl
      (fun H ds h => by match ds, h with | [_, _, _], _ => rfl) (by kernel_rfl)
      (ChangeSpec.witness6 (enc := enc) (C := Try.checked) false ⟨#[], #[.int .i64 0, .slice none 0 0, .slice none 0 0], []⟩ 8 (by kernel_rfl) (by kernel_rfl) (by kernel_rfl) (by kernel_rfl)) heapKeeps_walk)
#print axioms heapKeeps_holds
end Go.Proofs.Ythblcfhflkapmaa
