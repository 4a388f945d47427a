/-
  WordBack holds: for every input the law returns true, and each argument reads afterwards as it read before. No condition.
-/
import Derived.Test.YtjhkblaplfhfcaaWordL
import Derived.Test.YtjhkblaplfhfcaaWordOpen
import Derived.Test.YtjhkblaplfhfcaaShell
namespace Go.Proofs.Ytjhkblaplfhfcaa
open Go.ChangeShapes Go.WideShapes Go.ChangeAt Go.RowKit
set_option linter.unusedVariables false

theorem wordBack_walk : LawWalk 5 [42, 3, 3, 23] := by
  intro H enc W base args ds p hval hA hlt
  obtain ⟨v0, vs0, d0, ds0, p0, q0, hargs, rfl, rfl, h0, r0⟩ := trodAll_cons hA
  obtain ⟨v1, vs1, d1, ds1, p1, q1, rfl, rfl, rfl, h1, r1⟩ := trodAll_cons r0
  obtain ⟨v2, vs2, d2, ds2, p2, q2, rfl, rfl, rfl, h2, r2⟩ := trodAll_cons r1
  obtain ⟨v3, vs3, d3, ds3, p3, q3, rfl, rfl, rfl, h3, r3⟩ := trodAll_cons r2
  obtain ⟨rfl, rfl, rfl⟩ := trodAll_nil r3
  obtain rfl : args = #[v0, v1, v2, v3] := by cases args; simp_all
  obtain ⟨A, n, c, b, rfl, hnc, hc, hn, hrb⟩ := open_u8s (hval 0 _ v0 rfl rfl) h0
  obtain ⟨k, rfl, rfl, rfl, _⟩ := open_int Try.underlying3 (hval 1 _ v1 rfl rfl) h1
  obtain ⟨s, rfl, rfl, rfl, _⟩ := open_int Try.underlying3 (hval 2 _ v2 rfl rfl) h2
  obtain ⟨x0, x1, y0, y1, m, rfl, rfl, rfl, e0, e1⟩ := Joins.open_agg2 Try.underlying23 (by kernel_rfl) (by kernel_rfl) (hval 3 _ v3 rfl rfl) h3
  obtain ⟨pt, hb, _⟩ := DataW.trod_bool Try.underlying4 e0
  obtain ⟨x, hm, _⟩ := DataW.trod_int Try.underlying2 e1
  simp only [List.cons.injEq, and_true] at hb hm
  subst hb
  subst hm
  by_cases hbig : 2000 < n
  · exact back_big A n c k s pt x hbig (by omega) W
  · exact back_small A b n c k s pt x hn hnc (by omega) W hrb

theorem wordBack_holds : Rows.WordBackSaid :=
  OpenClaim.holds_of_wide 5 Try.f5 rfl rfl rfl rfl rfl rfl rfl ⟨rfl, rfl, rfl, rfl, rfl⟩ rfl rfl rfl rfl rfl (by kernel_rfl) Try.func5 (by kernel_rfl)
    (of_decide_eq_true (by kernel_rfl)) (by unfold Func.isWrapper; first | (rw [if_pos (by decide +kernel)]; kernel_rfl) | (rw [if_neg (by decide +kernel)]; exact ⟨rfl, rfl⟩))
    (fun os started H enc _ => law_lifted (f := Try.f5) (s := Rows.wordBackSpec) started Try.func5 (by kernel_rfl) (by rw [Try.params5]) rfl rfl
      (fun H ds h => by match ds, h with | [_, _, _, _], _ => rfl) (by kernel_rfl)
      (ChangeSpec.witness6 (enc := enc) (C := Try.checked) false ⟨#[], #[.slice none 0 0, .int .i64 0, .int .i64 0, .agg #[.bool false, .int .i64 0]], []⟩ 8 (by kernel_rfl) (by kernel_rfl) (by kernel_rfl) (by kernel_rfl)) wordBack_walk)
#print axioms wordBack_holds
end Go.Proofs.Ytjhkblaplfhfcaa
