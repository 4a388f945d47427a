/-
  WordTells holds: for every input the law returns true, and each argument reads afterwards as it read before. No condition.
-/
import Derived.Test.YtjhkblaplfhfcaaWordG
import Derived.Test.YtjhkblaplfhfcaaShell
import Derived.Lib.SmallJoins
namespace Go.Proofs.Ytjhkblaplfhfcaa
open Go.ChangeShapes Go.WideShapes Go.ChangeAt Go.RowKit
set_option linter.unusedVariables false

theorem tells_any (k s : Int) (p : Bool) (v n pl : Int) (w : World) :
    Calls Try.prog 3 #[.int .i64 k, .int .i64 s, .agg #[.bool p, .int .i64 v], .int .i64 n, .int .i64 pl] w fun e w' => e = .returned (.bool true) ∧ Below w.heap.size w w' := by
  by_cases hk : headOk k s
  · cases p
    · by_cases hp : isHead false v
      · exact tells_yes_head k s v n pl hk hp.2.1 hp.2.2 w
      · exact tells_yes_int k s v n pl hk hp w
    · exact tells_yes_ptr k s v n pl hk (fun h => by cases h.1) w
  · cases p
    · by_cases hp : isHead false v
      · exact tells_no_head k s v n pl hk hp.2.1 hp.2.2 w
      · exact tells_no_int k s v n pl hk hp w
    · exact tells_no_ptr k s v n pl hk (fun h => by cases h.1) w

theorem wordTells_walk : LawWalk 3 [3, 3, 23, 2, 3] := by
  intro H enc W base args ds p hval hA hlt
  obtain ⟨v0, vs0, d0, ds0, p0, q0, hargs, rfl, rfl, h0, r0⟩ := trodAll_cons hA
  obtain ⟨v1, vs1, d1, ds1, p1, q1, rfl, rfl, rfl, h1, r1⟩ := trodAll_cons r0
  obtain ⟨v2, vs2, d2, ds2, p2, q2, rfl, rfl, rfl, h2, r2⟩ := trodAll_cons r1
  obtain ⟨v3, vs3, d3, ds3, p3, q3, rfl, rfl, rfl, h3, r3⟩ := trodAll_cons r2
  obtain ⟨v4, vs4, d4, ds4, p4, q4, rfl, rfl, rfl, h4, r4⟩ := trodAll_cons r3
  obtain ⟨rfl, rfl, rfl⟩ := trodAll_nil r4
  obtain rfl : args = #[v0, v1, v2, v3, v4] := by cases args; simp_all
  obtain ⟨a0, rfl, rfl, rfl, w0⟩ := open_int Try.underlying3 (hval 0 _ v0 rfl rfl) h0
  obtain ⟨a1, rfl, rfl, rfl, w1⟩ := open_int Try.underlying3 (hval 1 _ v1 rfl rfl) h1
  obtain ⟨x0, x1, y0, y1, n, rfl, rfl, rfl, e0, e1⟩ := Joins.open_agg2 Try.underlying23 (by kernel_rfl) (by kernel_rfl) (hval 2 _ v2 rfl rfl) h2
  obtain ⟨b, hb, _⟩ := DataW.trod_bool Try.underlying4 e0
  obtain ⟨m, hm, _⟩ := DataW.trod_int Try.underlying2 e1
  simp only [List.cons.injEq, and_true] at hb hm
  subst hb
  subst hm
  obtain ⟨a3, rfl, rfl, rfl, w3⟩ := open_int Try.underlying2 (hval 3 _ v3 rfl rfl) h3
  obtain ⟨a4, rfl, rfl, rfl, w4⟩ := open_int Try.underlying3 (hval 4 _ v4 rfl rfl) h4
  exact tells_any a0 a1 b m a3 a4 W

theorem wordTells_holds : Rows.WordTellsSaid :=
  OpenClaim.holds_of_wide 3 Try.f3 rfl rfl rfl rfl rfl rfl rfl ⟨rfl, rfl, rfl, rfl, rfl⟩ rfl rfl rfl rfl rfl (by kernel_rfl) Try.func3 (by kernel_rfl)
    (of_decide_eq_true (by kernel_rfl)) (by unfold Func.isWrapper; first | (rw [if_pos (by decide +kernel)]; kernel_rfl) | (rw [if_neg (by decide +kernel)]; exact ⟨rfl, rfl⟩))
    (fun os started H enc _ => law_lifted (f := Try.f3) (s := Rows.wordTellsSpec) started Try.func3 (by kernel_rfl) (by rw [Try.params3]) rfl rfl
      (fun H ds h => by match ds, h with | [_, _, _, _, _], _ => rfl) (by kernel_rfl)
      (ChangeSpec.witness6 (enc := enc) (C := Try.checked) false ⟨#[], #[.int .i64 0, .int .i64 0, .agg #[.bool false, .int .i64 0], .int .i64 0, .int .i64 0], []⟩ 8 (by kernel_rfl) (by kernel_rfl) (by kernel_rfl) (by kernel_rfl)) wordTells_walk)
#print axioms wordTells_holds
end Go.Proofs.Ytjhkblaplfhfcaa
