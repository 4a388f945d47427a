/-
  The law: what a Set comes to, as far as HeapKeeps looks.
-/
import Derived.Test.YthblcfhflkapmaaHpAM
namespace Go.Proofs.Ythblcfhflkapmaa
open Go Go.ChangeShapes Go.WideShapes Go.ChangeAt Go.RowKit Go.Sort
set_option linter.unusedVariables false
set_option linter.unusedSimpArgs false

section
variable {w : World} {B hb : Nat} {size runs : Int} {L : List Ob} {V G V' G' : Value}
theorem Set_sum (h : CH w B hb size runs L V G V' G') (hW : Wf L) (hBw : B ≤ w.heap.size) (hs : sizes L ≤ 4000000) (p i : Int) (u : Wd) (hu : Fine L u) :
    Calls Try.prog 15 #[.pointer (some ⟨hb, 0, none⟩), .int .i64 p, .int .i64 i, .agg #[.bool u.ptr, .int .i64 u.v]] w fun e w' => ∃ v L', e = .returned v ∧ CH w' B hb size runs L' V G V' G' ∧ Wf L' ∧ sizes L' = sizes L ∧ (∀ x, Fine L x → Fine L' x) ∧ Tr w (Nh hb V G V' G') w' (Nh hb V G V' G') ∧ Below B w w' := by
  have hf : fineB L u = true := (fineB_iff L u).2 hu
  rcases Bool.eq_false_or_eq_true (wordB L p i) with q | q
  · obtain ⟨j, k, x, h1, rfl, h2, rfl, hj, _⟩ := wordB_some q
    have hk := (List.getElem?_eq_some_iff.1 h2).1
    have ho := ob_get hj
    refine (Set_yes h hW hs hBw j k u hj hk hu).mono ?_
    rintro e w' ⟨rfl, q1, q2, q3⟩
    exact ⟨_, _, rfl, q1, hW.setw ho hu, sizes_setw ho (by simp), fun x hx => fine_setw ho (by simp) hx, q2, q3⟩
  · refine (Set_no h hW hs p i u (by rw [q]; rfl)).mono ?_
    rintro e w' ⟨rfl, hb1⟩
    exact ⟨_, L, rfl, h.below hb1, hW, rfl, fun x hx => hx, Tr.below hb1, hb1.mono hBw⟩
end
end Go.Proofs.Ythblcfhflkapmaa
