/-
  The law HeapKeeps: what a collection keeps, in the law's words.
-/
import Derived.Test.YthblcfhflkapmaaHpAO
namespace Go.Proofs.Ythblcfhflkapmaa
open Go Go.ChangeShapes Go.WideShapes Go.ChangeAt Go.RowKit Go.Sort
set_option linter.unusedVariables false
set_option linter.unusedSimpArgs false

theorem keeps_at {L : List Ob} {roots : List Wd} (hW : Wf L) (hr : ∀ u ∈ roots, Fine L u) {k : Nat} {v : Wd} (hk : (collR L roots)[k]? = some v) (far : Nat) : ∃ u, roots[k]? = some u ∧ walkP (collO L roots) far v = walkP L far u := by
  unfold collR at hk
  rw [List.getElem?_map] at hk
  cases hu : roots[k]? with
  | none => rw [hu] at hk; cases hk
  | some u =>
    rw [hu] at hk
    injection hk with hk
    subst hk
    exact ⟨u, rfl, walk_keeps (fun j hj w hw => ordF_closed hW.ob j hj w hw) far u (roots_in hr u (List.mem_of_getElem? hu))⟩
theorem coll_none (L : List Ob) : sizes (collO L []) = 0 := by
  have h : ∀ n, ord L [] n = [] := by
    intro n
    induction n with
    | zero => rfl
    | succ n ih => rw [ord, ih]; rfl
  unfold collO ordF
  rw [h]
  rfl
theorem again_law {L : List Ob} {roots : List Wd} (hW : Wf L) (hr : ∀ u ∈ roots, Fine L u) : sizes (collO (collO L roots) (collR L roots)) = sizes (collO L roots) := again_sizes hW.ob hr
end Go.Proofs.Ythblcfhflkapmaa
