/-
  Texts and lists of labels that are not great.
-/
import Derived.Test.YtaglmmcjhlehjaaDoorShMN
import Derived.Test.YtaglmmcjhlehjaaDoorExD
namespace Go.Proofs.YtaglmmcjhlehjaaDoor
open Go.RowKit
set_option linter.unusedVariables false

theorem tokB_nil (k : Int) : tokB [] k = false := rfl
/-- Texts and lists of labels are not great. -/
inductive Ex.Sm : Ex → Prop
  | mk (d : ExD) (l : List Ex) (hs : d.s.length ≤ 3000000) (hl : d.ln ≤ 3000000) (sub : ∀ x ∈ l, Ex.Sm x) : Ex.Sm (.mk d l)
theorem Ex.Sm.s {e : Ex} (h : e.Sm) : e.d.s.length ≤ 3000000 := by cases h; assumption
theorem Ex.Sm.ln {e : Ex} (h : e.Sm) : e.d.ln ≤ 3000000 := by cases h; assumption
theorem Ex.Sm.sub {e : Ex} (h : e.Sm) : ∀ x ∈ e.l, Ex.Sm x := by cases h; assumption
end Go.Proofs.YtaglmmcjhlehjaaDoor
