/-
  Quoted texts, by the document's answer.
-/
import Derived.Test.YtaglmmcjhlehjaaDoorLexQ
import Derived.Laws.Strings2
namespace Go.Proofs.YtaglmmcjhlehjaaDoor
open Go.ChangeShapes Go.WideShapes Go.ChangeAt Go.RowKit
set_option linter.unusedVariables false
set_option linter.unusedSimpArgs false

theorem bstr_app (a b : Str) : bstr a ++ bstr b = bstr (a ++ b) := by
  apply ByteArray.ext
  simp [bstr]
theorem bstr_part (s : Str) (i j : Nat) : (bstr s).extract i j = bstr ((s.drop i).take (j - i)) := by
  apply ByteArray.ext
  simp [bstr, List.extract_toArray, List.extract_eq_take_drop]
end Go.Proofs.YtaglmmcjhlehjaaDoor
