/-
  A region that draws its order: what its guards leave out.
-/
import Derived.Test.YtpnihimoekkepaaBase
import Derived.Lib.QuietBelow
namespace Go.Proofs.Ytpnihimoekkepaa
open Go.ChangeShapes Go.WideShapes Go.ChangeAt Go.RowKit

/-- An operation that its guard leaves out, its slot empty already. -/
theorem wpQuiet_skip {P : Program} {ops : Array Oper} {C : World → Prop} {Q : Act → Prop} {a : Act} {o : Oper} {rest : List Oper} (h1 : Region.wanted o (yielded ops a.tmps) = false) (h2 : a.put o.dst undef = a) (h : wpQuiet P ops C Q rest a) : wpQuiet P ops C Q (o :: rest) a := by
  unfold wpQuiet
  rw [if_neg (by rw [h1]; simp), h2]
  exact h
end Go.Proofs.Ytpnihimoekkepaa
