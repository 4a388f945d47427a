/-
  Errors that are numbers of one type, held against each other.
-/
import Derived.Test.YthblcfhflkapmaaBase
import Derived.LaidEql
namespace Go.Proofs.Ythblcfhflkapmaa
open Go.ChangeShapes Go.WideShapes Go.ChangeAt Go.RowKit
set_option linter.unusedVariables false

/- Two errors that are numbers of one integer type: equal where the numbers are. -/
theorem equal_codes {P : Program} {ti tn : TypeId} {ms : Array (String × TypeId)} {i : TypeInfo} {k : IntKind} (hi : P.underlying ti = some (.interface ms)) (hn : P.underlying tn = some (.int k)) (hinfo : P.info? tn = some i) (hcomp : i.comparable = true) (a b : Int) (w : World) :
    (Op.equal ti (.iface tn (.int k a)) (.iface tn (.int k b))).run P w = .ok (a == b) w := by
  have h : ∀ d : Nat, (Op.equalIn (d + 2) ti (.iface tn (.int k a)) (.iface tn (.int k b))).run P w = .ok (a == b) w := fun d => by
    simp [Op.equalIn, run_underlying hi, run_underlying hn, typeInfo, hinfo, hcomp]
  simp only [Op.equal, Op.maxDepth]
  exact h 9998
theorem codeInfo : ∃ i, Try.prog.info? 29 = some i ∧ i.comparable = true := by
  have h : (Try.prog.info? 29).map (·.comparable) = some true := by kernel_rfl
  obtain ⟨i, hi, hc⟩ := Option.map_eq_some_iff.1 h
  exact ⟨i, hi, hc⟩
@[go_sem] theorem eql_codes (a b : Int) (w : World) : (binOp .eql 26 (.iface 29 (.int .i64 a)) (.iface 29 (.int .i64 b))).run Try.prog w = .ok (.bool (a == b)) w := by
  obtain ⟨i, hi, hc⟩ := codeInfo
  have h := equal_codes (P := Try.prog) Try.underlying26 Try.underlying29 hi hc a b w
  simp only [binOp]
  simp [h]
@[go_sem] theorem neq_codes (a b : Int) (w : World) : (binOp .neq 26 (.iface 29 (.int .i64 a)) (.iface 29 (.int .i64 b))).run Try.prog w = .ok (.bool (a != b)) w := by
  obtain ⟨i, hi, hc⟩ := codeInfo
  have h := equal_codes (P := Try.prog) Try.underlying26 Try.underlying29 hi hc a b w
  simp only [binOp]
  simp [h, bne]
end Go.Proofs.Ythblcfhflkapmaa
