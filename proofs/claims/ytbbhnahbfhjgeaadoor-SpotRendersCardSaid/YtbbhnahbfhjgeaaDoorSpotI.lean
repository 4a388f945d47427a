/-
  errors.Is at a number, along a chain of wrapped errors that ends in that number.
-/
import Derived.Test.YtbbhnahbfhjgeaaDoorSpotE
import Derived.Test.YtbbhnahbfhjgeaaDoorCodes
import Derived.Stop.Asserts
namespace Go.Proofs.YtbbhnahbfhjgeaaDoor
open Go.RowKit Go.Extern.Stop Go.Stop Go.Extern
set_option linter.unusedVariables false
set_option linter.unusedSimpArgs false

theorem isMComparable (h : Value) (w : World) : (Go.method 235 71 (.agg #[h]) "Comparable").run Tryd.prog w = .ok (83, .agg #[h]) w := by kernel_rfl
theorem isComparableC (w : World) : (callFunc 83 #[.agg #[hnd 28]]).run Tryd.prog w = .ok (.value (.bool true)) w := by
  rw [@run_callFunc_extern Tryd.prog 83 _ (ReflectliteType.method fun t => do Rtype.noPackHeld "Comparable" t; pure (.bool (← typeInfo t).comparable)) Tryd.func83 (by kernel_rfl) (by kernel_rfl) (by kernel_rfl) (by kernel_rfl)]
  have h : (ReflectliteType.method (fun t => do Rtype.noPackHeld "Comparable" t; pure (.bool (← typeInfo t).comparable)) #[.agg #[hnd 28]]).run Tryd.prog w = .ok (.bool true) w := by kernel_rfl
  rw [h]; rfl

set_option maxRecDepth 100000 in
set_option maxHeartbeats 4000000 in
theorem isLoop_code (k : Nat) (ty : TypeId) (x : Value) (n : Int) (w : World) (hc : CChain w n k ty x) (hk : k ≤ 200) :
    Calls Tryd.prog 28 #[.iface ty x, .iface 28 (.int .i64 n), .bool true] w fun ev w' => ev = .returned (.bool true) ∧ w' = w := by
  have mU := asMUnwrap
  have mW := asMUnwrapW
  have ta1 := fun v w => run_typeAssert_lacksB (P := Tryd.prog) (t := 39) (z := .nilIface) Tryd.underlying83 (by kernel_rfl) (by kernel_rfl) v 30 w
  have ta2 := fun v w => run_typeAssert_hasB (P := Tryd.prog) (t := 39) Tryd.underlying78 (by kernel_rfl) v 30 w
  have ta3 := fun v w => run_typeAssert_lacksB (P := Tryd.prog) (t := 49) (z := .nilIface) Tryd.underlying83 (by kernel_rfl) (by kernel_rfl) v 30 w
  have ta4 := fun v w => run_typeAssert_hasB (P := Tryd.prog) (t := 49) Tryd.underlying78 (by kernel_rfl) v 30 w
  have hq1 := fun v w => run_eql_iface_types (P := Tryd.prog) 39 28 v (.int .i64 n) Tryd.underlying30 (by decide) w
  have hq2 := fun v w => run_eql_iface_types (P := Tryd.prog) 49 28 v (.int .i64 n) Tryd.underlying30 (by decide) w
  have hnn : (n == n) = true := by simp
  have HC := Lib.hid hc
  clear hc
  go_enter Tryd.func28, Tryd.ntmps28
  go_wp2_with fail
  go_loop [0] (fun e => ∃ (k2 : Nat) (ty2 : TypeId) (x2 : Value), e = .iface ty2 x2 ∧ CChain w n k2 ty2 x2 ∧ k2 ≤ 200) (fun e => lenF w 200 e)
  case atStart => exact ⟨k, ty, x, rfl, HC.out, hk⟩
  case round =>
    obtain ⟨k2, ty2, x2, rfl, hc, hk2⟩ := hrel
    have HL := Lib.hid (lenF_eq hc 200 hk2)
    cases hc with
    | code =>
      go_wp2
      go_ret
      exact ⟨rfl, rfl⟩
    | spot eb h =>
      go_wp2
      go_round
      case rel => exact ⟨0, _, _, rfl, .code, by omega⟩
      case measure => exact Nat.lt_of_le_of_lt (Nat.le_of_eq (lenF_eq (.code : CChain w n 0 _ _) 200 (by omega))) (by rw [HL.out]; omega)
    | wrap g k3 ty3 x3 h1 h =>
      have HN := Lib.hid (And.intro h (lenF_eq h 200 (by omega)))
      clear h
      go_wp2
      go_round
      case rel => exact ⟨k3, _, _, rfl, HN.out.1, by omega⟩
      case measure => exact Nat.lt_of_le_of_lt (Nat.le_of_eq HN.out.2) (by rw [HL.out]; omega)

set_option maxRecDepth 100000 in
set_option maxHeartbeats 1000000 in
theorem is_any (k : Nat) (ty : TypeId) (x : Value) (n : Int) (w : World) (hc : CChain w n k ty x) (hk : k ≤ 200) :
    Calls Tryd.prog 16 #[.iface ty x, .iface 28 (.int .i64 n)] w fun ev w' => ev = .returned (.bool true) ∧ w' = w := by
  have hX7 := @run_callFunc_extern Tryd.prog 27 _ ReflectliteType.typeOf Tryd.func27 (by kernel_rfl) (by kernel_rfl) (by kernel_rfl) (by kernel_rfl)
  have tO := asTypeOf1
  have mC := isMComparable
  have iC := isComparableC
  have HI := Lib.hid (isLoop_code k ty x n w hc hk)
  clear hc
  go_enter Tryd.func16, Tryd.ntmps16
  go_wp2_with (go_at_call 28; refine HI.out.mono ?_; rintro e w' ⟨rfl, rfl⟩)
  go_ret
  exact ⟨rfl, rfl⟩
end Go.Proofs.YtbbhnahbfhjgeaaDoor
