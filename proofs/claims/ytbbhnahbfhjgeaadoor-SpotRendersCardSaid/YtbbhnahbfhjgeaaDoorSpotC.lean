/-
  errors.as at a target that is a number, along a chain of wrapped errors.
-/
import Derived.Test.YtbbhnahbfhjgeaaDoorSpotAs
import Derived.Lib.Hide
namespace Go.Proofs.YtbbhnahbfhjgeaaDoor
open Go.RowKit Go.Extern.Stop Go.Stop Go.Extern
set_option linter.unusedVariables false
set_option linter.unusedSimpArgs false

/-- A chain of errors that ends in a number. -/
inductive CChain (w : World) (n : Int) : Nat → TypeId → Value → Prop
  | code : CChain w n 0 28 (.int .i64 n)
  | spot (eb : Nat) (h : w.cell? ⟨eb, 1, none⟩ = some (.int .i64 n)) : CChain w n 1 39 (.pointer (some ⟨eb, 0, none⟩))
  | wrap (g k : Nat) (ty : TypeId) (x : Value) (h1 : w.cell? ⟨g, 1, none⟩ = some (.iface ty x)) (h : CChain w n k ty x) : CChain w n (k + 1) 49 (.pointer (some ⟨g, 0, none⟩))
theorem CChain.lower {w w' : World} {n : Int} {k : Nat} {ty : TypeId} {x : Value} (h : CChain w n k ty x) (hb : Below w.heap.size w w') : CChain w' n k ty x := by
  induction h with
  | code => exact .code
  | spot eb h => exact .spot eb (cell_below hb h)
  | wrap g k ty x h1 h ih => exact .wrap g k ty x (cell_below hb h1) ih
def lenF (w : World) : Nat → Value → Nat
  | 0, _ => 0
  | f + 1, .iface t (.pointer (some a)) => if t = 49 then (match w.cell? ⟨a.block, 1, none⟩ with | some v => lenF w f v + 1 | none => 0) else if t = 39 then 1 else 0
  | _ + 1, _ => 0
theorem lenF_eq {w : World} {n : Int} {k : Nat} {ty : TypeId} {x : Value} (h : CChain w n k ty x) : ∀ f, k ≤ f → lenF w f (.iface ty x) = k := by
  induction h with
  | code => intro f _; cases f <;> rfl
  | spot eb h => intro f hf; cases f with
    | zero => omega
    | succ f => simp [lenF]
  | wrap g k ty x h1 h ih => intro f hf; cases f with
    | zero => omega
    | succ f => simp [lenF, h1, ih f (by omega)]

theorem asTypeOfW (v : Value) (w : World) : (ReflectliteType.typeOf #[.iface 49 v]).run Tryd.prog w = .ok (.iface 71 (.agg #[hnd 49])) w := by kernel_rfl
theorem asAssignableW (w : World) : (ReflectliteType.relation "AssignableTo" ReflectliteType.assignableTo #[.agg #[hnd 49], .iface 71 (.agg #[hnd 28])]).run Tryd.prog w = .ok (.bool false) w := by kernel_rfl
theorem asMUnwrapW (p : Addr) (w : World) : (Go.method 235 49 (.pointer (some p)) "Unwrap").run Tryd.prog w = .ok (77, .pointer (some p)) w := by kernel_rfl

set_option maxRecDepth 100000 in
set_option maxHeartbeats 4000000 in
theorem asLoop_code (k : Nat) (ty : TypeId) (x : Value) (n : Int) (t a : Addr) (old : Value) (w : World) (hc : CChain w n k ty x) (hk : k ≤ 200) (ha : w.cell? a = some (.pointer (some t))) (ht0 : w.cell? t = some old) (hf0 : w.frozen? t = false) :
    Calls Tryd.prog 26 #[.iface ty x, .iface 67 (.pointer (some t)), .agg #[hnd 67, .pointer (some a), .int .u64 150], .iface 71 (.agg #[hnd 28])] w fun ev w' => ev = .returned (.bool true) ∧ w' = ((w.alloc (.cells #[hnd 67, .pointer (some a), .int .u64 150] 56)).alloc (.cells #[.int .i64 n] 28)).setCell t (.int .i64 n) := by
  have hX1 := @run_callFunc_extern Tryd.prog 23 _ (fun args => ReflectliteValue.unpack (args.getD 0 (.tuple #[]))) Tryd.func23 (by kernel_rfl) (by kernel_rfl) (by kernel_rfl) (by kernel_rfl)
  have hX2 := @run_callFunc_extern Tryd.prog 24 _ (ReflectliteValue.methodAny (ReflectliteValue.valueError "reflectlite.Value.Type" 0) (fun t _ _ _ => ReflectliteType.toType t)) Tryd.func24 (by kernel_rfl) (by kernel_rfl) (by kernel_rfl) (by kernel_rfl)
  have hX3 := @run_callFunc_extern Tryd.prog 25 _ (ReflectliteValue.method (ReflectliteValue.valueError "reflectlite.Value.IsNil" 0) ReflectliteValue.isNil) Tryd.func25 (by kernel_rfl) (by kernel_rfl) (by kernel_rfl) (by kernel_rfl)
  have hX4 := @run_callFunc_extern Tryd.prog 71 _ (ReflectliteType.abiMethod fun t => do pure (.int .u8 (← Rtype.kind t))) Tryd.func71 (by kernel_rfl) (by kernel_rfl) (by kernel_rfl) (by kernel_rfl)
  have hX5 := @run_callFunc_extern Tryd.prog 84 _ (ReflectliteType.method ReflectliteType.elem) Tryd.func84 (by kernel_rfl) (by kernel_rfl) (by kernel_rfl) (by kernel_rfl)
  have hX6 := @run_callFunc_extern Tryd.prog 85 _ (ReflectliteType.relation "Implements" ReflectliteType.implements_) Tryd.func85 (by kernel_rfl) (by kernel_rfl) (by kernel_rfl) (by kernel_rfl)
  have hX7 := @run_callFunc_extern Tryd.prog 27 _ ReflectliteType.typeOf Tryd.func27 (by kernel_rfl) (by kernel_rfl) (by kernel_rfl) (by kernel_rfl)
  have hX8 := @run_callFunc_extern Tryd.prog 82 _ (ReflectliteType.relation "AssignableTo" ReflectliteType.assignableTo) Tryd.func82 (by kernel_rfl) (by kernel_rfl) (by kernel_rfl) (by kernel_rfl)
  have hX9 := @run_callFunc_extern Tryd.prog 36 _ (ReflectliteValue.method (ReflectliteValue.valueError "reflectlite.Value.Elem" 0) ReflectliteValue.elem) Tryd.func36 (by kernel_rfl) (by kernel_rfl) (by kernel_rfl) (by kernel_rfl)
  have hX10 := @run_callFunc_extern Tryd.prog 37 _ ReflectliteValue.set Tryd.func37 (by kernel_rfl) (by kernel_rfl) (by kernel_rfl) (by kernel_rfl)
  have mA := asMAssignable
  have hb : Below w.heap.size w (w.alloc (.cells #[hnd 67, .pointer (some a), .int .u64 150] 56)) := (Below.refl _ _).alloc (Nat.le_refl _) _
  have hal := World.block_lt_of_cell? w _ ha
  have htl := World.block_lt_of_cell? w _ ht0
  have ha1 := cell_below hb ha
  have ht1 := cell_below hb ht0
  have hf1 := (hb.frozen (p := t) htl).trans hf0
  have el := asElemV2 a t (w.alloc (.cells #[hnd 67, .pointer (some a), .int .u64 150] 56)) ha1
  have v1 := asValueOf1
  have tO := asTypeOf1
  have a1 := asAssignable1
  have st := asSet1 t ⟨w.heap.size + 1, 0, none⟩ n old ((w.alloc (.cells #[hnd 67, .pointer (some a), .int .u64 150] 56)).alloc (.cells #[.int .i64 n] 28))
    (by rw [World.cell?_alloc_at _ _ _ _ (by simp)]; rfl)
    (by rw [World.cell?_alloc_lt _ _ t (by simp; omega)]; exact ht1)
    (by rw [World.frozen?_alloc_old _ _ t (by simp; omega)]; exact hf1)
  have tS := asTypeOfS
  have aS := asAssignableS
  have mU := asMUnwrap
  have tW := asTypeOfW
  have aW := asAssignableW
  have mW := asMUnwrapW
  have ta1 := fun v w => run_typeAssert_lacksB (P := Tryd.prog) (t := 39) (z := .nilIface) Tryd.underlying75 (by kernel_rfl) (by kernel_rfl) v 30 w
  have ta2 := fun v w => run_typeAssert_hasB (P := Tryd.prog) (t := 39) Tryd.underlying78 (by kernel_rfl) v 30 w
  have ta3 := fun v w => run_typeAssert_lacksB (P := Tryd.prog) (t := 49) (z := .nilIface) Tryd.underlying75 (by kernel_rfl) (by kernel_rfl) v 30 w
  have ta4 := fun v w => run_typeAssert_hasB (P := Tryd.prog) (t := 49) Tryd.underlying78 (by kernel_rfl) v 30 w
  have HC := Lib.hid hc
  have HB := Lib.hid hb
  clear hc hb hal htl ha ht0 hf0 ha1 ht1 hf1
  go_enter Tryd.func26, Tryd.ntmps26
  go_wp2_with fail
  go_loop [0] (fun e => ∃ (k2 : Nat) (ty2 : TypeId) (x2 : Value), e = .iface ty2 x2 ∧ CChain w n k2 ty2 x2 ∧ k2 ≤ 200) (fun e => lenF w 200 e)
  case atStart => exact ⟨k, ty, x, rfl, HC.out, hk⟩
  case round =>
    obtain ⟨k2, ty2, x2, rfl, hc, hk2⟩ := hrel
    have HL := Lib.hid (lenF_eq hc 200 hk2)
    cases hc with
    | code =>
      go_wp2
      go_returns
      exact ⟨rfl, rfl⟩
    | spot eb h =>
      have h' := cell_below HB.out h
      clear h
      go_wp2
      go_round
      case rel => exact ⟨0, _, _, rfl, .code, by omega⟩
      case measure => exact Nat.lt_of_le_of_lt (Nat.le_of_eq (lenF_eq (.code : CChain w n 0 _ _) 200 (by omega))) (by rw [HL.out]; omega)
    | wrap g k3 ty3 x3 h1 h =>
      have h' := cell_below HB.out h1
      have HN := Lib.hid (And.intro h (lenF_eq h 200 (by omega)))
      clear h1 h
      go_wp2
      go_round
      case rel => exact ⟨k3, _, _, rfl, HN.out.1, by omega⟩
      case measure => exact Nat.lt_of_le_of_lt (Nat.le_of_eq HN.out.2) (by rw [HL.out]; omega)
end Go.Proofs.YtbbhnahbfhjgeaaDoor
