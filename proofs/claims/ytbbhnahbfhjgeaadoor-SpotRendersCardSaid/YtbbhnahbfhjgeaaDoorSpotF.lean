/-
  errors.as at a target that is a place's error, along a chain of wrapped errors.
-/
import Derived.Test.YtbbhnahbfhjgeaaDoorSpotE
namespace Go.Proofs.YtbbhnahbfhjgeaaDoor
open Go.RowKit Go.Extern.Stop Go.Stop Go.Extern
set_option linter.unusedVariables false
set_option linter.unusedSimpArgs false

theorem spValueOf2 (t : Addr) (w : World) : (ReflectliteValue.unpack (.iface 41 (.pointer (some t)))).run Tryd.prog w
    = .ok (.agg #[hnd 41, .pointer (some ⟨w.heap.size, 0, none⟩), .int .u64 150]) (w.alloc (.cells #[.pointer (some t)] 41)) := by kernel_rfl
theorem spType2 (a : Addr) (w : World) : (ReflectliteValue.methodAny (ReflectliteValue.valueError "reflectlite.Value.Type" 0) (fun t _ _ _ => ReflectliteType.toType t) #[.agg #[hnd 41, .pointer (some a), .int .u64 150]]).run Tryd.prog w
    = .ok (.iface 71 (.agg #[hnd 41])) w := by kernel_rfl
theorem spKind2 (w : World) : ((ReflectliteType.abiMethod fun t => (fun a : Nat => Value.int IntKind.u8 (a : Int)) <$> Rtype.kind t) #[hnd 41]).run Tryd.prog w = .ok (.int .u8 22) w := by kernel_rfl
theorem spKind1 (w : World) : ((ReflectliteType.abiMethod fun t => (fun a : Nat => Value.int IntKind.u8 (a : Int)) <$> Rtype.kind t) #[hnd 39]).run Tryd.prog w = .ok (.int .u8 22) w := by kernel_rfl
theorem spParts2 (a : Addr) (w : World) : (ReflectliteValue.parts (.agg #[hnd 41, .pointer (some a), .int .u64 150])).run Tryd.prog w = .ok (some (41, a, 150)) w := by kernel_rfl
theorem spIsNil2 (a p : Addr) (W : World) (ha : W.cell? a = some (.pointer (some p))) :
    (ReflectliteValue.method (ReflectliteValue.valueError "reflectlite.Value.IsNil" 0) ReflectliteValue.isNil #[.agg #[hnd 41, .pointer (some a), .int .u64 150]]).run Tryd.prog W = .ok (.bool false) W := by
  rw [rvMethod]
  simp only [Sem.run_bind, spParts2, Result.andThen]
  simp [ReflectliteValue.isNil, loadVar, isAgg, underlying, Tryd.underlying41, ha, Result.andThen]
theorem spElem2 (w : World) : (ReflectliteType.method ReflectliteType.elem #[.agg #[hnd 41]]).run Tryd.prog w = .ok (.iface 71 (.agg #[hnd 39])) w := by kernel_rfl
theorem spImplements1 (w : World) : (ReflectliteType.relation "Implements" ReflectliteType.implements_ #[.agg #[hnd 39], .iface 71 (.agg #[hnd 30])]).run Tryd.prog w = .ok (.bool true) w := by kernel_rfl
theorem spTypeOf1 (v : Value) (w : World) : (ReflectliteType.typeOf #[.iface 39 v]).run Tryd.prog w = .ok (.iface 71 (.agg #[hnd 39])) w := by kernel_rfl
theorem spAssignable1 (w : World) : (ReflectliteType.relation "AssignableTo" ReflectliteType.assignableTo #[.agg #[hnd 39], .iface 71 (.agg #[hnd 39])]).run Tryd.prog w = .ok (.bool true) w := by kernel_rfl
theorem spAssignableC (w : World) : (ReflectliteType.relation "AssignableTo" ReflectliteType.assignableTo #[.agg #[hnd 28], .iface 71 (.agg #[hnd 39])]).run Tryd.prog w = .ok (.bool false) w := by kernel_rfl
theorem spValueOf1 (e : Addr) (w : World) : (ReflectliteValue.unpack (.iface 39 (.pointer (some e)))).run Tryd.prog w
    = .ok (.agg #[hnd 39, .pointer (some ⟨w.heap.size, 0, none⟩), .int .u64 150]) (w.alloc (.cells #[.pointer (some e)] 39)) := by kernel_rfl
theorem spElemOf2 (w : World) : (Rtype.elem? 41).run Tryd.prog w = .ok (some 39) w := by kernel_rfl
theorem spMk1 (p : Addr) (w : World) : (ReflectliteValue.mk 39 p ReflectliteValue.flagAddr).run Tryd.prog w = .ok (.agg #[hnd 39, .pointer (some p), .int .u64 406]) w := by kernel_rfl
theorem spElemV2 (a p : Addr) (W : World) (ha : W.cell? a = some (.pointer (some p))) :
    (ReflectliteValue.method (ReflectliteValue.valueError "reflectlite.Value.Elem" 0) ReflectliteValue.elem #[.agg #[hnd 41, .pointer (some a), .int .u64 150]]).run Tryd.prog W
      = .ok (.agg #[hnd 39, .pointer (some p), .int .u64 406]) W := by
  rw [rvMethod]
  simp only [Sem.run_bind, spParts2, Result.andThen]
  simp [ReflectliteValue.elem, loadVar, isAgg, underlying, Tryd.underlying41, ha, Result.andThen, spElemOf2, spMk1]
theorem spParts1a (a : Addr) (w : World) : (ReflectliteValue.parts (.agg #[hnd 39, .pointer (some a), .int .u64 406])).run Tryd.prog w = .ok (some (39, a, 406)) w := by kernel_rfl
theorem spParts1 (a : Addr) (w : World) : (ReflectliteValue.parts (.agg #[hnd 39, .pointer (some a), .int .u64 150])).run Tryd.prog w = .ok (some (39, a, 150)) w := by kernel_rfl
theorem spDirect1 (w : World) : (Rtype.directlyAssignable 39 39).run Tryd.prog w = .ok true w := by kernel_rfl
theorem spSet1 (ta b e : Addr) (old : Value) (W : World) (hb : W.cell? b = some (.pointer (some e))) (ht : W.cell? ta = some old) (hf : W.frozen? ta = false) :
    (ReflectliteValue.set #[.agg #[hnd 39, .pointer (some ta), .int .u64 406], .agg #[hnd 39, .pointer (some b), .int .u64 150]]).run Tryd.prog W
      = .ok (.tuple #[]) (W.setCell ta (.pointer (some e))) := by
  rw [rvSet]
  simp only [Sem.run_bind, spParts1a, spParts1, Result.andThen]
  simp [ReflectliteValue.flagAddr, loadVar, isAgg, underlying, Tryd.underlying39, hb, Result.andThen, spDirect1, storeVar, Value.cells, storeCells, Addr.add]
  rw [run_store Tryd.prog W ta _ _ (by rfl)]
  simp [ht, hf]

theorem spTypeOfW (v : Value) (w : World) : (ReflectliteType.typeOf #[.iface 49 v]).run Tryd.prog w = .ok (.iface 71 (.agg #[hnd 49])) w := by kernel_rfl
theorem spTypeOfC (v : Value) (w : World) : (ReflectliteType.typeOf #[.iface 28 v]).run Tryd.prog w = .ok (.iface 71 (.agg #[hnd 28])) w := by kernel_rfl
theorem spAssignableW (w : World) : (ReflectliteType.relation "AssignableTo" ReflectliteType.assignableTo #[.agg #[hnd 49], .iface 71 (.agg #[hnd 39])]).run Tryd.prog w = .ok (.bool false) w := by kernel_rfl

/-- A chain of wrapped errors, and its core. -/
inductive WChain (w : World) (ct : TypeId) (cx : Value) : Nat → TypeId → Value → Prop
  | core : WChain w ct cx 0 ct cx
  | wrap (g k : Nat) (ty : TypeId) (x : Value) (h1 : w.cell? ⟨g, 1, none⟩ = some (.iface ty x)) (h : WChain w ct cx k ty x) : WChain w ct cx (k + 1) 49 (.pointer (some ⟨g, 0, none⟩))
theorem WChain.lower {w w' : World} {ct : TypeId} {cx : Value} {k : Nat} {ty : TypeId} {x : Value} (h : WChain w ct cx k ty x) (hb : Below w.heap.size w w') : WChain w' ct cx k ty x := by
  induction h with
  | core => exact .core
  | wrap g k ty x h1 h ih => exact .wrap g k ty x (cell_below hb h1) ih
def lenW (w : World) : Nat → Value → Nat
  | 0, _ => 0
  | f + 1, .iface t (.pointer (some a)) => if t = 49 then (match w.cell? ⟨a.block, 1, none⟩ with | some v => lenW w f v + 1 | none => 0) else 0
  | _ + 1, _ => 0
theorem lenW_spot {w : World} {eb : Addr} {k : Nat} {ty : TypeId} {x : Value} (h : WChain w 39 (.pointer (some eb)) k ty x) : ∀ f, k ≤ f → lenW w f (.iface ty x) = k := by
  induction h with
  | core => intro f _; cases f <;> simp [lenW]
  | wrap g k ty x h1 h ih => intro f hf; cases f with
    | zero => omega
    | succ f => simp [lenW, h1, ih f (by omega)]
theorem lenW_code {w : World} {n : Int} {k : Nat} {ty : TypeId} {x : Value} (h : WChain w 28 (.int .i64 n) k ty x) : ∀ f, k ≤ f → lenW w f (.iface ty x) = k := by
  induction h with
  | core => intro f _; cases f <;> simp [lenW]
  | wrap g k ty x h1 h ih => intro f hf; cases f with
    | zero => omega
    | succ f => simp [lenW, h1, ih f (by omega)]

set_option maxRecDepth 100000 in
set_option maxHeartbeats 4000000 in
theorem asLoop_spot (k : Nat) (ty : TypeId) (x : Value) (eb : Addr) (t a : Addr) (old : Value) (w : World) (hc : WChain w 39 (.pointer (some eb)) k ty x) (hk : k ≤ 200) (ha : w.cell? a = some (.pointer (some t))) (ht0 : w.cell? t = some old) (hf0 : w.frozen? t = false) :
    Calls Tryd.prog 26 #[.iface ty x, .iface 41 (.pointer (some t)), .agg #[hnd 41, .pointer (some a), .int .u64 150], .iface 71 (.agg #[hnd 39])] w fun ev w' => ev = .returned (.bool true) ∧ w' = ((w.alloc (.cells #[hnd 41, .pointer (some a), .int .u64 150] 56)).alloc (.cells #[.pointer (some eb)] 39)).setCell t (.pointer (some eb)) := by
  have hX1 := @run_callFunc_extern Tryd.prog 23 _ (fun args => ReflectliteValue.unpack (args.getD 0 (.tuple #[]))) Tryd.func23 (by kernel_rfl) (by kernel_rfl) (by kernel_rfl) (by kernel_rfl)
  have hX2 := @run_callFunc_extern Tryd.prog 24 _ (ReflectliteValue.methodAny (ReflectliteValue.valueError "reflectlite.Value.Type" 0) (fun t _ _ _ => ReflectliteType.toType t)) Tryd.func24 (by kernel_rfl) (by kernel_rfl) (by kernel_rfl) (by kernel_rfl)
  have hX3 := @run_callFunc_extern Tryd.prog 25 _ (ReflectliteValue.method (ReflectliteValue.valueError "reflectlite.Value.IsNil" 0) ReflectliteValue.isNil) Tryd.func25 (by kernel_rfl) (by kernel_rfl) (by kernel_rfl) (by kernel_rfl)
  have hX4 := @run_callFunc_extern Tryd.prog 71 _ (ReflectliteType.abiMethod fun t => do pure (.int .u8 (← Rtype.kind t))) Tryd.func71 (by kernel_rfl) (by kernel_rfl) (by kernel_rfl) (by kernel_rfl)
  have hX5 := @run_callFunc_extern Tryd.prog 84 _ (ReflectliteType.method ReflectliteType.elem) Tryd.func84 (by kernel_rfl) (by kernel_rfl) (by kernel_rfl) (by kernel_rfl)
  have hX6 := @run_callFunc_extern Tryd.prog 85 _ (ReflectliteType.relation "Implements" ReflectliteType.implements_) Tryd.func85 (by kernel_rfl) (by kernel_rfl) (by kernel_rfl) (by kernel_rfl)
  have hX7 := @run_callFunc_extern Tryd.prog 27 _ ReflectliteType.typeOf Tryd.func27 (by kernel_rfl) (by kernel_rfl) (by kernel_rfl) (by kernel_rfl)
  have hX8 := @run_callFunc_extern Tryd.prog 82 _ (ReflectliteType.relation "AssignableTo" ReflectliteType.assignableTo) Tryd.func82 (by kernel_rfl) (by kernel_rfl) (by kernel_rfl) (by kernel_rfl)
  have hX9 := @run_callFunc_extern Tryd.prog 36 _ (ReflectliteValue.method (ReflectliteValue.valueError "reflectlite.Value.Elem" 0) ReflectliteValue.elem) Tryd.func36 (by kernel_rfl) (by kernel_rfl) (by kernel_rfl) (by kernel_rfl)
  have hX10 := @run_callFunc_extern Tryd.prog 37 _ ReflectliteValue.set Tryd.func37 (by kernel_rfl) (by kernel_rfl) (by kernel_rfl) (by kernel_rfl)
  have mA := asMAssignable
  have hb : Below w.heap.size w (w.alloc (.cells #[hnd 41, .pointer (some a), .int .u64 150] 56)) := (Below.refl _ _).alloc (Nat.le_refl _) _
  have hal := World.block_lt_of_cell? w _ ha
  have htl := World.block_lt_of_cell? w _ ht0
  have ha1 := cell_below hb ha
  have ht1 := cell_below hb ht0
  have hf1 := (hb.frozen (p := t) htl).trans hf0
  have el := spElemV2 a t (w.alloc (.cells #[hnd 41, .pointer (some a), .int .u64 150] 56)) ha1
  have v1 := spValueOf1
  have tO := spTypeOf1
  have a1 := spAssignable1
  have st := spSet1 t ⟨w.heap.size + 1, 0, none⟩ eb old ((w.alloc (.cells #[hnd 41, .pointer (some a), .int .u64 150] 56)).alloc (.cells #[.pointer (some eb)] 39))
    (by rw [World.cell?_alloc_at _ _ _ _ (by simp)]; rfl)
    (by rw [World.cell?_alloc_lt _ _ t (by simp; omega)]; exact ht1)
    (by rw [World.frozen?_alloc_old _ _ t (by simp; omega)]; exact hf1)
  have tW := spTypeOfW
  have aW := spAssignableW
  have mW := asMUnwrapW
  have ta3 := fun v w => run_typeAssert_lacksB (P := Tryd.prog) (t := 49) (z := .nilIface) Tryd.underlying75 (by kernel_rfl) (by kernel_rfl) v 30 w
  have ta4 := fun v w => run_typeAssert_hasB (P := Tryd.prog) (t := 49) Tryd.underlying78 (by kernel_rfl) v 30 w
  have HC := Lib.hid hc
  have HB := Lib.hid hb
  clear hc hb hal htl ha ht0 ha1 ht1 hf0 hf1
  go_enter Tryd.func26, Tryd.ntmps26
  go_wp2_with fail
  go_loop [0] (fun e => ∃ (k2 : Nat) (ty2 : TypeId) (x2 : Value), e = .iface ty2 x2 ∧ WChain w 39 (.pointer (some eb)) k2 ty2 x2 ∧ k2 ≤ 200) (fun e => lenW w 200 e)
  case atStart => exact ⟨k, ty, x, rfl, HC.out, hk⟩
  case round =>
    obtain ⟨k2, ty2, x2, rfl, hc, hk2⟩ := hrel
    have HL := Lib.hid (lenW_spot hc 200 hk2)
    cases hc with
    | core =>
      go_wp2
      go_ret
      exact ⟨rfl, rfl⟩
    | wrap g k3 ty3 x3 h1 h =>
      have h' := cell_below HB.out h1
      have HN := Lib.hid (And.intro h (lenW_spot h 200 (by omega)))
      clear h1 h
      go_wp2
      go_round
      case rel => exact ⟨k3, _, _, rfl, HN.out.1, by omega⟩
      case measure => exact Nat.lt_of_le_of_lt (Nat.le_of_eq HN.out.2) (by rw [HL.out]; omega)

set_option maxRecDepth 100000 in
set_option maxHeartbeats 4000000 in
theorem asLoop_none (k : Nat) (ty : TypeId) (x : Value) (n : Int) (t a : Addr) (old : Value) (w : World) (hc : WChain w 28 (.int .i64 n) k ty x) (hk : k ≤ 200) (ha : w.cell? a = some (.pointer (some t))) (ht0 : w.cell? t = some old) :
    Calls Tryd.prog 26 #[.iface ty x, .iface 41 (.pointer (some t)), .agg #[hnd 41, .pointer (some a), .int .u64 150], .iface 71 (.agg #[hnd 39])] w fun ev w' => ev = .returned (.bool false) ∧ w' = w.alloc (.cells #[hnd 41, .pointer (some a), .int .u64 150] 56) := by
  have hX1 := @run_callFunc_extern Tryd.prog 23 _ (fun args => ReflectliteValue.unpack (args.getD 0 (.tuple #[]))) Tryd.func23 (by kernel_rfl) (by kernel_rfl) (by kernel_rfl) (by kernel_rfl)
  have hX2 := @run_callFunc_extern Tryd.prog 24 _ (ReflectliteValue.methodAny (ReflectliteValue.valueError "reflectlite.Value.Type" 0) (fun t _ _ _ => ReflectliteType.toType t)) Tryd.func24 (by kernel_rfl) (by kernel_rfl) (by kernel_rfl) (by kernel_rfl)
  have hX3 := @run_callFunc_extern Tryd.prog 25 _ (ReflectliteValue.method (ReflectliteValue.valueError "reflectlite.Value.IsNil" 0) ReflectliteValue.isNil) Tryd.func25 (by kernel_rfl) (by kernel_rfl) (by kernel_rfl) (by kernel_rfl)
  have hX4 := @run_callFunc_extern Tryd.prog 71 _ (ReflectliteType.abiMethod fun t => do pure (.int .u8 (← Rtype.kind t))) Tryd.func71 (by kernel_rfl) (by kernel_rfl) (by kernel_rfl) (by kernel_rfl)
  have hX5 := @run_callFunc_extern Tryd.prog 84 _ (ReflectliteType.method ReflectliteType.elem) Tryd.func84 (by kernel_rfl) (by kernel_rfl) (by kernel_rfl) (by kernel_rfl)
  have hX6 := @run_callFunc_extern Tryd.prog 85 _ (ReflectliteType.relation "Implements" ReflectliteType.implements_) Tryd.func85 (by kernel_rfl) (by kernel_rfl) (by kernel_rfl) (by kernel_rfl)
  have hX7 := @run_callFunc_extern Tryd.prog 27 _ ReflectliteType.typeOf Tryd.func27 (by kernel_rfl) (by kernel_rfl) (by kernel_rfl) (by kernel_rfl)
  have hX8 := @run_callFunc_extern Tryd.prog 82 _ (ReflectliteType.relation "AssignableTo" ReflectliteType.assignableTo) Tryd.func82 (by kernel_rfl) (by kernel_rfl) (by kernel_rfl) (by kernel_rfl)
  have hX9 := @run_callFunc_extern Tryd.prog 36 _ (ReflectliteValue.method (ReflectliteValue.valueError "reflectlite.Value.Elem" 0) ReflectliteValue.elem) Tryd.func36 (by kernel_rfl) (by kernel_rfl) (by kernel_rfl) (by kernel_rfl)
  have hX10 := @run_callFunc_extern Tryd.prog 37 _ ReflectliteValue.set Tryd.func37 (by kernel_rfl) (by kernel_rfl) (by kernel_rfl) (by kernel_rfl)
  have mA := asMAssignable
  have hb : Below w.heap.size w (w.alloc (.cells #[hnd 41, .pointer (some a), .int .u64 150] 56)) := (Below.refl _ _).alloc (Nat.le_refl _) _
  have hal := World.block_lt_of_cell? w _ ha
  have htl := World.block_lt_of_cell? w _ ht0
  have ha1 := cell_below hb ha
  have ht1 := cell_below hb ht0
  have tC := spTypeOfC
  have aC := spAssignableC
  have tb1 := fun v w => run_typeAssert_lacksB (P := Tryd.prog) (t := 28) (z := .nilIface) Tryd.underlying75 (by kernel_rfl) (by kernel_rfl) v 30 w
  have tb2 := fun v w => run_typeAssert_lacksB (P := Tryd.prog) (t := 28) (z := .nilIface) Tryd.underlying78 (by kernel_rfl) (by kernel_rfl) v 30 w
  have tb3 := fun v w => run_typeAssert_lacksB (P := Tryd.prog) (t := 28) (z := .nilIface) Tryd.underlying80 (by kernel_rfl) (by kernel_rfl) v 30 w
  have tW := spTypeOfW
  have aW := spAssignableW
  have mW := asMUnwrapW
  have ta3 := fun v w => run_typeAssert_lacksB (P := Tryd.prog) (t := 49) (z := .nilIface) Tryd.underlying75 (by kernel_rfl) (by kernel_rfl) v 30 w
  have ta4 := fun v w => run_typeAssert_hasB (P := Tryd.prog) (t := 49) Tryd.underlying78 (by kernel_rfl) v 30 w
  have HC := Lib.hid hc
  have HB := Lib.hid hb
  clear hc hb hal htl ha ht0 ha1 ht1 
  go_enter Tryd.func26, Tryd.ntmps26
  go_wp2_with fail
  go_loop [0] (fun e => ∃ (k2 : Nat) (ty2 : TypeId) (x2 : Value), e = .iface ty2 x2 ∧ WChain w 28 (.int .i64 n) k2 ty2 x2 ∧ k2 ≤ 200) (fun e => lenW w 200 e)
  case atStart => exact ⟨k, ty, x, rfl, HC.out, hk⟩
  case round =>
    obtain ⟨k2, ty2, x2, rfl, hc, hk2⟩ := hrel
    have HL := Lib.hid (lenW_code hc 200 hk2)
    cases hc with
    | core =>
      go_wp2
      go_ret
      exact ⟨rfl, rfl⟩
    | wrap g k3 ty3 x3 h1 h =>
      have h' := cell_below HB.out h1
      have HN := Lib.hid (And.intro h (lenW_code h 200 (by omega)))
      clear h1 h
      go_wp2
      go_round
      case rel => exact ⟨k3, _, _, rfl, HN.out.1, by omega⟩
      case measure => exact Nat.lt_of_le_of_lt (Nat.le_of_eq HN.out.2) (by rw [HL.out]; omega)
end Go.Proofs.YtbbhnahbfhjgeaaDoor
