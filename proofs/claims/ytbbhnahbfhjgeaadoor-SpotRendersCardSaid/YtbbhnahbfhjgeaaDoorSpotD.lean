/-
  Wrapping; errors.As at a target that is a number, and Number, along a chain.
-/
import Derived.Test.YtbbhnahbfhjgeaaDoorSpotC
import Derived.Test.YtbbhnahbfhjgeaaDoorSpotN
namespace Go.Proofs.YtbbhnahbfhjgeaaDoor
open Go.ChangeShapes Go.WideShapes Go.ChangeAt Go.RowKit Go.Extern.Stop Go.Stop Go.Extern
set_option linter.unusedVariables false
set_option linter.unusedSimpArgs false

theorem wrap_any (s : ByteArray) (ty : TypeId) (x : Value) (w : World) : Calls Tryd.prog 12 #[.string s, .iface ty x] w fun e w' => e = .returned (.iface 49 (.pointer (some ⟨w.heap.size, 0, none⟩))) ∧ w' = w.alloc (.cells #[.string s, .iface ty x] 51) := by
  go_enter Tryd.func12, Tryd.ntmps12
  go_wp2_with fail
  go_returns
  exact ⟨rfl, rfl⟩
/-- One link more. -/
theorem CChain.more {w : World} {n : Int} {k : Nat} {ty : TypeId} {x : Value} (h : CChain w n k ty x) (s : ByteArray) : CChain (w.alloc (.cells #[.string s, .iface ty x] 51)) n (k + 1) 49 (.pointer (some ⟨w.heap.size, 0, none⟩)) :=
  .wrap w.heap.size k ty x (cell_new w _ _ 1 rfl) (h.lower ((Below.refl _ _).alloc (Nat.le_refl _) _))

set_option maxRecDepth 100000 in
set_option maxHeartbeats 4000000 in
theorem asCode_any (k : Nat) (ty : TypeId) (x : Value) (n : Int) (t : Addr) (old : Value) (w : World) (hg : w.cell? ⟨0, 0, none⟩ = some (.iface 71 (.agg #[hnd 30]))) (hc : CChain w n k ty x) (hk : k ≤ 200) (ht0 : w.cell? t = some old) (hf0 : w.frozen? t = false) :
    Calls Tryd.prog 15 #[.iface ty x, .iface 67 (.pointer (some t))] w fun ev w' => ev = .returned (.bool true) ∧ ∃ X, Below w.heap.size w X ∧ w' = X.setCell t (.int .i64 n) := by
  have hX1 := @run_callFunc_extern Tryd.prog 23 _ (fun args => ReflectliteValue.unpack (args.getD 0 (.tuple #[]))) Tryd.func23 (by kernel_rfl) (by kernel_rfl) (by kernel_rfl) (by kernel_rfl)
  have hX2 := @run_callFunc_extern Tryd.prog 24 _ (ReflectliteValue.methodAny (ReflectliteValue.valueError "reflectlite.Value.Type" 0) (fun t _ _ _ => ReflectliteType.toType t)) Tryd.func24 (by kernel_rfl) (by kernel_rfl) (by kernel_rfl) (by kernel_rfl)
  have hX3 := @run_callFunc_extern Tryd.prog 25 _ (ReflectliteValue.method (ReflectliteValue.valueError "reflectlite.Value.IsNil" 0) ReflectliteValue.isNil) Tryd.func25 (by kernel_rfl) (by kernel_rfl) (by kernel_rfl) (by kernel_rfl)
  have hX4 := @run_callFunc_extern Tryd.prog 71 _ (ReflectliteType.abiMethod fun t => do pure (.int .u8 (← Rtype.kind t))) Tryd.func71 (by kernel_rfl) (by kernel_rfl) (by kernel_rfl) (by kernel_rfl)
  have hX5 := @run_callFunc_extern Tryd.prog 84 _ (ReflectliteType.method ReflectliteType.elem) Tryd.func84 (by kernel_rfl) (by kernel_rfl) (by kernel_rfl) (by kernel_rfl)
  have hX6 := @run_callFunc_extern Tryd.prog 85 _ (ReflectliteType.relation "Implements" ReflectliteType.implements_) Tryd.func85 (by kernel_rfl) (by kernel_rfl) (by kernel_rfl) (by kernel_rfl)
  have hX7 := @run_callFunc_extern Tryd.prog 27 _ ReflectliteType.typeOf Tryd.func27 (by kernel_rfl) (by kernel_rfl) (by kernel_rfl) (by kernel_rfl)
  have hX8 := @run_callFunc_extern Tryd.prog 82 _ (ReflectliteType.relation "AssignableTo" ReflectliteType.assignableTo) Tryd.func82 (by kernel_rfl) (by kernel_rfl) (by kernel_rfl) (by kernel_rfl)
  have mA := asMAssignable
  have f6 := asValueOf2
  have f7 := asType2
  have mK := asMKind
  have mE := asMElem
  have mI := asMImplements
  have k2 := asKind2
  have k1 := asKind1
  have e2 := asElem2
  have i1 := asImplements1
  have n8 := asIsNil2 ⟨w.heap.size, 0, none⟩ t ((w.alloc (.cells #[.pointer (some t)] 67)).alloc (.cells #[hnd 67, .pointer (some ⟨w.heap.size, 0, none⟩), .int .u64 150] 56)) (by simp)
  have hlt : 0 < w.heap.size := by
    rcases Nat.eq_zero_or_pos w.heap.size with h0 | h
    · simp [World.cell?, h0] at hg
    · exact h
  have hg2 : ((w.alloc (.cells #[.pointer (some t)] 67)).alloc (.cells #[hnd 67, .pointer (some ⟨w.heap.size, 0, none⟩), .int .u64 150] 56)).cell? ⟨0, 0, none⟩ = some (.iface 71 (.agg #[hnd 30])) := by
    rw [World.cell?_alloc_lt _ _ ⟨0, 0, none⟩ (by simp), World.cell?_alloc_lt _ _ ⟨0, 0, none⟩ hlt]; exact hg
  have htl : t.block < w.heap.size := World.block_lt_of_cell? w _ ht0
  have hb2 : Below w.heap.size w ((w.alloc (.cells #[.pointer (some t)] 67)).alloc (.cells #[hnd 67, .pointer (some ⟨w.heap.size, 0, none⟩), .int .u64 150] 56)) := ((Below.refl _ _).alloc (Nat.le_refl _) _).alloc (by simp) _
  have HAL := Lib.hid (asLoop_code k ty x n t ⟨w.heap.size, 0, none⟩ old _ (hc.lower hb2) hk (by rw [World.cell?_alloc_lt _ _ ⟨w.heap.size, 0, none⟩ (by simp)]; exact cell_new w _ _ 0 rfl) (cell_below hb2 ht0) ((hb2.frozen (p := t) htl).trans hf0))
  have HB := Lib.hid hb2
  clear hb2 hc
  go_enter Tryd.func15, Tryd.ntmps15
  go_wp2_with (go_at_call 26; refine HAL.out.mono ?_; rintro e w' ⟨rfl, rfl⟩)
  go_ret
  exact ⟨rfl, _, (HB.out.alloc (by simp; omega) _).alloc (by simp; omega) _, rfl⟩

set_option maxRecDepth 100000 in
set_option maxHeartbeats 1000000 in
theorem number_any (k : Nat) (ty : TypeId) (x : Value) (n : Int) (w : World) (hg : w.cell? ⟨0, 0, none⟩ = some (.iface 71 (.agg #[hnd 30]))) (hc : CChain w n k ty x) (hk : k ≤ 200) :
    Calls Tryd.prog 17 #[.iface ty x] w fun e w' => e = .returned (.int .i64 n) ∧ Below w.heap.size w w' := by
  have hmf : ∀ (fn : Fn) (first cap : Array Value) (w : World), (Instr.makeFunc fn first cap).run Tryd.prog w = .ok (.func fn first cap) w := fun _ _ _ _ => rfl
  have hb : Below w.heap.size w ((w.alloc (.cells #[.int .i64 0] 28)).alloc (.cells #[.int .i64 0] 28)) := ((Below.refl _ _).alloc (Nat.le_refl _) _).alloc (by simp) _
  have HA := Lib.hid (asCode_any k ty x n ⟨w.heap.size + 1, 0, none⟩ (.int .i64 0) _ (cell_below hb hg) (hc.lower hb) hk (by simp [World.cell?_alloc_at]) (by simp))
  go_enter_defers Tryd.func17, Tryd.ntmps17
  go_wp2_with fail
  refine HA.out.mono ?_
  rintro e w1 ⟨rfl, X, hbX0, hw1⟩
  have hbX : Below (w.heap.size + 1 + 1) ((w.alloc (.cells #[.int .i64 0] 28)).alloc (.cells #[.int .i64 0] 28)) X := by
    simpa using hbX0
  have x0 : X.cell? ⟨w.heap.size, 0, none⟩ = some (.int .i64 0) := (hbX.cell (p := ⟨w.heap.size, 0, none⟩) (by simp; omega)).trans (by rw [World.cell?_alloc_lt _ _ _ (by simp)]; exact cell_new w _ _ 0 rfl)
  have x1 : X.cell? ⟨w.heap.size + 1, 0, none⟩ = some (.int .i64 0) := (hbX.cell (p := ⟨w.heap.size + 1, 0, none⟩) (by simp)).trans (by simp [World.cell?_alloc_at])
  have y0 : X.frozen? ⟨w.heap.size, 0, none⟩ = false := (hbX.frozen (p := ⟨w.heap.size, 0, none⟩) (by simp; omega)).trans (by simp [World.frozen?_alloc_old])
  have c1 : w1.cell? ⟨w.heap.size + 1, 0, none⟩ = some (.int .i64 n) := by rw [hw1]; exact World.cell?_setCell_same _ _ _ x1
  have c0 : w1.cell? ⟨w.heap.size, 0, none⟩ = some (.int .i64 0) := by rw [hw1, World.cell?_setCell_other _ _ _ _ (by simp)]; exact x0
  have f0 : w1.frozen? ⟨w.heap.size, 0, none⟩ = false := by rw [hw1, World.frozen?_setCell]; exact y0
  have hb1 : Below w.heap.size w w1 := by
    rw [hw1]
    exact (hb.trans (hbX.mono (by omega))).setCell (by simp) _
  have HB := Lib.hid hb1
  clear HA hb hbX hbX0 x0 x1 y0 hw1 hb1 hg hc
  go_wp2_with fail
  refine leaves_cons (f := 29) (args := #[.pointer (some ⟨w.heap.size, 0, none⟩)]) (by simp) (by simp [go_sem]) ?_
  refine (numCatch_idle ⟨w.heap.size, 0, none⟩ _).mono ?_
  rintro e u' w'' ⟨rfl, rfl, rfl⟩
  have c2 : (w1.setCell ⟨w.heap.size, 0, none⟩ (.int .i64 n)).cell? ⟨w.heap.size, 0, none⟩ = some (.int .i64 n) := World.cell?_setCell_same _ _ _ c0
  have hb2 : Below w.heap.size w (w1.setCell ⟨w.heap.size, 0, none⟩ (.int .i64 n)) := HB.out.setCell (by simp) _
  simp [Leaves, settle, results, Tryd.results17, go_sem, c2, hb2]
end Go.Proofs.YtbbhnahbfhjgeaaDoor
