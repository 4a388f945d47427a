/-
  The number of a place's error.
-/
import Derived.Test.YtbbhnahbfhjgeaaDoorSpotAs
import Derived.Test.YtbbhnahbfhjgeaaDoorMem
import Derived.Lib.Hide
import Derived.Defers
import Derived.Recover
import Derived.Laws.Pointers
namespace Go.Proofs.YtbbhnahbfhjgeaaDoor
open Go.ChangeShapes Go.WideShapes Go.ChangeAt Go.RowKit
set_option linter.unusedVariables false
set_option linter.unusedSimpArgs false

theorem numCatch_idle (p : Addr) (w : World) :
    CallsD Tryd.prog 29 #[.pointer (some p)] .returning w fun e u' w' => e = .returned (.tuple #[]) ∧ u' = .returning ∧ w' = w := by
  refine callsD_of_wpS Tryd.func29 rfl fun c₀ cs hu => ?_
  apply wpS_seq
  apply wpS_region
  simp [wpOpsS, go_sem, recoverD, hu, Tryd.ntmps29, Exit.thenS]
  refine wpS_cond (t := false) (by simp [Act.eval, Array.replicate]) ?_
  simp only [Bool.false_eq_true, if_false]
  refine wpS_of_wp (wp_skip ?_)
  cases c₀
  simp_all [bodyPostS, results, Tryd.results29]

set_option maxRecDepth 100000 in
set_option maxHeartbeats 1000000 in
theorem number_spot (eb : Nat) (n : Int) (w : World) (hg : w.cell? ⟨0, 0, none⟩ = some (.iface 71 (.agg #[hnd 30]))) (he : w.cell? ⟨eb, 1, none⟩ = some (.int .i64 n)) :
    Calls Tryd.prog 17 #[.iface 39 (.pointer (some ⟨eb, 0, none⟩))] w fun e w' => e = .returned (.int .i64 n) ∧ Below w.heap.size w w' := by
  have hmf : ∀ (fn : Fn) (first cap : Array Value) (w : World), (Instr.makeFunc fn first cap).run Tryd.prog w = .ok (.func fn first cap) w := fun _ _ _ _ => rfl
  have hb : Below w.heap.size w ((w.alloc (.cells #[.int .i64 0] 28)).alloc (.cells #[.int .i64 0] 28)) := ((Below.refl _ _).alloc (Nat.le_refl _) _).alloc (by simp) _
  have HA := Lib.hid (as_spot_code eb n ⟨w.heap.size + 1, 0, none⟩ (.int .i64 0) _ (cell_below hb hg) (cell_below hb he) (by simp [World.cell?_alloc_at]) (by simp))
  go_enter_defers Tryd.func17, Tryd.ntmps17
  go_wp2_with fail
  refine HA.out.mono ?_
  rintro e w1 ⟨rfl, hw1⟩
  have hbX : Below (w.heap.size + 1 + 1) ((w.alloc (.cells #[.int .i64 0] 28)).alloc (.cells #[.int .i64 0] 28)) ((((((w.alloc (.cells #[.int .i64 0] 28)).alloc (.cells #[.int .i64 0] 28)).alloc (.cells #[.pointer (some ⟨w.heap.size + 1, 0, none⟩)] 67)).alloc (.cells #[hnd 67, .pointer (some ⟨((w.alloc (.cells #[.int .i64 0] 28)).alloc (.cells #[.int .i64 0] 28)).heap.size, 0, none⟩), .int .u64 150] 56)).alloc (.cells #[hnd 67, .pointer (some ⟨((w.alloc (.cells #[.int .i64 0] 28)).alloc (.cells #[.int .i64 0] 28)).heap.size, 0, none⟩), .int .u64 150] 56)).alloc (.cells #[.int .i64 n] 28)) :=
    ((((Below.refl _ _).alloc (by simp) _).alloc (by simp) _).alloc (by simp) _).alloc (by simp) _
  generalize hX : ((((((w.alloc (.cells #[.int .i64 0] 28)).alloc (.cells #[.int .i64 0] 28)).alloc (.cells #[.pointer (some ⟨w.heap.size + 1, 0, none⟩)] 67)).alloc (.cells #[hnd 67, .pointer (some ⟨((w.alloc (.cells #[.int .i64 0] 28)).alloc (.cells #[.int .i64 0] 28)).heap.size, 0, none⟩), .int .u64 150] 56)).alloc (.cells #[hnd 67, .pointer (some ⟨((w.alloc (.cells #[.int .i64 0] 28)).alloc (.cells #[.int .i64 0] 28)).heap.size, 0, none⟩), .int .u64 150] 56)).alloc (.cells #[.int .i64 n] 28)) = X at hw1 hbX
  have x0 : X.cell? ⟨w.heap.size, 0, none⟩ = some (.int .i64 0) := (hbX.cell (p := ⟨w.heap.size, 0, none⟩) (by simp; omega)).trans (by rw [World.cell?_alloc_lt _ _ _ (by simp)]; exact cell_new w _ _ 0 rfl)
  have x1 : X.cell? ⟨w.heap.size + 1, 0, none⟩ = some (.int .i64 0) := (hbX.cell (p := ⟨w.heap.size + 1, 0, none⟩) (by simp)).trans (by simp [World.cell?_alloc_at])
  have y0 : X.frozen? ⟨w.heap.size, 0, none⟩ = false := (hbX.frozen (p := ⟨w.heap.size, 0, none⟩) (by simp; omega)).trans (by simp [World.frozen?_alloc_old])
  have c1 : w1.cell? ⟨w.heap.size + 1, 0, none⟩ = some (.int .i64 n) := by rw [hw1]; exact World.cell?_setCell_same _ _ _ x1
  have c0 : w1.cell? ⟨w.heap.size, 0, none⟩ = some (.int .i64 0) := by rw [hw1, World.cell?_setCell_other _ _ _ _ (by simp)]; exact x0
  have f0 : w1.frozen? ⟨w.heap.size, 0, none⟩ = false := by rw [hw1, World.frozen?_setCell]; exact y0
  have hb1 : Below w.heap.size w w1 := by
    rw [hw1]
    exact (hb.trans (hbX.mono (by omega))).setCell (by simp) _
  have HB := Lib.hid hb1
  clear HA hb hbX hX x0 x1 y0 hw1 hb1 hg he
  go_wp2_with fail
  refine leaves_cons (f := 29) (args := #[.pointer (some ⟨w.heap.size, 0, none⟩)]) (by simp) (by simp [go_sem]) ?_
  refine (numCatch_idle ⟨w.heap.size, 0, none⟩ _).mono ?_
  rintro e u' w'' ⟨rfl, rfl, rfl⟩
  have c2 : (w1.setCell ⟨w.heap.size, 0, none⟩ (.int .i64 n)).cell? ⟨w.heap.size, 0, none⟩ = some (.int .i64 n) := World.cell?_setCell_same _ _ _ c0
  have hb2 : Below w.heap.size w (w1.setCell ⟨w.heap.size, 0, none⟩ (.int .i64 n)) := HB.out.setCell (by simp) _
  simp [Leaves, settle, results, Tryd.results17, go_sem, c2, hb2]

theorem wrap_nil (s : ByteArray) (w : World) : Calls Tryd.prog 12 #[.string s, .nilIface] w fun e w' => e = .returned .nilIface ∧ w = w' := by
  go_enter Tryd.func12, Tryd.ntmps12
  go_wp2
  go_ret
  exact ⟨rfl, rfl⟩
theorem render_nil (v : Value) (w : World) : Calls Tryd.prog 13 #[v, .nilIface] w fun e w' => e = .returned (.string ⟨#[]⟩) ∧ w = w' := by
  go_enter Tryd.func13, Tryd.ntmps13
  go_wp2_with fail
  go_returns
  exact ⟨rfl, rfl⟩
theorem at_any (p n : Int) (w : World) : Calls Tryd.prog 10 #[.int .i64 p, .int .i64 n] w fun e w' => e = .returned (.iface 39 (.pointer (some ⟨w.heap.size, 0, none⟩))) ∧ w' = w.alloc (.cells #[.int .i64 p, .int .i64 n] 43) := by
  go_enter Tryd.func10, Tryd.ntmps10
  go_wp2_with fail
  go_returns
  exact ⟨rfl, rfl⟩
end Go.Proofs.YtbbhnahbfhjgeaaDoor
