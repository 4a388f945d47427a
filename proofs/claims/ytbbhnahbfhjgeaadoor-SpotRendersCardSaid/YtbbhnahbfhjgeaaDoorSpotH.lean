/-
  Place, along a chain; at no error.
-/
import Derived.Test.YtbbhnahbfhjgeaaDoorSpotG
namespace Go.Proofs.YtbbhnahbfhjgeaaDoor
open Go.ChangeShapes Go.WideShapes Go.ChangeAt Go.RowKit
set_option linter.unusedVariables false
set_option linter.unusedSimpArgs false

theorem frozen_at (W : World) (cs : Array Value) (t : TypeId) (k : Nat) (h : W.heap.size = k) : (W.alloc (.cells cs t)).frozen? ⟨k, 0, none⟩ = false := by subst h; simp

theorem placeCatch_idle (p q : Addr) (w : World) :
    CallsD Tryd.prog 22 #[.pointer (some p), .pointer (some q)] .returning w fun e u' w' => e = .returned (.tuple #[]) ∧ u' = .returning ∧ w' = w := by
  refine callsD_of_wpS Tryd.func22 rfl fun c₀ cs hu => ?_
  apply wpS_seq
  apply wpS_region
  simp [wpOpsS, go_sem, recoverD, hu, Tryd.ntmps22, Exit.thenS]
  refine wpS_cond (t := false) (by simp [Act.eval, Array.replicate]) ?_
  simp only [Bool.false_eq_true, if_false]
  refine wpS_of_wp (wp_skip ?_)
  cases c₀
  simp_all [bodyPostS, results, Tryd.results22]

set_option maxRecDepth 100000 in
set_option maxHeartbeats 1000000 in
theorem place_spot (k : Nat) (ty : TypeId) (x : Value) (eb : Nat) (at_ : Int) (w : World) (hg : w.cell? ⟨0, 0, none⟩ = some (.iface 71 (.agg #[hnd 30]))) (hc : WChain w 39 (.pointer (some ⟨eb, 0, none⟩)) k ty x) (hk : k ≤ 200) (hat : w.cell? ⟨eb, 0, none⟩ = some (.int .i64 at_)) :
    Calls Tryd.prog 14 #[.iface ty x] w fun e w' => e = .returned (.tuple #[.int .i64 at_, .bool true]) ∧ Below w.heap.size w w' := by
  have hmf : ∀ (fn : Fn) (first cap : Array Value) (w : World), (Instr.makeFunc fn first cap).run Tryd.prog w = .ok (.func fn first cap) w := fun _ _ _ _ => rfl
  have hb : Below w.heap.size w (((w.alloc (.cells #[.int .i64 0] 3)).alloc (.cells #[.bool false] 4)).alloc (.cells #[.pointer none] 39)) := (((Below.refl _ _).alloc (Nat.le_refl _) _).alloc (by simp) _).alloc (by simp; omega) _
  have x0 : (((w.alloc (.cells #[.int .i64 0] 3)).alloc (.cells #[.bool false] 4)).alloc (.cells #[.pointer none] 39)).cell? ⟨w.heap.size, 0, none⟩ = some (.int .i64 0) := by rw [World.cell?_alloc_lt _ _ _ (by simp; omega), World.cell?_alloc_lt _ _ _ (by simp)]; exact cell_new w _ _ 0 rfl
  have x1 : (((w.alloc (.cells #[.int .i64 0] 3)).alloc (.cells #[.bool false] 4)).alloc (.cells #[.pointer none] 39)).cell? ⟨w.heap.size + 1, 0, none⟩ = some (.bool false) := by rw [World.cell?_alloc_lt _ _ _ (by simp)]; simp [World.cell?_alloc_at]
  have x2 : (((w.alloc (.cells #[.int .i64 0] 3)).alloc (.cells #[.bool false] 4)).alloc (.cells #[.pointer none] 39)).cell? ⟨w.heap.size + 2, 0, none⟩ = some (.pointer none) := by simp [World.cell?_alloc_at]
  have y0 : (((w.alloc (.cells #[.int .i64 0] 3)).alloc (.cells #[.bool false] 4)).alloc (.cells #[.pointer none] 39)).frozen? ⟨w.heap.size, 0, none⟩ = false := by rw [World.frozen?_alloc_old _ _ _ (by simp; omega), World.frozen?_alloc_old _ _ _ (by simp)]; exact frozen_at _ _ _ _ rfl
  have y1 : (((w.alloc (.cells #[.int .i64 0] 3)).alloc (.cells #[.bool false] 4)).alloc (.cells #[.pointer none] 39)).frozen? ⟨w.heap.size + 1, 0, none⟩ = false := by rw [World.frozen?_alloc_old _ _ _ (by simp)]; exact frozen_at _ _ _ _ (by simp)
  have y2 : (((w.alloc (.cells #[.int .i64 0] 3)).alloc (.cells #[.bool false] 4)).alloc (.cells #[.pointer none] 39)).frozen? ⟨w.heap.size + 2, 0, none⟩ = false := frozen_at _ _ _ _ (by simp)
  have hsz : (((w.alloc (.cells #[.int .i64 0] 3)).alloc (.cells #[.bool false] 4)).alloc (.cells #[.pointer none] 39)).heap.size = w.heap.size + 3 := by simp
  have HA := Lib.hid (asSpot_any k ty x ⟨eb, 0, none⟩ ⟨w.heap.size + 2, 0, none⟩ (.pointer none) (((w.alloc (.cells #[.int .i64 0] 3)).alloc (.cells #[.bool false] 4)).alloc (.cells #[.pointer none] 39)) (cell_below hb hg) (hc.lower hb) hk x2 y2)
  have hel : eb < w.heap.size := World.block_lt_of_cell? w _ hat
  have hat3 := cell_below hb hat
  generalize hW3 : (((w.alloc (.cells #[.int .i64 0] 3)).alloc (.cells #[.bool false] 4)).alloc (.cells #[.pointer none] 39)) = W3 at *
  go_enter_defers Tryd.func14, Tryd.ntmps14
  go_wp2_with fail
  refine HA.out.mono ?_
  rintro e w1 ⟨rfl, X, hbX, hw1⟩
  rw [hsz] at hbX
  have c2 : w1.cell? ⟨w.heap.size + 2, 0, none⟩ = some (.pointer (some ⟨eb, 0, none⟩)) := by rw [hw1]; exact World.cell?_setCell_same _ _ _ ((hbX.cell (p := ⟨w.heap.size + 2, 0, none⟩) (by show (w.heap.size + 2) < w.heap.size + 3; omega)).trans x2)
  have c0 : w1.cell? ⟨w.heap.size, 0, none⟩ = some (.int .i64 0) := by rw [hw1, World.cell?_setCell_other _ _ _ _ (by simp)]; exact (hbX.cell (p := ⟨w.heap.size, 0, none⟩) (by show w.heap.size < w.heap.size + 3; omega)).trans x0
  have c1 : w1.cell? ⟨w.heap.size + 1, 0, none⟩ = some (.bool false) := by rw [hw1, World.cell?_setCell_other _ _ _ _ (by simp)]; exact (hbX.cell (p := ⟨w.heap.size + 1, 0, none⟩) (by show (w.heap.size + 1) < w.heap.size + 3; omega)).trans x1
  have ce : w1.cell? ⟨eb, 0, none⟩ = some (.int .i64 at_) := by rw [hw1, World.cell?_setCell_other _ _ _ _ (by simp only [ne_eq, Addr.mk.injEq, not_and]; omega)]; exact (hbX.cell (p := ⟨eb, 0, none⟩) (by show eb < w.heap.size + 3; omega)).trans hat3
  have f0 : w1.frozen? ⟨w.heap.size, 0, none⟩ = false := by rw [hw1, World.frozen?_setCell]; exact (hbX.frozen (p := ⟨w.heap.size, 0, none⟩) (by show w.heap.size < w.heap.size + 3; omega)).trans y0
  have f1 : w1.frozen? ⟨w.heap.size + 1, 0, none⟩ = false := by rw [hw1, World.frozen?_setCell]; exact (hbX.frozen (p := ⟨w.heap.size + 1, 0, none⟩) (by show (w.heap.size + 1) < w.heap.size + 3; omega)).trans y1
  have hb1 : Below w.heap.size w w1 := by
    rw [hw1]
    exact (hb.trans (hbX.mono (by omega))).setCell (by simp) _
  have HB := Lib.hid hb1
  clear HA hb hbX x0 x1 x2 y0 y1 y2 hw1 hb1 hg hc hat hat3 hW3 hsz
  go_wp2_with fail
  refine leaves_cons (f := 22) (args := #[.pointer (some ⟨w.heap.size, 0, none⟩), .pointer (some ⟨w.heap.size + 1, 0, none⟩)]) (by simp) (by simp [go_sem]) ?_
  refine (placeCatch_idle ⟨w.heap.size, 0, none⟩ ⟨w.heap.size + 1, 0, none⟩ _).mono ?_
  rintro e u' w'' ⟨rfl, rfl, rfl⟩
  have c2 : ((w1.setCell ⟨w.heap.size, 0, none⟩ (.int .i64 at_)).setCell ⟨w.heap.size + 1, 0, none⟩ (.bool true)).cell? ⟨w.heap.size, 0, none⟩ = some (.int .i64 at_) := by rw [World.cell?_setCell_other _ _ _ _ (by simp)]; exact World.cell?_setCell_same _ _ _ c0
  have c3 : ((w1.setCell ⟨w.heap.size, 0, none⟩ (.int .i64 at_)).setCell ⟨w.heap.size + 1, 0, none⟩ (.bool true)).cell? ⟨w.heap.size + 1, 0, none⟩ = some (.bool true) := World.cell?_setCell_same _ _ _ (by rw [World.cell?_setCell_other _ _ _ _ (by simp)]; exact c1)
  have hb2 : Below w.heap.size w ((w1.setCell ⟨w.heap.size, 0, none⟩ (.int .i64 at_)).setCell ⟨w.heap.size + 1, 0, none⟩ (.bool true)) := (HB.out.setCell (by simp) _).setCell (by simp) _
  simp [Leaves, settle, results, Tryd.results14, go_sem, c2, c3, hb2]

set_option maxRecDepth 100000 in
set_option maxHeartbeats 1000000 in
theorem place_code (k : Nat) (ty : TypeId) (x : Value) (n : Int) (w : World) (hg : w.cell? ⟨0, 0, none⟩ = some (.iface 71 (.agg #[hnd 30]))) (hc : WChain w 28 (.int .i64 n) k ty x) (hk : k ≤ 200) :
    Calls Tryd.prog 14 #[.iface ty x] w fun e w' => e = .returned (.tuple #[.int .i64 0, .bool false]) ∧ Below w.heap.size w w' := by
  have hmf : ∀ (fn : Fn) (first cap : Array Value) (w : World), (Instr.makeFunc fn first cap).run Tryd.prog w = .ok (.func fn first cap) w := fun _ _ _ _ => rfl
  have hb : Below w.heap.size w (((w.alloc (.cells #[.int .i64 0] 3)).alloc (.cells #[.bool false] 4)).alloc (.cells #[.pointer none] 39)) := (((Below.refl _ _).alloc (Nat.le_refl _) _).alloc (by simp) _).alloc (by simp; omega) _
  have x0 : (((w.alloc (.cells #[.int .i64 0] 3)).alloc (.cells #[.bool false] 4)).alloc (.cells #[.pointer none] 39)).cell? ⟨w.heap.size, 0, none⟩ = some (.int .i64 0) := by rw [World.cell?_alloc_lt _ _ _ (by simp; omega), World.cell?_alloc_lt _ _ _ (by simp)]; exact cell_new w _ _ 0 rfl
  have x1 : (((w.alloc (.cells #[.int .i64 0] 3)).alloc (.cells #[.bool false] 4)).alloc (.cells #[.pointer none] 39)).cell? ⟨w.heap.size + 1, 0, none⟩ = some (.bool false) := by rw [World.cell?_alloc_lt _ _ _ (by simp)]; simp [World.cell?_alloc_at]
  have x2 : (((w.alloc (.cells #[.int .i64 0] 3)).alloc (.cells #[.bool false] 4)).alloc (.cells #[.pointer none] 39)).cell? ⟨w.heap.size + 2, 0, none⟩ = some (.pointer none) := by simp [World.cell?_alloc_at]
  have y0 : (((w.alloc (.cells #[.int .i64 0] 3)).alloc (.cells #[.bool false] 4)).alloc (.cells #[.pointer none] 39)).frozen? ⟨w.heap.size, 0, none⟩ = false := by rw [World.frozen?_alloc_old _ _ _ (by simp; omega), World.frozen?_alloc_old _ _ _ (by simp)]; exact frozen_at _ _ _ _ rfl
  have y1 : (((w.alloc (.cells #[.int .i64 0] 3)).alloc (.cells #[.bool false] 4)).alloc (.cells #[.pointer none] 39)).frozen? ⟨w.heap.size + 1, 0, none⟩ = false := by rw [World.frozen?_alloc_old _ _ _ (by simp)]; exact frozen_at _ _ _ _ (by simp)
  have y2 : (((w.alloc (.cells #[.int .i64 0] 3)).alloc (.cells #[.bool false] 4)).alloc (.cells #[.pointer none] 39)).frozen? ⟨w.heap.size + 2, 0, none⟩ = false := frozen_at _ _ _ _ (by simp)
  have hsz : (((w.alloc (.cells #[.int .i64 0] 3)).alloc (.cells #[.bool false] 4)).alloc (.cells #[.pointer none] 39)).heap.size = w.heap.size + 3 := by simp
  have HA := Lib.hid (asNone_any k ty x n ⟨w.heap.size + 2, 0, none⟩ (.pointer none) (((w.alloc (.cells #[.int .i64 0] 3)).alloc (.cells #[.bool false] 4)).alloc (.cells #[.pointer none] 39)) (cell_below hb hg) (hc.lower hb) hk x2)
  generalize hW3 : (((w.alloc (.cells #[.int .i64 0] 3)).alloc (.cells #[.bool false] 4)).alloc (.cells #[.pointer none] 39)) = W3 at *
  go_enter_defers Tryd.func14, Tryd.ntmps14
  go_wp2_with fail
  refine HA.out.mono ?_
  rintro e w1 ⟨rfl, hbX⟩
  rw [hsz] at hbX
  have c0 : w1.cell? ⟨w.heap.size, 0, none⟩ = some (.int .i64 0) := (hbX.cell (p := ⟨w.heap.size, 0, none⟩) (by show w.heap.size < w.heap.size + 3; omega)).trans x0
  have c1 : w1.cell? ⟨w.heap.size + 1, 0, none⟩ = some (.bool false) := (hbX.cell (p := ⟨w.heap.size + 1, 0, none⟩) (by show (w.heap.size + 1) < w.heap.size + 3; omega)).trans x1
  have c2 : w1.cell? ⟨w.heap.size + 2, 0, none⟩ = some (.pointer none) := (hbX.cell (p := ⟨w.heap.size + 2, 0, none⟩) (by show (w.heap.size + 2) < w.heap.size + 3; omega)).trans x2
  have f0 : w1.frozen? ⟨w.heap.size, 0, none⟩ = false := (hbX.frozen (p := ⟨w.heap.size, 0, none⟩) (by show w.heap.size < w.heap.size + 3; omega)).trans y0
  have f1 : w1.frozen? ⟨w.heap.size + 1, 0, none⟩ = false := (hbX.frozen (p := ⟨w.heap.size + 1, 0, none⟩) (by show (w.heap.size + 1) < w.heap.size + 3; omega)).trans y1
  have hb1 : Below w.heap.size w w1 := hb.trans (hbX.mono (by omega))
  have HB := Lib.hid hb1
  clear HA hb hbX x0 x1 x2 y0 y1 y2 hb1 hg hc hW3 hsz
  go_wp2_with fail
  refine leaves_cons (f := 22) (args := #[.pointer (some ⟨w.heap.size, 0, none⟩), .pointer (some ⟨w.heap.size + 1, 0, none⟩)]) (by simp) (by simp [go_sem]) ?_
  refine (placeCatch_idle ⟨w.heap.size, 0, none⟩ ⟨w.heap.size + 1, 0, none⟩ _).mono ?_
  rintro e u' w'' ⟨rfl, rfl, rfl⟩
  have c2 : ((w1.setCell ⟨w.heap.size, 0, none⟩ (.int .i64 0)).setCell ⟨w.heap.size + 1, 0, none⟩ (.bool false)).cell? ⟨w.heap.size, 0, none⟩ = some (.int .i64 0) := by rw [World.cell?_setCell_other _ _ _ _ (by simp)]; exact World.cell?_setCell_same _ _ _ c0
  have c3 : ((w1.setCell ⟨w.heap.size, 0, none⟩ (.int .i64 0)).setCell ⟨w.heap.size + 1, 0, none⟩ (.bool false)).cell? ⟨w.heap.size + 1, 0, none⟩ = some (.bool false) := World.cell?_setCell_same _ _ _ (by rw [World.cell?_setCell_other _ _ _ _ (by simp)]; exact c1)
  have hb2 : Below w.heap.size w ((w1.setCell ⟨w.heap.size, 0, none⟩ (.int .i64 0)).setCell ⟨w.heap.size + 1, 0, none⟩ (.bool false)) := (HB.out.setCell (by simp) _).setCell (by simp) _
  simp [Leaves, settle, results, Tryd.results14, go_sem, c2, c3, hb2]

set_option maxRecDepth 100000 in
set_option maxHeartbeats 1000000 in
theorem place_nil (w : World) :
    Calls Tryd.prog 14 #[.nilIface] w fun e w' => e = .returned (.tuple #[.int .i64 0, .bool false]) ∧ Below w.heap.size w w' := by
  have hmf : ∀ (fn : Fn) (first cap : Array Value) (w : World), (Instr.makeFunc fn first cap).run Tryd.prog w = .ok (.func fn first cap) w := fun _ _ _ _ => rfl
  have hb : Below w.heap.size w (((w.alloc (.cells #[.int .i64 0] 3)).alloc (.cells #[.bool false] 4)).alloc (.cells #[.pointer none] 39)) := (((Below.refl _ _).alloc (Nat.le_refl _) _).alloc (by simp) _).alloc (by simp; omega) _
  have x0 : (((w.alloc (.cells #[.int .i64 0] 3)).alloc (.cells #[.bool false] 4)).alloc (.cells #[.pointer none] 39)).cell? ⟨w.heap.size, 0, none⟩ = some (.int .i64 0) := by rw [World.cell?_alloc_lt _ _ _ (by simp; omega), World.cell?_alloc_lt _ _ _ (by simp)]; exact cell_new w _ _ 0 rfl
  have x1 : (((w.alloc (.cells #[.int .i64 0] 3)).alloc (.cells #[.bool false] 4)).alloc (.cells #[.pointer none] 39)).cell? ⟨w.heap.size + 1, 0, none⟩ = some (.bool false) := by rw [World.cell?_alloc_lt _ _ _ (by simp)]; simp [World.cell?_alloc_at]
  have x2 : (((w.alloc (.cells #[.int .i64 0] 3)).alloc (.cells #[.bool false] 4)).alloc (.cells #[.pointer none] 39)).cell? ⟨w.heap.size + 2, 0, none⟩ = some (.pointer none) := by simp [World.cell?_alloc_at]
  have y0 : (((w.alloc (.cells #[.int .i64 0] 3)).alloc (.cells #[.bool false] 4)).alloc (.cells #[.pointer none] 39)).frozen? ⟨w.heap.size, 0, none⟩ = false := by rw [World.frozen?_alloc_old _ _ _ (by simp; omega), World.frozen?_alloc_old _ _ _ (by simp)]; exact frozen_at _ _ _ _ rfl
  have y1 : (((w.alloc (.cells #[.int .i64 0] 3)).alloc (.cells #[.bool false] 4)).alloc (.cells #[.pointer none] 39)).frozen? ⟨w.heap.size + 1, 0, none⟩ = false := by rw [World.frozen?_alloc_old _ _ _ (by simp)]; exact frozen_at _ _ _ _ (by simp)
  have y2 : (((w.alloc (.cells #[.int .i64 0] 3)).alloc (.cells #[.bool false] 4)).alloc (.cells #[.pointer none] 39)).frozen? ⟨w.heap.size + 2, 0, none⟩ = false := frozen_at _ _ _ _ (by simp)
  have hsz : (((w.alloc (.cells #[.int .i64 0] 3)).alloc (.cells #[.bool false] 4)).alloc (.cells #[.pointer none] 39)).heap.size = w.heap.size + 3 := by simp
  generalize hW3 : (((w.alloc (.cells #[.int .i64 0] 3)).alloc (.cells #[.bool false] 4)).alloc (.cells #[.pointer none] 39)) = w1 at *
  have HB := Lib.hid hb
  have c0 := x0
  have c1 := x1
  go_enter_defers Tryd.func14, Tryd.ntmps14
  go_wp2_with fail
  refine (as_nil _ _).mono ?_
  rintro e w2 ⟨rfl, rfl⟩
  clear hb hW3 hsz
  go_wp2_with fail
  refine leaves_cons (f := 22) (args := #[.pointer (some ⟨w.heap.size, 0, none⟩), .pointer (some ⟨w.heap.size + 1, 0, none⟩)]) (by simp) (by simp [go_sem]) ?_
  refine (placeCatch_idle ⟨w.heap.size, 0, none⟩ ⟨w.heap.size + 1, 0, none⟩ _).mono ?_
  rintro e u' w'' ⟨rfl, rfl, rfl⟩
  have c2 : ((w1.setCell ⟨w.heap.size, 0, none⟩ (.int .i64 0)).setCell ⟨w.heap.size + 1, 0, none⟩ (.bool false)).cell? ⟨w.heap.size, 0, none⟩ = some (.int .i64 0) := by rw [World.cell?_setCell_other _ _ _ _ (by simp)]; exact World.cell?_setCell_same _ _ _ c0
  have c3 : ((w1.setCell ⟨w.heap.size, 0, none⟩ (.int .i64 0)).setCell ⟨w.heap.size + 1, 0, none⟩ (.bool false)).cell? ⟨w.heap.size + 1, 0, none⟩ = some (.bool false) := World.cell?_setCell_same _ _ _ (by rw [World.cell?_setCell_other _ _ _ _ (by simp)]; exact c1)
  have hb2 : Below w.heap.size w ((w1.setCell ⟨w.heap.size, 0, none⟩ (.int .i64 0)).setCell ⟨w.heap.size + 1, 0, none⟩ (.bool false)) := (HB.out.setCell (by simp) _).setCell (by simp) _
  simp [Leaves, settle, results, Tryd.results14, go_sem, c2, c3, hb2]
end Go.Proofs.YtbbhnahbfhjgeaaDoor
