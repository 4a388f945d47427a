/-
  What errors tell.
-/
import Derived.Test.YtmkkocfclejpgaaDoorLexAs
import Derived.Test.YtmkkocfclejpgaaDoorLexB
import Derived.Test.YtmkkocfclejpgaaDoorLexE
namespace Go.Proofs.YtmkkocfclejpgaaDoor
open Go.ChangeShapes Go.WideShapes Go.ChangeAt Go.RowKit
set_option linter.unusedVariables false
set_option linter.unusedSimpArgs false

def codeN (n : Int) : Int := if 1 ≤ n ∧ n ≤ 11 then n else -1
theorem code_nil (w : World) : Calls Tryd.prog 18 #[.nilIface] w fun e w' => e = .returned (.int .i64 0) ∧ w = w' := by
  go_enter Tryd.func18, Tryd.ntmps18
  go_wp2
  go_returns
  exact ⟨rfl, rfl⟩
theorem code_any (n : Int) (w : World) : Calls Tryd.prog 18 #[.iface 41 (.int .i64 n)] w fun e w' => e = .returned (.int .i64 (codeN n)) ∧ w = w' := by
  go_enter Tryd.func18, Tryd.ntmps18
  go_wp2_with fail
  go_loop [3] (fun i => ∃ k : Nat, i = .int .i64 k ∧ 1 ≤ k ∧ k ≤ 12 ∧ (n < 1 ∨ (k : Int) ≤ n)) (fun i => 12 - (intOf i).toNat)
  case atStart => exact ⟨1, rfl, by omega, by omega, by omega⟩
  case round =>
    obtain ⟨k, rfl, hk1, hk2, hn⟩ := hrel
    by_cases hlt : k ≤ 11
    · have z0 : (k : Int) ≤ 11 := by omega
      by_cases he : n = (k : Int)
      · have z1 : (n == (k : Int)) = true := by rw [beq_iff_eq]; exact he
        have HE := Lib.hid he
        clear he hn
        go_wp2_with fail
        go_returns
        refine ⟨?_, rfl⟩
        unfold codeN
        rw [if_pos (by have := HE.out; omega), HE.out]; rfl
      · have z1 : (n == (k : Int)) = false := by rw [beq_eq_false_iff_ne]; exact he
        have HE := Lib.hid (And.intro he hn)
        clear he hn
        go_wp2_with fail
        go_round
        case rel => exact ⟨k + 1, by go_num, by omega, by omega, by have := HE.out; omega⟩
        case measure => simp [intOf] <;> omega
    · have z0 : ¬ (k : Int) ≤ 11 := by omega
      have HE := Lib.hid hn
      clear hn
      go_wp2_with fail
      go_returns
      refine ⟨?_, rfl⟩
      unfold codeN
      rw [if_neg (by have := HE.out; omega)]; rfl

theorem of_nil (w : World) : Calls Tryd.prog 9 #[.nilIface] w fun e w' => e = .returned (.tuple #[.int .i64 0, .int .i64 (-1)]) ∧ Below w.heap.size w w' := by
  go_enter Tryd.func9, Tryd.ntmps9
  go_wp2_with fail
  refine (as_nil _ _).mono ?_
  rintro e w1 ⟨rfl, rfl⟩
  go_wp2_with fail
  refine (code_nil _).mono ?_
  rintro e w1 ⟨rfl, rfl⟩
  go_wp2_with fail
  go_ret2
  exact ⟨rfl, (Below.refl _ _).alloc (Nat.le_refl _) _⟩
theorem of_code (n : Int) (w : World) (hL : Lay w) : Calls Tryd.prog 9 #[.iface 41 (.int .i64 n)] w fun e w' => e = .returned (.tuple #[.int .i64 (codeN n), .int .i64 (-1)]) ∧ Below w.heap.size w w' := by
  have hb : Below w.heap.size w (w.alloc (.cells #[.pointer none] 52)) := (Below.refl _ _).alloc (Nat.le_refl _) _
  have HA := Lib.hid (as_miss n ⟨w.heap.size, 0, none⟩ (.pointer none) (w.alloc (.cells #[.pointer none] 52)) (hL.below hb).et (cell_new w _ _ 0 rfl))
  go_enter Tryd.func9, Tryd.ntmps9
  go_wp2_with fail
  refine HA.out.mono ?_
  rintro e w1 ⟨rfl, hb1⟩
  go_wp2_with fail
  refine (code_any n w1).mono ?_
  rintro e w2 ⟨rfl, rfl⟩
  go_wp2_with fail
  go_ret2
  exact ⟨rfl, below_then hb hb1⟩

set_option maxRecDepth 100000 in
set_option maxHeartbeats 1000000 in
theorem of_spot (v : Value) (p : Nat) (w : World) (hL : Lay w) (hv : ErrAt 0 w v p) : Calls Tryd.prog 9 #[v] w fun e w' => e = .returned (.tuple #[.int .i64 2, .int .i64 (p : Int)]) ∧ Below w.heap.size w w' := by
  obtain ⟨g, _, rfl, h0, h1⟩ := hv
  have hg := World.block_lt_of_cell? w _ h0
  have hb : Below w.heap.size w (w.alloc (.cells #[.pointer none] 52)) := (Below.refl _ _).alloc (Nat.le_refl _) _
  have HA := Lib.hid (as_hit ⟨g, 0, none⟩ ⟨w.heap.size, 0, none⟩ (.pointer none) (w.alloc (.cells #[.pointer none] 52)) (hL.below hb).et (cell_new w _ _ 0 rfl) (by simp))
  have HG := Lib.hid (And.intro h0 (And.intro h1 hg))
  clear h0 h1 hg hL
  go_enter Tryd.func9, Tryd.ntmps9
  go_wp2_with fail
  refine HA.out.mono ?_
  rintro e w1 ⟨rfl, hw⟩
  have hb1 : Below w.heap.size w w1 := by
    rw [hw]
    refine (((((hb.alloc ?_ _).alloc ?_ _).alloc ?_ _).alloc ?_ _).setCell ?_ _) <;> simp <;> omega
  have hc0 : w1.cell? ⟨w.heap.size, 0, none⟩ = some (.pointer (some ⟨g, 0, none⟩)) := by
    rw [hw]
    exact World.cell?_setCell_same _ _ _ (cell_alloc (cell_alloc (cell_alloc (cell_alloc (cell_new w _ _ 0 rfl)))))
  have HB := Lib.hid hb1
  have c0 := cell_below hb1 HG.out.1
  have c1 := cell_below hb1 HG.out.2.1
  clear hw hb1 hb
  go_wp2_with fail
  go_quiet (fail)
  go_wp2_with fail
  go_ret2
  exact ⟨rfl, below_drewN HB.out _⟩
end Go.Proofs.YtmkkocfclejpgaaDoor
