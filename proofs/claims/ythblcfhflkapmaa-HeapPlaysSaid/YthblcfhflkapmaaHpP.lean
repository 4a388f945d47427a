/-
  The heap: a word of an object, an object, read.
-/
import Derived.Test.YthblcfhflkapmaaHpO
namespace Go.Proofs.Ythblcfhflkapmaa
open Go Go.ChangeShapes Go.WideShapes Go.ChangeAt Go.RowKit Go.Sort
set_option linter.unusedVariables false
set_option linter.unusedSimpArgs false

/-- Whether there is a word. -/
def wordB (L : List Ob) (p i : Int) : Bool := match at_ L p with
  | none => false
  | some j => decide (0 ≤ i) && decide (i < ((ob L j).2.length : Int))
theorem at_lt {L : List Ob} {p : Int} {j : Nat} (h : at_ L p = some j) : j < L.length ∧ p = (place L j : Nat) ∧ place L j + 1 + (ob L j).2.length ≤ sizes L := by
  obtain ⟨h1, h2⟩ := at_some.1 h
  exact ⟨h1, h2.symm, place_fit h1⟩
section
variable {w : World} {B hb : Nat} {size runs : Int} {L : List Ob} {V G V' G' : Value}
/-- A heap's row of words, where there is one. -/
theorem CH.row (h : CH w B hb size runs L V G V' G') (h0 : 0 < sizes L) : ∃ q c, V = .slice (some ⟨q, 0, none⟩) (sizes L) c ∧ q < w.heap.size ∧ (sizes L ≤ c ∧ c ≤ maxLen) ∧ ∀ (k : Nat) (u : Wd), (flat L)[k]? = some u → w.cell? ⟨q, k * 2, none⟩ = some (.bool u.ptr) ∧ w.cell? ⟨q, k * 2 + 1, none⟩ = some (.int .i64 u.v) ∧ w.frozen? ⟨q, k * 2, none⟩ = false ∧ w.frozen? ⟨q, k * 2 + 1, none⟩ = false := by
  obtain ⟨m, hm⟩ : ∃ m, sizes L = m + 1 := ⟨sizes L - 1, by omega⟩
  have hfw := h.fw
  rw [hm] at hfw
  obtain ⟨q, c, rfl⟩ := own_some hfw
  rw [← hm] at hfw
  obtain ⟨A', c', e, h1, h2, _⟩ := own_cap hfw
  injection e with e1 e2 e3
  subst e3
  refine ⟨q, c, by rw [hm], (hfw.lt q rfl).2, ⟨h1, h2⟩, fun k u hk => ?_⟩
  obtain ⟨g1, g2⟩ := wcells_at hk
  have a1 := own_cell hfw g1
  have a2 := own_cell hfw g2
  exact ⟨a1.1, a2.1, a1.2, a2.2⟩
theorem head_parts (w : World) {L : List Ob} (hw : Wf L) {j : Nat} (hj : j < L.length) : Calls Try.prog 40 #[.agg #[.bool false, .int .i64 (16 * (ob L j).2.length + (ob L j).1)]] w fun e w' => e = .returned (.tuple #[.int .i64 (ob L j).1, .int .i64 ((ob L j).2.length : Nat), .bool true]) ∧ Below w.heap.size w w' := by
  obtain ⟨k0, k1, k2⟩ := hw.head _ (ob_mem hj)
  have h := parts_yes (16 * (ob L j).2.length + (ob L j).1) (by omega) (by omega) w
  rw [show (16 * ((ob L j).2.length : Int) + (ob L j).1) % 16 = (ob L j).1 by omega, show (16 * ((ob L j).2.length : Int) + (ob L j).1) / 16 = (ob L j).2.length by omega] at h
  exact h
set_option maxRecDepth 100000 in
set_option maxHeartbeats 2000000 in
theorem hasWord_any (h : CH w B hb size runs L V G V' G') (hw : Wf L) (hs : sizes L ≤ 4000000) (p i : Int) :
    Calls Try.prog 37 #[.pointer (some ⟨hb, 0, none⟩), .int .i64 p, .int .i64 i] w fun e w' => e = .returned (.bool (wordB L p i)) ∧ Below w.heap.size w w' := by
  have HI := Lib.hid (isObject_any h hs p)
  obtain ⟨x0, x1, x2, x3, x4, x5⟩ := cells6 h.hd
  unfold wordB
  cases ha : at_ L p with
  | none =>
    rw [ha] at HI
    clear h hw
    go_enter Try.func37, Try.ntmps37
    go_wp2_with (go_at_call 39; (with_reducible refine HI.out.mono ?_); rintro e w1 ⟨rfl, rfl⟩)
    go_returns
    exact ⟨rfl, Below.refl _ _⟩
  | some j =>
    rw [ha] at HI
    obtain ⟨hj, rfl, hfit⟩ := at_lt ha
    obtain ⟨q, c, rfl, _, _, hrow⟩ := h.row (by omega)
    obtain ⟨r0, r1, _, _⟩ := hrow _ _ (flat_head (ob_get hj))
    have HP := Lib.hid (head_parts w hw hj)
    obtain ⟨P, hP⟩ : ∃ P, place L j = P := ⟨_, rfl⟩
    obtain ⟨K, hK⟩ : ∃ K, (ob L j).1 = K := ⟨_, rfl⟩
    obtain ⟨N, hN⟩ : ∃ N, (ob L j).2.length = N := ⟨_, rfl⟩
    have r1' : w.cell? ⟨q, place L j * 2 + 1, none⟩ = some (.int .i64 (16 * (ob L j).2.length + (ob L j).1)) := r1
    have r0' : w.cell? ⟨q, place L j * 2, none⟩ = some (.bool false) := r0
    rw [hP, hN, hK] at r1'
    rw [hP] at r0'
    rw [hP] at HI
    rw [hK, hN] at HP
    rw [hP, hN] at hfit
    have i1 : (P : Int) < (sizes L : Int) := by omega
    have i0 : (0 : Int) ≤ (P : Int) := by omega
    have i2 : (sizes L : Int) ≤ 4000000 := by omega
    simp only [hN, hP]
    clear h hw ha hrow r0 r1 hfit hj hP hK hN
    by_cases q0 : 0 ≤ i
    · have n0 : decide ((0 : Int) ≤ i) = true := decide_eq_true q0
      by_cases q1 : i < (N : Int)
      all_goals
        first
          | have n1 : decide (i < (N : Int)) = true := decide_eq_true q1
          | have n1 : decide (i < (N : Int)) = false := decide_eq_false q1
        go_enter Try.func37, Try.ntmps37
        go_wp2_with (first
          | (go_at_call 39; (with_reducible refine HI.out.mono ?_); rintro e w1 ⟨rfl, rfl⟩)
          | (go_at_call 40; (with_reducible refine HP.out.mono ?_); rintro e w1 ⟨rfl, hb1⟩; have HB := Lib.hid hb1; clear hb1))
        go_returns
        exact ⟨by rw [n0, n1]; rfl, HB.out⟩
    · have n0 : decide ((0 : Int) ≤ i) = false := decide_eq_false q0
      go_enter Try.func37, Try.ntmps37
      go_wp2_with (first
        | (go_at_call 39; (with_reducible refine HI.out.mono ?_); rintro e w1 ⟨rfl, rfl⟩)
        | (go_at_call 40; (with_reducible refine HP.out.mono ?_); rintro e w1 ⟨rfl, hb1⟩; have HB := Lib.hid hb1; clear hb1))
      go_returns
      exact ⟨by rw [n0]; rfl, HB.out⟩
end
end Go.Proofs.Ythblcfhflkapmaa
