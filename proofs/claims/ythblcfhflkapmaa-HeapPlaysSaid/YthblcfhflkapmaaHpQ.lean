/-
  The heap: Get, Object, Set.
-/
import Derived.Test.YthblcfhflkapmaaHpP
import Derived.Deep.RegionLaw
import Derived.Deep.Cut
import Derived.Deep.CutBlock
import Derived.Deep.DeepCutAuto
import Derived.Deep.LoopGhost
import Derived.Deep.RegionHeld3
import Derived.StillTailTactics
namespace Go.Proofs.Ythblcfhflkapmaa
open Go Go.ChangeShapes Go.WideShapes Go.ChangeAt Go.RowKit Go.Sort
set_option linter.unusedVariables false
set_option linter.unusedSimpArgs false

theorem wordB_some {L : List Ob} {p i : Int} (h : wordB L p i = true) : ∃ (j k : Nat) (u : Wd), at_ L p = some j ∧ i = (k : Nat) ∧ (ob L j).2[k]? = some u ∧ p = (place L j : Nat) ∧ j < L.length ∧ place L j + 1 + k < sizes L := by
  unfold wordB at h
  cases ha : at_ L p with
  | none => rw [ha] at h; cases h
  | some j =>
    rw [ha] at h
    simp only [Bool.and_eq_true, decide_eq_true_eq] at h
    obtain ⟨h1, h2, h3⟩ := at_lt ha
    obtain ⟨k, rfl⟩ : ∃ k : Nat, i = k := ⟨i.toNat, by omega⟩
    have hk : k < (ob L j).2.length := by omega
    exact ⟨j, k, _, rfl, rfl, List.getElem?_eq_getElem hk, h2, h1, by omega⟩
section
variable {w : World} {B hb : Nat} {size runs : Int} {L : List Ob} {V G V' G' : Value}
theorem get_ret {R : Ending → World → Prop} {W : World} {g : Nat} {x0 x1 : Value} (h : W.heap[g]? = some (.cells #[x0, x1] 36)) (tm : Array Value) (y : Value) (h6 : tm[6]?.getD undef = .pointer (some ⟨g, 0, none⟩)) (h7 : tm[7]?.getD undef = y) (hR : R (.returned (.tuple #[.agg #[x0, x1], y])) W) :
    bodyPost Try.prog Try.f19 R Exit.ret ⟨tm, []⟩ W := by
  obtain ⟨b0, b1⟩ := cells2 h
  refine bodyPost_ret (by simp [results, Try.results19, go_sem, h6, h7, b0, b1]; try rfl) rfl ?_
  exact hR
set_option maxRecDepth 100000 in
set_option maxHeartbeats 2000000 in
theorem Get_no (h : CH w B hb size runs L V G V' G') (hw : Wf L) (hs : sizes L ≤ 4000000) (p i : Int) (hq : wordB L p i = false) :
    Calls Try.prog 19 #[.pointer (some ⟨hb, 0, none⟩), .int .i64 p, .int .i64 i] w fun e w' => e = .returned (.tuple #[.agg #[.bool false, .int .i64 0], .iface 29 (.int .i64 1)]) ∧ Below w.heap.size w w' := by
  have hb1 : Below w.heap.size w (w.alloc (.cells #[.bool false, .int .i64 0] 36)) := (Below.refl _ _).alloc (Nat.le_refl _) _
  have HC := Lib.hid (hasWord_any (h.below hb1) hw hs p i)
  rw [hq] at HC
  have hx := heap_new (w := w) (o := .cells #[.bool false, .int .i64 0] 36) rfl
  have HB := Lib.hid (And.intro hb1 hx)
  clear h hw hs hq hb1 hx
  go_enter Try.func19, Try.ntmps19
  go_wp2_with (go_at_call 37; (with_reducible refine HC.out.mono ?_); rintro e w1 ⟨rfl, hb2⟩; have hx1 := (hb2.block _ (lt_of_heap HB.out.2)).trans HB.out.2; obtain ⟨c0, c1⟩ := cells2 hx1; have f0 := frozenN hx1 0; have f1 := frozenN hx1 1; have HX := Lib.hid (And.intro hx1 (below_then HB.out.1 hb2)); clear hb2 hx1)
  exact get_ret (set_cells (set_cells HX.out.1 0 _) 1 _) _ _ rfl rfl ⟨rfl, (HX.out.2.setCell (p := ⟨w.heap.size, 0, none⟩) (Nat.le_refl _) _).setCell (p := ⟨w.heap.size, 1, none⟩) (Nat.le_refl _) _⟩
set_option maxRecDepth 100000 in
set_option maxHeartbeats 2000000 in
theorem Get_yes (h : CH w B hb size runs L V G V' G') (hw : Wf L) (hs : sizes L ≤ 4000000) (j k : Nat) (u : Wd) (hj : j < L.length) (hu : (ob L j).2[k]? = some u) :
    Calls Try.prog 19 #[.pointer (some ⟨hb, 0, none⟩), .int .i64 (place L j : Nat), .int .i64 (k : Nat)] w fun e w' => e = .returned (.tuple #[.agg #[.bool u.ptr, .int .i64 u.v], .nilIface]) ∧ Below w.heap.size w w' := by
  have hb1 : Below w.heap.size w (w.alloc (.cells #[.bool false, .int .i64 0] 36)) := (Below.refl _ _).alloc (Nat.le_refl _) _
  have HC := Lib.hid (hasWord_any (h.below hb1) hw hs (place L j : Nat) (k : Nat))
  have hkl := (List.getElem?_eq_some_iff.1 hu).1
  have hfit := place_fit hj
  have hq : wordB L (place L j : Nat) (k : Nat) = true := by
    unfold wordB
    rw [at_some.2 ⟨hj, rfl⟩]
    simp
    omega
  rw [hq] at HC
  have hx := heap_new (w := w) (o := .cells #[.bool false, .int .i64 0] 36) rfl
  obtain ⟨q, c, rfl, hql, _, hrow⟩ := h.row (by omega)
  obtain ⟨r0, r1, _, _⟩ := hrow _ _ (flat_word (ob_get hj) hu)
  have HB := Lib.hid (And.intro hb1 hx)
  have HR := Lib.hid (And.intro (cell_below hb1 r0) (And.intro (cell_below hb1 r1) ((hb1.block hb (lt_of_heap h.hd)).trans h.hd)))
  obtain ⟨P, hP⟩ : ∃ P, place L j = P := ⟨_, rfl⟩
  rw [hP] at HC HR ⊢
  have i2 : (P : Int) + 1 + (k : Int) < (sizes L : Int) := by omega
  have i3 : (sizes L : Int) ≤ 4000000 := by omega
  have i0 : (0 : Int) ≤ (P : Int) + 1 + (k : Int) := by omega
  have i4 : (P : Int) + 1 ≤ 4000000 := by omega
  have i5 : (0 : Int) ≤ (P : Int) + 1 := by omega
  clear h hw hs hq hb1 hx hrow r0 r1 hfit hj hP hu
  go_enter Try.func19, Try.ntmps19
  go_wp2_with (go_at_call 37; (with_reducible refine HC.out.mono ?_); rintro e w1 ⟨rfl, hb2⟩; have hx1 := (hb2.block _ (lt_of_heap HB.out.2)).trans HB.out.2; obtain ⟨c0, c1⟩ := cells2 hx1; have f0 := frozenN hx1 0; have f1 := frozenN hx1 1; have s0 := cell_below hb2 HR.out.1; have s1 := cell_below hb2 HR.out.2.1; obtain ⟨y0, y1, y2, y3, y4, y5⟩ := cells6 ((hb2.block _ (lt_of_heap HR.out.2.2)).trans HR.out.2.2); have HX := Lib.hid (And.intro hx1 (below_then HB.out.1 hb2)); clear hb2 hx1)
  exact get_ret (set_cells (set_cells HX.out.1 0 _) 1 _) _ _ rfl rfl ⟨rfl, (HX.out.2.setCell (p := ⟨w.heap.size, 0, none⟩) (Nat.le_refl _) _).setCell (p := ⟨w.heap.size, 1, none⟩) (Nat.le_refl _) _⟩
end
end Go.Proofs.Ythblcfhflkapmaa
