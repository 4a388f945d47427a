/-
  The heap: 'move'.
-/
import Derived.Test.YthblcfhflkapmaaHpV
namespace Go.Proofs.Ythblcfhflkapmaa
open Go Go.ChangeShapes Go.WideShapes Go.ChangeAt Go.RowKit Go.Sort
set_option linter.unusedVariables false
set_option linter.unusedSimpArgs false

theorem move_ret {R : Ending → World → Prop} {W : World} {g : Nat} {x0 x1 : Value} (h : W.heap[g]? = some (.cells #[x0, x1] 36)) (tm : Array Value) (h6 : tm[6]?.getD undef = .pointer (some ⟨g, 0, none⟩)) (hR : R (.returned (.agg #[x0, x1])) W) :
    bodyPost Try.prog Try.f44 R Exit.ret ⟨tm, []⟩ W := by
  obtain ⟨b0, b1⟩ := cells2 h
  refine bodyPost_ret (by simp [results, Try.results44, go_sem, h6, b0, b1]; try rfl) rfl ?_
  exact hR
abbrev wdO (u : Wd) : Obj := .cells #[.bool u.ptr, .int .i64 u.v] 36
abbrev wdZ : Obj := .cells #[.bool false, .int .i64 0] 36
/-- A word's box, written. -/
theorem box_set {w : World} {g B : Nat} {x0 x1 : Value} (h : w.heap[g]? = some (.cells #[x0, x1] 36)) (y0 y1 : Value) (hg : B ≤ g) :
    ((w.setCell ⟨g, 0, none⟩ y0).setCell ⟨g, 1, none⟩ y1).heap[g]? = some (.cells #[y0, y1] 36) ∧ Below B w ((w.setCell ⟨g, 0, none⟩ y0).setCell ⟨g, 1, none⟩ y1) ∧ ∀ b, b ≠ g → ((w.setCell ⟨g, 0, none⟩ y0).setCell ⟨g, 1, none⟩ y1).heap[b]? = w.heap[b]? :=
  ⟨set_cells (set_cells h 0 _) 1 _, ((Below.refl _ _).setCell (p := ⟨g, 0, none⟩) hg _).setCell (p := ⟨g, 1, none⟩) hg _, fun b hb => by rw [set_other _ _ _ _ hb, set_other _ _ _ _ hb]⟩
section
variable {w w' : World} {B hb tb : Nat} {size runs : Int} {L : List Ob} {order : List Nat} {a i : Nat} {V G V' G' TV TG : Value}
set_option maxRecDepth 100000 in
set_option maxHeartbeats 4000000 in
theorem move_int (n : Int) (w : World) (P : Value) (Q : Value) :
    Calls Try.prog 44 #[P, .agg #[.bool false, .int .i64 n], Q] w fun e w' => e = .returned (.agg #[.bool false, .int .i64 n]) ∧ Below w.heap.size w w' := by
  obtain ⟨h0, h1, hb⟩ := two_boxes w (wdO ⟨false, n⟩) wdZ
  have HM := Lib.hid (moved_int n ((w.alloc (wdO ⟨false, n⟩)).alloc wdZ))
  have HB := Lib.hid (And.intro hb (And.intro h0 h1))
  obtain ⟨c0, c1⟩ := cells2 h0
  clear hb h0 h1
  go_enter Try.func44, Try.ntmps44
  go_wp2_with (go_at_call 47; (with_reducible refine HM.out.mono ?_); rintro e w2 ⟨rfl, hb2⟩; have hx := (hb2.block _ (lt_of_heap HB.out.2.2)).trans HB.out.2.2; have f0 := frozenN hx 0; have f1 := frozenN hx 1; obtain ⟨d0, d1⟩ := cells2 ((hb2.block _ (lt_of_heap HB.out.2.1)).trans HB.out.2.1); obtain ⟨z0, z1⟩ := cells2 hx; have H2 := Lib.hid (And.intro hx (below_then HB.out.1 hb2)); clear hb2 hx)
  have h9 := box_set (B := w.heap.size) H2.out.1 (.bool false) (.int .i64 n) (Nat.le_succ _)
  exact move_ret h9.1 _ rfl ⟨rfl, H2.out.2.trans h9.2.1⟩
set_option maxRecDepth 100000 in
set_option maxHeartbeats 4000000 in
/-- A pointer to what was moved. -/
theorem move_old (h : MV w B hb tb size runs L order a i V G V' G' TV TG) (hs : sizes L ≤ 4000000) {j : Nat} (hj : j < L.length) (hjo : j ∈ order) (Q : Value) :
    Calls Try.prog 44 #[.pointer (some ⟨hb, 2, none⟩), .agg #[.bool true, .int .i64 (place L j : Nat)], Q] w fun e w' => e = .returned (.agg #[.bool true, .int .i64 (tpl L order j : Nat)]) ∧ Below w.heap.size w w' := by
  obtain ⟨h0, h1, hb0⟩ := two_boxes w (wdO ⟨true, (place L j : Nat)⟩) wdZ
  obtain ⟨W1, hW1⟩ : ∃ W1, (w.alloc (wdO ⟨true, (place L j : Nat)⟩)).alloc wdZ = W1 := ⟨_, rfl⟩
  have HW1 := Lib.hid hW1
  rw [hW1] at h0 h1 hb0
  have hfit := place_fit hj
  have hm := h.below hb0
  obtain ⟨q, c, rfl, _, hrow⟩ := hm.row (by omega)
  obtain ⟨r0, r1, _, _⟩ := hrow _ _ (from_head hj)
  rw [if_pos hjo] at r0 r1
  obtain ⟨P, hP⟩ : ∃ P, place L j = P := ⟨_, rfl⟩
  obtain ⟨T, hT⟩ : ∃ T, tpl L order j = T := ⟨_, rfl⟩
  rw [hP] at HW1 r0 r1 hfit h0 ⊢
  rw [hT] at r0 r1 ⊢
  have HM := Lib.hid (fun (n : Int) (wr : World) => moved_ptr n wr)
  obtain ⟨c0, c1⟩ := cells2 h0
  have HX := Lib.hid (And.intro h0 (And.intro h1 (And.intro hb0 (And.intro hm.hd (And.intro r0 r1)))))
  have i1 : (P : Int) < (sizes L : Int) := by omega
  have i0 : (0 : Int) ≤ (P : Int) := by omega
  have i2 : (sizes L : Int) ≤ 4000000 := by omega
  clear h hs hj hjo hb0 h0 h1 hW1 hm hrow r0 r1 hfit hP hT
  go_enter Try.func44, Try.ntmps44
  go_upto_region 1 with fail
  rw [HW1.out]
  go_upto_region 4 with (go_at_call 47; (with_reducible refine (HM.out _ _).mono ?_); rintro e w2 ⟨rfl, hb2⟩; have HB2 := Lib.hid hb2; clear hb2)
  obtain ⟨x0, x1, x2, x3, x4, x5⟩ := cells6 ((HB2.out.block _ (lt_of_heap HX.out.2.2.2.1)).trans HX.out.2.2.2.1)
  have s0 := cell_below HB2.out HX.out.2.2.2.2.1
  have s1 := cell_below HB2.out HX.out.2.2.2.2.2
  go_upto_region 5 with fail
  have hb3 : Below w2.heap.size w2 (w2.alloc (wdO ⟨true, (T : Nat)⟩)) := (Below.refl _ _).alloc (Nat.le_refl _) _
  have hx3 := heap_new (w := w2) (o := wdO ⟨true, (T : Nat)⟩) rfl
  have hx1 := (hb3.block _ (lt_of_heap ((HB2.out.block _ (lt_of_heap HX.out.2.1)).trans HX.out.2.1))).trans ((HB2.out.block _ (lt_of_heap HX.out.2.1)).trans HX.out.2.1)
  have H3 := Lib.hid (And.intro hx3 (And.intro hx1 (below_then HB2.out hb3)))
  clear x0 x1 x2 x3 x4 x5 s0 s1 c0 c1
  generalize w2.alloc (wdO ⟨true, (T : Nat)⟩) = w3 at *
  obtain ⟨y0, y1⟩ := cells2 hx3
  clear hb3 hx3 hx1
  go_wp2_with (go_at_call 47; (with_reducible refine (HM.out _ _).mono ?_); rintro e w4 ⟨rfl, hb4⟩; have hx := (hb4.block _ (lt_of_heap H3.out.2.1)).trans H3.out.2.1; have f0 := frozenN hx 0; have f1 := frozenN hx 1; obtain ⟨z0, z1⟩ := cells2 hx; obtain ⟨d0, d1⟩ := cells2 ((hb4.block _ (lt_of_heap H3.out.1)).trans H3.out.1); have H4 := Lib.hid (And.intro hx hb4); clear hb4 hx)
  have h9 := box_set (B := w.heap.size) H4.out.1 (.bool true) (.int .i64 T) (Nat.le_succ _)
  exact move_ret h9.1 _ rfl ⟨rfl, (below_then HX.out.2.2.1 (below_then H3.out.2.2 H4.out.2)).trans h9.2.1⟩
end
end Go.Proofs.Ythblcfhflkapmaa
