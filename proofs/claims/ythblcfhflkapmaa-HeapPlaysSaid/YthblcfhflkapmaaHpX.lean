/-
  The heap: 'move' of what wasn't moved yet.
-/
import Derived.Test.YthblcfhflkapmaaHpW
namespace Go.Proofs.Ythblcfhflkapmaa
open Go Go.ChangeShapes Go.WideShapes Go.ChangeAt Go.RowKit Go.Sort
set_option linter.unusedVariables false
set_option linter.unusedSimpArgs false

section
variable {w w' : World} {B hb tb : Nat} {size runs : Int} {L : List Ob} {order : List Nat} {a i : Nat} {V G V' G' TV TG : Value}
/-- What stands of the left half behind an 'add' to the other one. -/
theorem MV.hold (h : MV w B hb tb size runs L order a i V G V' G' TV TG) {T : TypeId} {cs cs' : Array Value} {nX nY : Nat} {X Y : List Value} {TV1 TG1 : Value} (ha : AS w B tb 0 T cs TV TG nX X nY Y w' cs' TV1 TG1) :
    w'.heap[hb]? = some (.cells #[.int .i64 size, .int .i64 runs, V, G, V', G'] HTy) ∧ w'.ownsRow B WTy 2 V (sizes L) (wcells (fromW L order)) := by
  have hht : hb ≠ tb := fun e => by
    have := h.hd
    rw [e, h.td] at this
    injection this with this
    injection this with _ this _
    exact absurd this (by decide)
  refine ⟨(ha.kp hb (lt_of_heap h.hd) hht (own_ne h.tw h.hd (by decide)) (own_ne h.tg h.hd (by decide))).trans h.hd, own_keep h.fw (fun g hg hl => ha.kp g hl (fun e => own_ne h.fw h.td (by decide) (by rw [← e, hg])) (fun e => h.dw g hg e.symm) (fun e => own_ne2 h.tg h.fw (by decide) hg e.symm))⟩
theorem MV.fresh (h : MV w B hb tb size runs L order a i V G V' G' TV TG) {b : Nat} (hb' : w.heap.size ≤ b) : Nm tb V G TV TG b := by
  have h1 := lt_of_heap h.td
  refine ⟨by omega, fun e => ?_, fun e => ?_, fun e => ?_, fun e => ?_⟩
  · have := (h.fw.lt b e.symm).2; omega
  · have := (h.fg.lt b e.symm).2; omega
  · have := (h.tw.lt b e.symm).2; omega
  · have := (h.tg.lt b e.symm).2; omega
theorem own_word {w : World} {B q c n : Nat} {l : List Wd} (h : w.ownsRow B WTy 2 (.slice (some ⟨q, 0, none⟩) n c) n (wcells l)) {k : Nat} {u : Wd} (hk : l[k]? = some u) : w.cell? ⟨q, k * 2, none⟩ = some (.bool u.ptr) ∧ w.cell? ⟨q, k * 2 + 1, none⟩ = some (.int .i64 u.v) ∧ w.frozen? ⟨q, k * 2, none⟩ = false ∧ w.frozen? ⟨q, k * 2 + 1, none⟩ = false := by
  obtain ⟨g1, g2⟩ := wcells_at hk
  have a1 := own_cell h g1
  have a2 := own_cell h g2
  exact ⟨a1.1, a2.1, a1.2, a2.2⟩
/-- A block that is none of these was written. -/
theorem MV.box (h : MV w B hb tb size runs L order a i V G V' G' TV TG) {g : Nat} (hn : Nm tb V G TV TG g) (hk : ∀ b, b ≠ g → w'.heap[b]? = w.heap[b]?) (hgb : g ≠ hb) : MV w' B hb tb size runs L order a i V G V' G' TV TG :=
  ⟨(hk hb (Ne.symm hgb)).trans h.hd, own_keep h.fw (fun x hx _ => hk x (fun e => hn.2.1 (by rw [← e, hx]))), own_keep h.fg (fun x hx _ => hk x (fun e => hn.2.2.1 (by rw [← e, hx]))), (hk tb (Ne.symm hn.1)).trans h.td, own_keep h.tw (fun x hx _ => hk x (fun e => hn.2.2.2.1 (by rw [← e, hx]))), own_keep h.tg (fun x hx _ => hk x (fun e => hn.2.2.2.2 (by rw [← e, hx]))), h.dw, h.dg, h.gh, h.gt⟩
theorem Tr.box {P Q : Nat → Prop} {w w1 w' : World} {g : Nat} (h : Tr w P w1 Q) (hg : w.heap.size ≤ g) (hk : ∀ b, b ≠ g → w'.heap[b]? = w1.heap[b]?) : Tr w P w' Q := fun b hb hl => ⟨(h b hb hl).1, (hk b (by omega)).trans (h b hb hl).2⟩
set_option maxRecDepth 100000 in
set_option maxHeartbeats 16000000 in
theorem move_new (h : MV w B hb tb size runs L order a i V G V' G' TV TG) (hL : Lk L order a i) (hW : Wf L) (hO : sizes (obs L order) ≤ 4000000) (hs : sizes L ≤ 4000000) {j : Nat} (hj : j < L.length) (hjo : j ∉ order) :
    Calls Try.prog 44 #[.pointer (some ⟨hb, 2, none⟩), .agg #[.bool true, .int .i64 (place L j : Nat)], .pointer (some ⟨tb, 0, none⟩)] w fun e w' => e = .returned (.agg #[.bool true, .int .i64 (sizes (obs L order) : Nat)]) ∧ ∃ TV1 TG1, MV w' B hb tb size runs L (order ++ [j]) a i V G V' G' TV1 TG1 ∧ Tr w (Nm tb V G TV TG) w' (Nm tb V G TV1 TG1) ∧ Below B w w' := by
  obtain ⟨h0, h1, hb0⟩ := two_boxes w (wdO ⟨true, (place L j : Nat)⟩) wdZ
  obtain ⟨W1, hW1⟩ : ∃ W1, (w.alloc (wdO ⟨true, (place L j : Nat)⟩)).alloc wdZ = W1 := ⟨_, rfl⟩
  have HW1 := Lib.hid hW1
  rw [hW1] at h0 h1 hb0
  have hfit := place_fit hj
  have hm := h.below hb0
  have hBw : B ≤ w.heap.size := Nat.le_trans h.gt (Nat.le_of_lt (lt_of_heap h.td))
  obtain ⟨q, c, hV, hcc, hrow⟩ := hm.row (by omega)
  obtain ⟨r0, r1, _, _⟩ := hrow _ _ (from_head hj)
  rw [if_neg hjo] at r0 r1
  have r1' : W1.cell? ⟨q, place L j * 2 + 1, none⟩ = some (.int .i64 (16 * (ob L j).2.length + (ob L j).1)) := r1
  have r0' : W1.cell? ⟨q, place L j * 2, none⟩ = some (.bool false) := r0
  obtain ⟨k0, k1, k2⟩ := hW.head _ (ob_mem hj)
  have HM1 := Lib.hid (fun (n : Int) (wr : World) => moved_ptr n wr)
  have HM0 := Lib.hid (fun (n : Int) (wr : World) => moved_int n wr)
  have HPA := Lib.hid (fun (wr : World) => head_parts wr hW hj)
  have HAT := Lib.hid (fun (n : Int) (wr : World) => at_any n wr)
  have HADD := Lib.hid (fun (V5 : World) (hb5 : Below W1.heap.size W1 V5) (A : Option Addr) (hA : A = some ⟨q, (place L j + 1) * 2, none⟩ ∨ (ob L j).2.length = 0) (c' : Nat) => (show Calls Try.prog 34 #[.pointer (some ⟨tb, 0, none⟩), .agg #[.bool false, .int .i64 (16 * (ob L j).2.length + (ob L j).1)], .slice A (ob L j).2.length c'] V5 fun e w' => e = .returned (.int .i64 (sizes (obs L order) : Nat)) ∧ ∃ cs' V1 G1, AS V5 B tb 0 FTy #[TV, TG] TV TG (sizes (obs L order) + 1 + (ob L j).2.length) (wcells (flat (tobjs L order a i)) ++ wcells [hdW (ob L j)] ++ wcells (ob L j).2) (sizes (obs L order) + 1 + (ob L j).2.length) (bcells (begs (obs L order)) ++ bcells (true :: List.replicate (ob L j).2.length false)) w' cs' V1 G1 from
    add_any (hm.below hb5).td ⟨by decide, by decide⟩ rfl rfl (hm.below hb5).tw (hm.below hb5).tg h.gt (hdW (ob L j)) A (ob L j).2 c' (by
      rcases hA with rfl | e0
      · exact (hm.cut hj hV).below hb5
      · rw [List.eq_nil_of_length_eq_zero e0]
        exact Rd.nil _ _ _) (fun x hx h0' => by
      rcases hA with rfl | e0
      · cases hx
        exact fun e => h.dw q (by rw [hV]; rfl) e.symm
      · omega) (by omega)))
  obtain ⟨c0, c1⟩ := cells2 h0
  have HX := Lib.hid (And.intro h0 (And.intro h1 (And.intro hb0 (And.intro hm (And.intro r0' r1')))))
  have HY := Lib.hid (And.intro hL (And.intro hj (And.intro hjo (And.intro hV (And.intro hcc hBw)))))
  have i1 : (place L j : Int) < (sizes L : Int) := by omega
  have i0 : (0 : Int) ≤ (place L j : Int) := by omega
  have i2 : (sizes L : Int) ≤ 4000000 := by omega
  have i3 : (place L j : Int) + 1 + ((ob L j).2.length : Int) ≤ (sizes L : Int) := by omega
  have i4 : (place L j : Int) + 1 + ((ob L j).2.length : Int) ≤ (c : Int) := by omega
  have i5 : (place L j : Int) + 1 ≤ (place L j : Int) + 1 + ((ob L j).2.length : Int) := by omega
  have i6 : (0 : Int) ≤ (place L j : Int) + 1 := by omega
  have i7 : (0 : Int) ≤ (place L j : Int) + 1 + ((ob L j).2.length : Int) := by omega
  have j1 : ((place L j : Int) + 1).toNat = place L j + 1 := by omega
  have j2 : ((place L j : Int) + 1 + ((ob L j).2.length : Int)).toNat = place L j + 1 + (ob L j).2.length := by omega
  have j3 : place L j + 1 + (ob L j).2.length - (place L j + 1) = (ob L j).2.length := by omega
  have e1 : IntKind.i64.wrap ((place L j : Int) + 1) = (place L j : Int) + 1 := by rw [IntKind.wrap_i64]; omega
  have e2 : IntKind.i64.wrap ((place L j : Int) + 1 + ((ob L j).2.length : Int)) = (place L j : Int) + 1 + ((ob L j).2.length : Int) := by rw [IntKind.wrap_i64]; omega
  have HI4 := Lib.hid (show place L j + 1 + (ob L j).2.length ≤ c by omega)
  have hVx := hm.hd
  have HHD := Lib.hid hVx
  have HTR := Lib.hid (Tr.below (P := Nm tb V G TV TG) hb0)
  have HHB := Lib.hid (lt_of_heap h.hd)
  have HFR := Lib.hid (fun (b : Nat) (hb' : w.heap.size ≤ b) => h.fresh hb')
  clear h hs hO hj hjo hb0 h0 h1 hW1 hm hrow r0 r1 r0' r1' hfit hL hW k0 k1 k2 hcc hBw hVx
  subst hV
  go_enter Try.func44, Try.ntmps44
  go_upto_region 1 with fail
  rw [HW1.out]
  go_upto_region 4 with (go_at_call 47; (with_reducible refine (HM1.out _ _).mono ?_); rintro e w2 ⟨rfl, hb2⟩; have HB2 := Lib.hid hb2; clear hb2)
  obtain ⟨x0, x1, x2, x3, x4, x5⟩ := cells6 ((HB2.out.block _ (lt_of_heap HHD.out)).trans HHD.out)
  have s0 := cell_below HB2.out HX.out.2.2.2.2.1
  have s1 := cell_below HB2.out HX.out.2.2.2.2.2
  go_upto_region 5 with fail
  have hb3 : Below w2.heap.size w2 (w2.alloc (.cells #[.bool false, .int .i64 (16 * (ob L j).2.length + (ob L j).1)] 36)) := (Below.refl _ _).alloc (Nat.le_refl _) _
  have hx3 : (w2.alloc (.cells #[.bool false, .int .i64 (16 * (ob L j).2.length + (ob L j).1)] 36)).heap[w2.heap.size]? = some (.cells #[.bool false, .int .i64 (16 * (ob L j).2.length + (ob L j).1)] 36) := heap_new (w := w2) rfl
  have H3 := Lib.hid (And.intro hx3 (below_then HB2.out hb3))
  clear x0 x1 x2 x3 x4 x5 s0 s1 c0 c1 hb3
  generalize w2.alloc (.cells #[.bool false, .int .i64 (16 * (ob L j).2.length + (ob L j).1)] 36) = w3 at *
  obtain ⟨y0, y1⟩ := cells2 hx3
  clear hx3
  go_upto_region 6 with (go_at_call 47; (with_reducible refine (HM0.out _ _).mono ?_); rintro e w4 ⟨rfl, hb4⟩; have H4 := Lib.hid (below_then H3.out.2 hb4); obtain ⟨y0', y1'⟩ := cells2 ((hb4.block _ (lt_of_heap H3.out.1)).trans H3.out.1); have HX4 := Lib.hid ((hb4.block _ (lt_of_heap H3.out.1)).trans H3.out.1); clear hb4)
  go_upto_region 9 with (go_at_call 40; (with_reducible refine (HPA.out _).mono ?_); rintro e w5 ⟨rfl, hb5⟩; have H5 := Lib.hid (And.intro (below_then H4.out hb5) ((hb5.block _ (lt_of_heap HX4.out)).trans HX4.out)); clear hb5)
  have HV5 := Lib.hid (below_then H5.out.1 (below_drew1 w5))
  have HM5 := Lib.hid (HX.out.2.2.2.1.below HV5.out)
  obtain ⟨y0, y1⟩ := cells2 H5.out.2
  obtain ⟨x0, x1, x2, x3, x4, x5⟩ := cells6 HM5.out.hd
  replace x2 : w5.cell? ⟨hb, 2, none⟩ = some (.slice (some ⟨q, 0, none⟩) (sizes L) c) := x2
  clear x0 x1 x3 x4 x5
  by_cases hc : c = place L j + 1
  · subst hc
    have HDONE := Lib.hid (fun (w6 w7 : World) (cs' : Array Value) (TV1 TG1 : Value) (has : AS w5.drew B tb 0 FTy #[TV, TG] TV TG (sizes (obs L order) + 1 + (ob L j).2.length) (wcells (flat (tobjs L order a i)) ++ wcells [hdW (ob L j)] ++ wcells (ob L j).2) (sizes (obs L order) + 1 + (ob L j).2.length) (bcells (begs (obs L order)) ++ bcells (true :: List.replicate (ob L j).2.length false)) w6 cs' TV1 TG1) (hb7 : Below w6.heap.size w6 w7) => (show (fun wx => ∃ TV1 TG1, MV wx B hb tb size runs L (order ++ [j]) a i (.slice (some ⟨q, 0, none⟩) (sizes L) (place L j + 1)) G V' G' TV1 TG1 ∧ Tr w (Nm tb (.slice (some ⟨q, 0, none⟩) (sizes L) (place L j + 1)) G TV TG) wx (Nm tb (.slice (some ⟨q, 0, none⟩) (sizes L) (place L j + 1)) G TV1 TG1) ∧ Below B w wx ∧ wx.heap[w.heap.size + 1]? = some wdZ ∧ Nm tb (.slice (some ⟨q, 0, none⟩) (sizes L) (place L j + 1)) G TV1 TG1 (w.heap.size + 1)) ((w7.setCell ⟨q, place L j * 2, none⟩ (.bool true)).setCell ⟨q, place L j * 2 + 1, none⟩ (.int .i64 (sizes (obs L order)))) from by
      obtain ⟨m1, m2, m3⟩ := HM5.out.moved HY.out.1 HY.out.2.1 HY.out.2.2.1 rfl (has.below hb7 (Nat.le_trans HY.out.2.2.2.2.2 (Nat.le_trans (Nat.le_trans HX.out.2.2.1.size HV5.out.size) has.le)))
      obtain ⟨hn8, hz8⟩ := m2 (w.heap.size + 1) (HFR.out (w.heap.size + 1) (Nat.le_succ _)) (by have := lt_of_heap HX.out.2.1; have := HV5.out.size; omega)
      have hz5 := (HV5.out.block _ (lt_of_heap HX.out.2.1)).trans HX.out.2.1
      exact ⟨TV1, TG1, m1, HTR.out.trans HX.out.2.2.1.size ((Tr.below HV5.out).trans HV5.out.size m2), (HX.out.2.2.1.mono HY.out.2.2.2.2.2).trans ((HV5.out.mono (Nat.le_trans HY.out.2.2.2.2.2 HX.out.2.2.1.size)).trans m3), hz8.trans hz5, hn8⟩))
    go_cut [] from 43 to 64 (fun wx => ∃ TV1 TG1, MV wx B hb tb size runs L (order ++ [j]) a i (.slice (some ⟨q, 0, none⟩) (sizes L) (place L j + 1)) G V' G' TV1 TG1 ∧ Tr w (Nm tb (.slice (some ⟨q, 0, none⟩) (sizes L) (place L j + 1)) G TV TG) wx (Nm tb (.slice (some ⟨q, 0, none⟩) (sizes L) (place L j + 1)) G TV1 TG1) ∧ Below B w wx ∧ wx.heap[w.heap.size + 1]? = some wdZ ∧ Nm tb (.slice (some ⟨q, 0, none⟩) (sizes L) (place L j + 1)) G TV1 TG1 (w.heap.size + 1))
    case first =>
      have i8 : (place L j : Int) + 1 + ((ob L j).2.length : Int) ≤ (place L j : Int) + 1 := by have := HI4.out; omega
      have HA5 := Lib.hid (HADD.out w5.drew HV5.out (some ⟨q, 0, none⟩) (.inr (by have := HI4.out; omega)))
      go_region_law (first
        | (go_simp; go_at_call 34; (with_reducible refine (HA5.out _).mono ?_); rintro e w6 ⟨rfl, cs', TV1, TG1, has⟩; obtain ⟨hd6, fw6⟩ := HM5.out.hold has; have hy6 := (has.kp _ (lt_of_heap H5.out.2) (HFR.out _ (Nat.le_trans HX.out.2.2.1.size HB2.out.size)).1 (HFR.out _ (Nat.le_trans HX.out.2.2.1.size HB2.out.size)).2.2.2.1 (HFR.out _ (Nat.le_trans HX.out.2.2.1.size HB2.out.size)).2.2.2.2).trans H5.out.2; obtain ⟨y60, y61⟩ := cells2 hy6; have x62 := (cells6 hd6).2.2.1; obtain ⟨v60, v61, f60, f61⟩ := own_word fw6 (from_head (order := order) HY.out.2.1); have HS6 := Lib.hid (And.intro has (And.intro hd6 fw6)); clear has hd6 fw6 hy6)
        | (go_simp; go_at_call 14; (with_reducible refine (HAT.out _ _).mono ?_); rintro e w7 ⟨rfl, hb7⟩; have x72 := (cells6 ((hb7.block _ (lt_of_heap HS6.out.2.1)).trans HS6.out.2.1)).2.2.1; obtain ⟨v70, v71, f70, f71⟩ := own_word (own_below HS6.out.2.2 hb7) (from_head (order := order) HY.out.2.1); have HS7 := Lib.hid hb7; clear hb7)
        | go_simp)
      all_goals
        clear y0 y1 x2 v60 v61 f60 f61 v70 v71 f70 f71 x62 x72 y60 y61
        have HFIN := Lib.hid (HDONE.out _ _ _ _ _ HS6.out.1 HS7.out)
        generalize (w7.setCell ⟨q, place L j * 2, none⟩ (.bool true)).setCell ⟨q, place L j * 2 + 1, none⟩ (.int .i64 (sizes (obs L order))) = w8 at *
        go_wp2_with fail
        go_meet
        exact HFIN.out
    case rest =>
      obtain ⟨TV1, TG1, m1, m2, m3, m4, m5⟩ := hcut
      have hv8 := own_word m1.fw (from_head (order := order ++ [j]) HY.out.2.1)
      rw [if_pos (by simp), tpl_new HY.out.2.2.1] at hv8
      obtain ⟨x80, x81, x82, x83, x84, x85⟩ := cells6 m1.hd
      obtain ⟨v80, v81, f80, f81⟩ := hv8
      obtain ⟨z0, z1⟩ := cells2 m4
      have g0 := frozenN m4 0
      have g1 := frozenN m4 1
      have H8 := Lib.hid (And.intro m1 (And.intro m2 (And.intro m3 (And.intro m4 m5))))
      have HBW := Lib.hid HY.out.2.2.2.2.2
      clear m1 m2 m3 m4 m5 y0 y1 x2 HDONE HADD HM5 HV5 H5 HX4 H4 H3 HB2 HFR HTR HHD HX HAT HPA HM0 HM1 HW1 HY HI4
      go_wp2_with fail
      have h9 := box_set (B := w.heap.size) H8.out.2.2.2.1 (.bool true) (.int .i64 (sizes (obs L order))) (Nat.le_succ _)
      exact move_ret h9.1 _ rfl ⟨rfl, TV1, TG1, H8.out.1.box H8.out.2.2.2.2 (fun b hb => h9.2.2 b hb) (by have := HHB.out; omega), H8.out.2.1.box (g := w.heap.size + 1) (Nat.le_succ _) (fun b hb => h9.2.2 b hb), H8.out.2.2.1.trans (h9.2.1.mono HBW.out)⟩
  · have HDONE := Lib.hid (fun (w6 w7 : World) (cs' : Array Value) (TV1 TG1 : Value) (has : AS w5.drew B tb 0 FTy #[TV, TG] TV TG (sizes (obs L order) + 1 + (ob L j).2.length) (wcells (flat (tobjs L order a i)) ++ wcells [hdW (ob L j)] ++ wcells (ob L j).2) (sizes (obs L order) + 1 + (ob L j).2.length) (bcells (begs (obs L order)) ++ bcells (true :: List.replicate (ob L j).2.length false)) w6 cs' TV1 TG1) (hb7 : Below w6.heap.size w6 w7) => (show (fun wx => ∃ TV1 TG1, MV wx B hb tb size runs L (order ++ [j]) a i (.slice (some ⟨q, 0, none⟩) (sizes L) c) G V' G' TV1 TG1 ∧ Tr w (Nm tb (.slice (some ⟨q, 0, none⟩) (sizes L) c) G TV TG) wx (Nm tb (.slice (some ⟨q, 0, none⟩) (sizes L) c) G TV1 TG1) ∧ Below B w wx ∧ wx.heap[w.heap.size + 1]? = some wdZ ∧ Nm tb (.slice (some ⟨q, 0, none⟩) (sizes L) c) G TV1 TG1 (w.heap.size + 1)) ((w7.setCell ⟨q, place L j * 2, none⟩ (.bool true)).setCell ⟨q, place L j * 2 + 1, none⟩ (.int .i64 (sizes (obs L order)))) from by
      obtain ⟨m1, m2, m3⟩ := HM5.out.moved HY.out.1 HY.out.2.1 HY.out.2.2.1 rfl (has.below hb7 (Nat.le_trans HY.out.2.2.2.2.2 (Nat.le_trans (Nat.le_trans HX.out.2.2.1.size HV5.out.size) has.le)))
      obtain ⟨hn8, hz8⟩ := m2 (w.heap.size + 1) (HFR.out (w.heap.size + 1) (Nat.le_succ _)) (by have := lt_of_heap HX.out.2.1; have := HV5.out.size; omega)
      have hz5 := (HV5.out.block _ (lt_of_heap HX.out.2.1)).trans HX.out.2.1
      exact ⟨TV1, TG1, m1, HTR.out.trans HX.out.2.2.1.size ((Tr.below HV5.out).trans HV5.out.size m2), (HX.out.2.2.1.mono HY.out.2.2.2.2.2).trans ((HV5.out.mono (Nat.le_trans HY.out.2.2.2.2.2 HX.out.2.2.1.size)).trans m3), hz8.trans hz5, hn8⟩))
    go_cut [] from 43 to 64 (fun wx => ∃ TV1 TG1, MV wx B hb tb size runs L (order ++ [j]) a i (.slice (some ⟨q, 0, none⟩) (sizes L) c) G V' G' TV1 TG1 ∧ Tr w (Nm tb (.slice (some ⟨q, 0, none⟩) (sizes L) c) G TV TG) wx (Nm tb (.slice (some ⟨q, 0, none⟩) (sizes L) c) G TV1 TG1) ∧ Below B w wx ∧ wx.heap[w.heap.size + 1]? = some wdZ ∧ Nm tb (.slice (some ⟨q, 0, none⟩) (sizes L) c) G TV1 TG1 (w.heap.size + 1))
    case first =>
      have HA5 := Lib.hid (HADD.out w5.drew HV5.out (some ⟨q, (place L j + 1) * 2, none⟩) (.inl rfl))
      go_region_law (first
        | (go_simp; go_at_call 34; (with_reducible refine (HA5.out _).mono ?_); rintro e w6 ⟨rfl, cs', TV1, TG1, has⟩; obtain ⟨hd6, fw6⟩ := HM5.out.hold has; have hy6 := (has.kp _ (lt_of_heap H5.out.2) (HFR.out _ (Nat.le_trans HX.out.2.2.1.size HB2.out.size)).1 (HFR.out _ (Nat.le_trans HX.out.2.2.1.size HB2.out.size)).2.2.2.1 (HFR.out _ (Nat.le_trans HX.out.2.2.1.size HB2.out.size)).2.2.2.2).trans H5.out.2; obtain ⟨y60, y61⟩ := cells2 hy6; have x62 := (cells6 hd6).2.2.1; obtain ⟨v60, v61, f60, f61⟩ := own_word fw6 (from_head (order := order) HY.out.2.1); have HS6 := Lib.hid (And.intro has (And.intro hd6 fw6)); clear has hd6 fw6 hy6)
        | (go_simp; go_at_call 14; (with_reducible refine (HAT.out _ _).mono ?_); rintro e w7 ⟨rfl, hb7⟩; have x72 := (cells6 ((hb7.block _ (lt_of_heap HS6.out.2.1)).trans HS6.out.2.1)).2.2.1; obtain ⟨v70, v71, f70, f71⟩ := own_word (own_below HS6.out.2.2 hb7) (from_head (order := order) HY.out.2.1); have HS7 := Lib.hid hb7; clear hb7)
        | go_simp)
      all_goals
        clear y0 y1 x2 v60 v61 f60 f61 v70 v71 f70 f71 x62 x72 y60 y61
        have HFIN := Lib.hid (HDONE.out _ _ _ _ _ HS6.out.1 HS7.out)
        generalize (w7.setCell ⟨q, place L j * 2, none⟩ (.bool true)).setCell ⟨q, place L j * 2 + 1, none⟩ (.int .i64 (sizes (obs L order))) = w8 at *
        go_wp2_with fail
        go_meet
        exact HFIN.out
    case rest =>
      obtain ⟨TV1, TG1, m1, m2, m3, m4, m5⟩ := hcut
      have hv8 := own_word m1.fw (from_head (order := order ++ [j]) HY.out.2.1)
      rw [if_pos (by simp), tpl_new HY.out.2.2.1] at hv8
      obtain ⟨x80, x81, x82, x83, x84, x85⟩ := cells6 m1.hd
      obtain ⟨v80, v81, f80, f81⟩ := hv8
      obtain ⟨z0, z1⟩ := cells2 m4
      have g0 := frozenN m4 0
      have g1 := frozenN m4 1
      have H8 := Lib.hid (And.intro m1 (And.intro m2 (And.intro m3 (And.intro m4 m5))))
      have HBW := Lib.hid HY.out.2.2.2.2.2
      clear m1 m2 m3 m4 m5 y0 y1 x2 HDONE HADD HM5 HV5 H5 HX4 H4 H3 HB2 HFR HTR HHD HX HAT HPA HM0 HM1 HW1 HY HI4
      go_wp2_with fail
      have h9 := box_set (B := w.heap.size) H8.out.2.2.2.1 (.bool true) (.int .i64 (sizes (obs L order))) (Nat.le_succ _)
      exact move_ret h9.1 _ rfl ⟨rfl, TV1, TG1, H8.out.1.box H8.out.2.2.2.2 (fun b hb => h9.2.2 b hb) (by have := HHB.out; omega), H8.out.2.1.box (g := w.heap.size + 1) (Nat.le_succ _) (fun b hb => h9.2.2 b hb), H8.out.2.2.1.trans (h9.2.1.mono HBW.out)⟩
end
end Go.Proofs.Ythblcfhflkapmaa
