/-
  TypTells, walked.
-/
import Derived.Test.YtklandpagieapaaGreatDoorK06
import Derived.Test.YtklandpagieapaaGreatDoorK09
namespace Go.Proofs.YtklandpagieapaaGreatDoor
open Go.ChangeShapes Go.WideShapes Go.ChangeAt Go.RowKit Go.Sort Go.Maps
set_option linter.unusedVariables false
set_option linter.unusedSimpArgs false
attribute [local irreducible] Go.wpQuiet

theorem typRow_ty (w0 : World) (a : Ty) (hI : a.In w0) (W : World) (hb : Below w0.heap.size w0 W) :
    Calls Tryz.prog 14 #[.int .i64 a.d.kind, .slice a.d.lA a.d.ln a.d.lc, .slice a.d.pA a.d.pn a.d.pc, .int .i64 a.d.tail] W (MkR (.mk { a.d with n := 0 } a.l) W) := by
  cases a
  exact typRow_any w0 _ _ hI W hb
/-- A contract, wherever the memory has grown to. -/
theorem quiet_of {f : FuncId} {args : Array Value} {w0 : World} {v : Value} (h : ∀ W : World, Below w0.heap.size w0 W → Calls Tryz.prog f args W fun e w' => e = .returned v ∧ Below W.heap.size W w') : ∀ dd os, Calls Tryz.prog f args (grow (redrawn w0 dd) os) fun e w'' => e = .returned v ∧ ∃ p : Regrown, w'' = grow (redrawn w0 p.d) p.os :=
  fun dd os => Calls.regrown_of ((h (grow (redrawn w0 dd) os) (below_regrown w0 dd os)).mono fun e w' hh => ⟨hh.1, hh.2⟩)

set_option maxRecDepth 100000 in
set_option maxHeartbeats 8000000 in
theorem typTells_any (a b : Ty) (W : World) (hT : Tab W) (ha : a.In W) (hb : b.In W) (hGa : a.Rg) (hna : a.nodes ≤ 4000000) (hwa : a.wt ≤ 900000000) :
    Calls Tryz.prog 3 #[.agg a.d.arr, .agg b.d.arr] W fun e w' => e = .returned (.bool true) ∧ Below W.heap.size W w' := by
  have hb1 : Below W.heap.size W (W.alloc (.cells a.d.arr 25)) := (Below.refl _ _).alloc (Nat.le_refl _) _
  have hb2 : Below W.heap.size W ((W.alloc (.cells a.d.arr 25)).alloc (.cells b.d.arr 25)) := hb1.alloc hb1.size _
  have HA := Lib.hid ((box_at W a.d).lower (show Below _ _ ((W.alloc (.cells a.d.arr 25)).alloc (.cells b.d.arr 25)) from (Below.refl _ _).alloc (Nat.le_refl _) _))
  have HBB := Lib.hid (show b.d.At ((W.alloc (.cells a.d.arr 25)).alloc (.cells b.d.arr 25)) (W.heap.size + 1) 0 by
    have h := box_at (W.alloc (.cells a.d.arr 25)) b.d
    rw [World.size_alloc] at h
    exact h)
  have HIA := Lib.hid (ha.lower hb2)
  have HIB := Lib.hid (hb.lower hb2)
  have HT := Lib.hid (tab_below hT hb2)
  have HX := Lib.hid (And.intro hGa (And.intro hna hwa))
  have HB2 := Lib.hid hb2
  clear hb1 hb2 ha hb hT hGa hna hwa
  go_enter Tryz.func3, Tryz.ntmps3
  go_wp2_with fail
  generalize ((W.alloc (.cells a.d.arr 25)).alloc (.cells b.d.arr 25)) = w1 at *
  obtain ⟨ga, hga⟩ : ∃ g, W.heap.size = g := ⟨_, rfl⟩
  rw [hga] at HA HBB ⊢
  obtain ⟨gb, hgb⟩ : ∃ g, ga + 1 = g := ⟨_, rfl⟩
  rw [hgb] at HBB ⊢
  clear hga hgb
  have HC := Lib.hid (fun V (h : Below w1.heap.size w1 V) => And.intro (HA.out.lower h) (HBB.out.lower h))
  refine (up_any w1 HT.out).mono ?_
  rintro e w2 ⟨rfl, hb2⟩
  have H2 := Lib.hid hb2
  clear hb2
  obtain ⟨⟨c0, c1, c2, c3, c4⟩, ⟨d0, d1, d2, d3, d4⟩⟩ := HC.out _ H2.out
  go_wp2_with fail
  refine (few_any a w2 (HIA.out.lower H2.out)).mono ?_
  rintro e w3 ⟨⟨v1, rfl⟩, hb3⟩
  have H3 := Lib.hid (below_then H2.out hb3)
  clear hb3 c0 c1 c2 c3 c4 d0 d1 d2 d3 d4
  by_cases hv1 : v1 < 0
  · have q1 : decide (v1 < 0) = true := decide_eq_true hv1
    go_wp2_with fail
    go_returns
    exact ⟨rfl, below_then HB2.out H3.out⟩
  have q1 : decide (v1 < 0) = false := decide_eq_false hv1
  clear hv1
  obtain ⟨⟨c0, c1, c2, c3, c4⟩, ⟨d0, d1, d2, d3, d4⟩⟩ := HC.out _ H3.out
  go_wp2_with fail
  refine (few_any b w3 (HIB.out.lower H3.out)).mono ?_
  rintro e w4 ⟨⟨v2, rfl⟩, hb4⟩
  have H4 := Lib.hid (below_then H3.out hb4)
  clear hb4 c0 c1 c2 c3 c4 d0 d1 d2 d3 d4
  by_cases hv2 : v2 < 0
  · have q2 : decide (v2 < 0) = true := decide_eq_true hv2
    go_wp2_with fail
    go_returns
    exact ⟨rfl, below_then HB2.out H4.out⟩
  have q2 : decide (v2 < 0) = false := decide_eq_false hv2
  clear hv2
  have hb5 : Below w4.heap.size w4 (w4.alloc (.cells #[.slice none 0 0, .slice none 0 0] 31)) := (Below.refl _ _).alloc (Nat.le_refl _) _
  have HNM := Lib.hid (nm_new10 w4 31)
  have HC5 := Lib.hid hb5
  have H5 := Lib.hid (below_then H4.out hb5)
  have HME := Lib.hid (meet_any w1 w4.heap.size H4.out.size a HIA.out [] [] (.slice none 0 0) (.slice none 0 0) _ H5.out HNM.out (by have := HX.out.2.1; simp; omega) (by have := HX.out.2.1; simp; omega))
  obtain ⟨⟨c0, c1, c2, c3, c4⟩, ⟨d0, d1, d2, d3, d4⟩⟩ := HC.out _ H5.out
  clear hb5
  go_wp2_with fail
  refine HME.out.mono ?_
  rintro e w6 ⟨rfl, vT, vR, hn6, hw6⟩
  have H6 := Lib.hid (And.intro hn6 (below_then H4.out (HC5.out.trans hw6.b)))
  clear hn6 hw6 HME HNM HC5 c0 c1 c2 c3 c4 d0 d1 d2 d3 d4
  obtain ⟨N, hN⟩ : ∃ N, w4.heap.size = N := ⟨_, rfl⟩
  rw [hN] at H6 ⊢
  clear hN
  have HVA := Lib.hid (vars_any w1 a HIA.out HX.out.1 HX.out.2.1 w6 H6.out.2)
  obtain ⟨⟨c0, c1, c2, c3, c4⟩, ⟨d0, d1, d2, d3, d4⟩⟩ := HC.out _ H6.out.2
  go_wp2_with fail
  refine HVA.out.mono ?_
  rintro e w7 ⟨A1, n1, A2, n2, rfl, ho1, ho2, hb7⟩
  have H7 := Lib.hid (And.intro (Rd.of_own ho1) (And.intro (Rd.of_own ho2) (And.intro hb7 (below_then H6.out.2 hb7))))
  clear ho1 ho2 hb7 HVA c0 c1 c2 c3 c4 d0 d1 d2 d3 d4
  have HS := Lib.hid (meetT_small a HX.out.2.1)
  have HNB := Lib.hid (H6.out.1.below H7.out.2.2.1)
  obtain ⟨T, hTT⟩ : ∃ T, (meetT a [] []).1 = T := ⟨_, rfl⟩
  obtain ⟨R, hRR⟩ : ∃ R, (meetT a [] []).2 = R := ⟨_, rfl⟩
  rw [hTT, hRR] at HS HNB H7
  rw [hTT, hRR]
  clear hTT hRR H6
  have HW7 := Lib.hid (show ∀ V, Below w7.heap.size w7 V → Below w1.heap.size w1 V from fun V h => below_then H7.out.2.2.2 h)
  have CM := Lib.hid (quiet_of (w0 := w7) (fun V h => may_any a V (HIA.out.lower (HW7.out V h))))
  have CR := Lib.hid (quiet_of (w0 := w7) (fun V h => refMay_any a V (HIA.out.lower (HW7.out V h)) HX.out.2.1))
  have CS := Lib.hid (quiet_of (w0 := w7) (fun V h => typSame_any a b V (HIA.out.lower (HW7.out V h)) (HIB.out.lower (HW7.out V h))))
  have CQ := Lib.hid (quiet_of (w0 := w7) (fun V h => refSame_any V a (HIA.out.lower (HW7.out V h)) b (HIB.out.lower (HW7.out V h)) V (Below.refl _ _)))
  have CA := Lib.hid (quiet_of (w0 := w7) (fun V h => typSame_any a a V (HIA.out.lower (HW7.out V h)) (HIA.out.lower (HW7.out V h))))
  have CT := Lib.hid (quiet_of (w0 := w7) (fun V h => typText_any a V (tab_below HT.out (HW7.out V h)) (HIA.out.lower (HW7.out V h)) HX.out.1 HX.out.2.1 (Nat.le_trans HX.out.2.2 (by decide))))
  have CU := Lib.hid (quiet_of (w0 := w7) (fun V h => refText_any a V (tab_below HT.out (HW7.out V h)) (HIA.out.lower (HW7.out V h)) HX.out.2.1 HX.out.2.2))
  obtain ⟨m, hm⟩ : ∃ m, (mayF a 0).isSome = m := ⟨_, rfl⟩
  rw [hm] at CM CR CT CU
  obtain ⟨s, hs⟩ : ∃ s, tyB a b = s := ⟨_, rfl⟩
  rw [hs] at CS CQ
  rw [tyB_true (Ty.eqv_refl a)] at CA
  obtain ⟨t, ht⟩ : ∃ t, (if m = true then a.text else []) = t := ⟨_, rfl⟩
  rw [ht] at CT CU
  clear hm hs ht
  have q3 : (m != m) = false := by cases m <;> rfl
  have q4 : (s != s) = false := by cases s <;> rfl
  have q5 : ((bstr t).toList != (bstr t).toList) = false := (ne_facts t t true (decide_eq_true rfl)).2.trans rfl
  obtain ⟨⟨c0, c1, c2, c3, c4⟩, ⟨d0, d1, d2, d3, d4⟩⟩ := HC.out _ H7.out.2.2.2
  have kc0 := cell_regrown c0
  have kc1 := cell_regrown c1
  have kc2 := cell_regrown c2
  have kc3 := cell_regrown c3
  have kc4 := cell_regrown c4
  have kd0 := cell_regrown d0
  have kd1 := cell_regrown d1
  have kd2 := cell_regrown d2
  have kd3 := cell_regrown d3
  have kd4 := cell_regrown d4
  go_wp2_with fail
  refine wp_region_quiet_below (by kernel_rfl) (by kernel_rfl) ?_
  repeat (quiet_step (first
    | (go_at_call 8; with_reducible exact CM.out _ _)
    | (go_at_call 9; with_reducible exact CR.out _ _)
    | (go_at_call 10; with_reducible exact CS.out _ _)
    | (go_at_call 10; with_reducible exact CA.out _ _)
    | (go_at_call 11; with_reducible exact CQ.out _ _)
    | (go_at_call 12; with_reducible exact CT.out _ _)
    | (go_at_call 13; with_reducible exact CU.out _ _)))
  refine wpQuiet_nil ?_
  intro _ hw
  obtain ⟨⟨dq, osq⟩, hw''⟩ := hw
  subst hw''
  have H8 := Lib.hid (below_regrown w7 dq osq)
  clear kc0 kc1 kc2 kc3 kc4 kd0 kd1 kd2 kd3 kd4 c0 c1 c2 c3 c4 d0 d1 d2 d3 d4 CM CR CS CQ CA CT CU
  generalize grow (redrawn w7 dq) osq = w8 at *
  obtain ⟨⟨c0, c1, c2, c3, c4⟩, ⟨d0, d1, d2, d3, d4⟩⟩ := HC.out _ (HW7.out _ H8.out)
  go_wp2_with fail
  refine (typRow_ty w1 a HIA.out w8 (HW7.out _ H8.out)).mono ?_
  rintro e w9 ⟨y, rfl, i9, e9, hb9⟩
  have hba : Below w9.heap.size w9 (w9.alloc (.cells #[.int .i64 y.d.kind, .int .i64 y.d.n, .slice y.d.pA y.d.pn y.d.pc, .slice y.d.lA y.d.ln y.d.lc, .int .i64 y.d.tail] 25)) := (Below.refl _ _).alloc (Nat.le_refl _) _
  have HBY := Lib.hid (show y.d.At (w9.alloc (.cells #[.int .i64 y.d.kind, .int .i64 y.d.n, .slice y.d.pA y.d.pn y.d.pc, .slice y.d.lA y.d.ln y.d.lc, .int .i64 y.d.tail] 25)) w9.heap.size 0 from box_at w9 y.d)
  have HY := Lib.hid (And.intro (i9.lower hba) e9)
  have H10 := Lib.hid (below_then (below_then H8.out hb9) hba)
  clear i9 e9 hb9 hba c0 c1 c2 c3 c4 d0 d1 d2 d3 d4
  go_wp2_with fail
  generalize (w9.alloc (.cells #[.int .i64 y.d.kind, .int .i64 y.d.n, .slice y.d.pA y.d.pn y.d.pc, .slice y.d.lA y.d.ln y.d.lc, .int .i64 y.d.tail] 25)) = w10 at *
  obtain ⟨gy, hgy⟩ : ∃ g, w9.heap.size = g := ⟨_, rfl⟩
  rw [hgy] at HBY ⊢
  clear hgy
  have HN10 := Lib.hid (HNB.out.below H10.out)
  obtain ⟨B1, k1, hv1, _⟩ := own_cap HN10.out.oT
  obtain ⟨B2, k2, hv2, _⟩ := own_cap HN10.out.oR
  have HO1 := HN10.out.oT
  have HO2 := HN10.out.oR
  rw [hv1] at HO1
  rw [hv2] at HO2
  have HRD := Lib.hid (And.intro (H7.out.1.below H10.out) (And.intro (H7.out.2.1.below H10.out) (And.intro (Rd.of_own HO1) (Rd.of_own HO2))))
  have HW10 := Lib.hid (show ∀ V, Below w10.heap.size w10 V → Below w1.heap.size w1 V from fun V h => HW7.out V (below_then H10.out h))
  have c0N := HN10.out.c0
  have c1N := HN10.out.c1
  rw [hv1] at c0N
  rw [hv2] at c1N
  clear hv1 hv2 HO1 HO2
  have HEND := Lib.hid (And.intro c0N c1N)
  clear c0N c1N q1 q2 q3 q4 q5
  go_upto_region 10 with fail
  exact lw_end a b y W w10 ga gb gy N A1 A2 B1 B2 T R n1 n2 k1 k2 (fun V h => below_then HB2.out (HW10.out V h)) (HIA.out.lower (HW10.out _ (Below.refl _ _))) (HIB.out.lower (HW10.out _ (Below.refl _ _))) HY.out.1 HY.out.2 HRD.out.1 HRD.out.2.1 HRD.out.2.2.1 HRD.out.2.2.2 HS.out.1 HS.out.2 (HC.out _ (HW10.out _ (Below.refl _ _))).1 (HC.out _ (HW10.out _ (Below.refl _ _))).2 HBY.out HEND.out.1 HEND.out.2 (by assumption)
end Go.Proofs.YtklandpagieapaaGreatDoor
