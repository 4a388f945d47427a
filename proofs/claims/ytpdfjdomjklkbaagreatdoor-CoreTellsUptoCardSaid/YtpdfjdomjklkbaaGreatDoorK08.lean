/-
  core's machine: tuples that are made larger, or changed. (Made by gen_mbc.py.)
-/
import Derived.Test.YtpdfjdomjklkbaaGreatDoorK07
namespace Go.Proofs.YtpdfjdomjklkbaaGreatDoor
open Go.ChangeShapes Go.WideShapes Go.ChangeAt Go.RowKit Go.Sort
set_option linter.unusedVariables false
set_option linter.unusedSimpArgs false

section
variable {w0 w : World} {B mb : Nat} {s : St} {t i r v f0 nx nm : Value} {rcs vcs fcs : List (List Value)}
set_option maxRecDepth 100000 in
set_option maxHeartbeats 16000000 in
theorem inInsF (h : Rep w0 B mb s w t i r v f0 nx nm rcs vcs fcs) (hv : s.vals.length ≤ 100000000000) (x y f : Val) (css : List (List Value)) (ab ao c : Nat) (hl : Vs w0 w (Mv mb t r v f0) [x, y, f] (some ⟨ab, ao, none⟩) css) (hx : f.l.length ≤ 90000000000) (hc : 3 ≤ c ∧ c ≤ maxLen) (hT : isTup f y 1 = false) :
    Calls Tryz.prog 61 #[.agg #[.pointer (some ⟨mb, 0, none⟩)], .int .i64 10, .slice (some ⟨ab, ao, none⟩) 3 c] w fun e1 w' => e1 = .returned (.tuple #[]) ∧ Post w0 B mb (Mv mb t r v f0) w (s.inTup 10 x y f) w' := by
  have hb : Below w.heap.size w (w.alloc (boxM mb)) := (Below.refl _ _).alloc (Nat.le_refl _) _
  obtain ⟨A0, kc0, p0, hz0, g00, g01, g02, g03, g04, g05⟩ := (hl.below hb).six 0 (z := x) rfl (ao) (ao + 1) (ao + 2) (ao + 3) (ao + 4) (ao + 5) ⟨by omega, by omega, by omega, by omega, by omega, by omega⟩
  obtain ⟨A1, kc1, p1, hz1, g10, g11, g12, g13, g14, g15⟩ := (hl.below hb).six 1 (z := y) rfl (ao + 6) (ao + 6 + 1) (ao + 6 + 2) (ao + 6 + 3) (ao + 6 + 4) (ao + 6 + 5) ⟨by omega, by omega, by omega, by omega, by omega, by omega⟩
  obtain ⟨A2, kc2, p2, hz2, g20, g21, g22, g23, g24, g25⟩ := (hl.below hb).six 2 (z := f) rfl (ao + 12) (ao + 12 + 1) (ao + 12 + 2) (ao + 12 + 3) (ao + 12 + 4) (ao + 12 + 5) ⟨by omega, by omega, by omega, by omega, by omega, by omega⟩
  have HSK := Lib.hid (fun (V : World) (hb' : Below (w.alloc (boxM mb)).heap.size (w.alloc (boxM mb)) V) => (show V.cell? ⟨ab, ao, none⟩ = some (.int .i64 x.sort) ∧ V.cell? ⟨ab, ao + 1, none⟩ = some (.int .i64 x.n) ∧ V.cell? ⟨ab, ao + 2, none⟩ = some (.string (bstr x.s)) ∧ V.cell? ⟨ab, ao + 3, none⟩ = some (.slice none 0 0) ∧ V.cell? ⟨ab, ao + 4, none⟩ = some (.slice A0 x.l.length kc0) ∧ V.cell? ⟨ab, ao + 5, none⟩ = some (.pointer p0) ∧ V.cell? ⟨ab, ao + 6, none⟩ = some (.int .i64 y.sort) ∧ V.cell? ⟨ab, ao + 6 + 1, none⟩ = some (.int .i64 y.n) ∧ V.cell? ⟨ab, ao + 6 + 2, none⟩ = some (.string (bstr y.s)) ∧ V.cell? ⟨ab, ao + 6 + 3, none⟩ = some (.slice none 0 0) ∧ V.cell? ⟨ab, ao + 6 + 4, none⟩ = some (.slice A1 y.l.length kc1) ∧ V.cell? ⟨ab, ao + 6 + 5, none⟩ = some (.pointer p1) from ⟨cell_below hb' g00, cell_below hb' g01, cell_below hb' g02, cell_below hb' g03, cell_below hb' g04, cell_below hb' g05, cell_below hb' g10, cell_below hb' g11, cell_below hb' g12, cell_below hb' g13, cell_below hb' g14, cell_below hb' g15⟩))
  have HS3 := Lib.hid (fun (V : World) (hb' : Below (w.alloc (boxM mb)).heap.size (w.alloc (boxM mb)) V) => (show V.cell? ⟨ab, ao + 12, none⟩ = some (.int .i64 f.sort) ∧ V.cell? ⟨ab, ao + 12 + 1, none⟩ = some (.int .i64 f.n) ∧ V.cell? ⟨ab, ao + 12 + 2, none⟩ = some (.string (bstr f.s)) ∧ V.cell? ⟨ab, ao + 12 + 3, none⟩ = some (.slice none 0 0) ∧ V.cell? ⟨ab, ao + 12 + 4, none⟩ = some (.slice A2 f.l.length kc2) ∧ V.cell? ⟨ab, ao + 12 + 5, none⟩ = some (.pointer p2) from ⟨cell_below hb' g20, cell_below hb' g21, cell_below hb' g22, cell_below hb' g23, cell_below hb' g24, cell_below hb' g25⟩))
  clear g00 g01 g02 g03 g04 g05 g10 g11 g12 g13 g14 g15 g20 g21 g22 g23 g24 g25
  have HX0 := Lib.hid (heap_new (w := w) (o := boxM mb) rfl)
  have HZ0 := Lib.hid hz0
  have HZ1 := Lib.hid hz1
  have HZ2 := Lib.hid hz2
  have HCP := Lib.hid hc
  clear hc
  have HB := Lib.hid hb
  have HH := Lib.hid h
  have HV := Lib.hid hv
  have HXL := Lib.hid hx
  have HT1 := Lib.hid (two_new (w.alloc (boxM mb)) (w.heap.size + 1) (World.size_alloc _ _) (boxV x A0 kc0 p0) (boxV y A1 kc1 p1))
  have HT2 := Lib.hid (two_new (w.alloc (boxM mb)) (w.heap.size + 1) (World.size_alloc _ _) (boxV y A1 kc1 p1) (boxV x A0 kc0 p0))
  have HBM := Lib.hid (fun (wr : World) (hb : Below w.heap.size w wr) => And.intro (Tr.below (P := Mv mb t r v f0) hb) (hb.mono (Nat.le_of_lt (Nat.lt_of_le_of_lt h.base.2 h.lt))))
  have HS := Lib.hid (fun (wr : World) (hb : Below w.heap.size w wr) => stuck_any (h.below hb))
  have HE : s.inTup 10 x y f = { s with err := 11 } := by unfold St.inTup; rw [show (if (10 : Int) = 10 then (1 : Int) else 0) = 1 from rfl, hT, if_neg (by decide)]
  rw [HE]
  clear HE h hb hl hv hx hz0 hz1 hz2
  go_enter Tryz.func61, Tryz.ntmps61
  go_upto_region 1 with fail
  go_cut [6, 7, 8] (fun u6 u7 u8 wx => ∃ b1 b2 : Nat, u6 = .pointer (some ⟨b1, 0, none⟩) ∧ u7 = .pointer (some ⟨b2, 0, none⟩) ∧ u8 = .int .i64 0 ∧ w.heap.size < b1 ∧ w.heap.size < b2 ∧ b1 ≠ b2 ∧ wx.heap[b1]? = some (boxV x A0 kc0 p0) ∧ wx.heap[b2]? = some (boxV y A1 kc1 p1) ∧ Below (w.alloc (boxM mb)).heap.size (w.alloc (boxM mb)) wx)
  case first =>
    go_region_held3 (fun V => V.cell? ⟨ab, ao, none⟩ = some (.int .i64 x.sort) ∧ V.cell? ⟨ab, ao + 1, none⟩ = some (.int .i64 x.n) ∧ V.cell? ⟨ab, ao + 2, none⟩ = some (.string (bstr x.s)) ∧ V.cell? ⟨ab, ao + 3, none⟩ = some (.slice none 0 0) ∧ V.cell? ⟨ab, ao + 4, none⟩ = some (.slice A0 x.l.length kc0) ∧ V.cell? ⟨ab, ao + 5, none⟩ = some (.pointer p0) ∧ V.cell? ⟨ab, ao + 6, none⟩ = some (.int .i64 y.sort) ∧ V.cell? ⟨ab, ao + 6 + 1, none⟩ = some (.int .i64 y.n) ∧ V.cell? ⟨ab, ao + 6 + 2, none⟩ = some (.string (bstr y.s)) ∧ V.cell? ⟨ab, ao + 6 + 3, none⟩ = some (.slice none 0 0) ∧ V.cell? ⟨ab, ao + 6 + 4, none⟩ = some (.slice A1 y.l.length kc1) ∧ V.cell? ⟨ab, ao + 6 + 5, none⟩ = some (.pointer p1))
      (with_reducible exact HSK.out _ (by go_grown))
      (first | fail)
    all_goals
      clear HSK HS3
      go_wp2_with fail
      go_meet
      first
        | exact ⟨w.heap.size + 1, w.heap.size + 2, rfl, rfl, rfl, by omega, by omega, by omega, HT1.out⟩
        | exact ⟨w.heap.size + 2, w.heap.size + 1, rfl, rfl, rfl, by omega, by omega, by omega, HT2.out.2.1, HT2.out.1, HT2.out.2.2⟩
  case rest =>
    obtain ⟨b1, b2, rfl, rfl, rfl, hb1g, hb2g, hb12, hq1, hq2, hbq⟩ := hcut
    clear HT1 HT2 HSK
    obtain ⟨m0, m1, m2, m3, m4, m5⟩ := HS3.out _ hbq
    clear HS3
    have zz := frozenN hq1
    have z0 := zz 0; have z1 := zz 1; have z2 := zz 2; have z3 := zz 3; have z4 := zz 4; have z5 := zz 5
    clear zz
    obtain ⟨y0, y1, y2, y3, y4, y5⟩ := cells6 hq1
    obtain ⟨hw6, hb6, ho6⟩ := own_block6 hq1 (.int .i64 f.sort) (.int .i64 f.n) (.string (bstr f.s)) (.slice none 0 0) (.slice A2 f.l.length kc2) (.pointer p2) hbq (by rw [World.size_alloc]; omega)
    have hq26 := (ho6 b2 (by omega)).trans hq2
    have HP6 := Lib.hid (And.intro hw6 (And.intro hq26 hb6))
    clear hq1 hq2 hbq hw6 hq26 hb6 ho6
    go_upto_region 4 with fail
    have hq1 := HP6.out.1
    have hq2 := HP6.out.2.1
    have hbq := HP6.out.2.2
    clear m0 m1 m2 m3 m4 m5 y0 y1 y2 y3 y4 y5 z0 z1 z2 z3 z4 z5 HP6
    generalize (((((wc.setCell ⟨b1, 0, none⟩ (.int .i64 f.sort)).setCell ⟨b1, 1, none⟩ (.int .i64 f.n)).setCell ⟨b1, 2, none⟩ (.string (bstr f.s))).setCell ⟨b1, 3, none⟩ (.slice none 0 0)).setCell ⟨b1, 4, none⟩ (.slice A2 f.l.length kc2)).setCell ⟨b1, 5, none⟩ (.pointer p2) = wd at *
    have HBW := Lib.hid (below_then HB.out hbq)
    have hc0 : wd.heap[w.heap.size]? = some (boxM mb) := (hbq.block _ (lt_of_heap HX0.out)).trans HX0.out
    have HQ := Lib.hid (And.intro hq1 (And.intro hq2 hc0))
    have HI := Lib.hid (isTuple_any wd b1 b2 f y 1 A2 A1 kc2 kc1 p2 p1 hq1 hq2 ⟨by decide, by decide⟩ (Nat.le_trans HXL.out (by decide)))
    rw [hT] at HI
    clear hq1 hq2 hbq hc0
    go_wp2_with (first
      | (go_at_call 80; (with_reducible refine HI.out.mono ?_); rintro e1 w1 ⟨rfl, hb1⟩; have c0 : w1.cell? ⟨w.heap.size, 0, none⟩ = some (.pointer (some ⟨mb, 0, none⟩)) := (by rw [Lib.cell_of_heap ((hb1.block _ (lt_of_heap HQ.out.2.2)).trans HQ.out.2.2)]; rfl); have HB1 := Lib.hid (below_then HBW.out hb1); clear hb1)
      | (go_at_call 40; (with_reducible refine (HS.out _ HB1.out).mono ?_); rintro e1 w2 ⟨rfl, hp⟩; have HP := Lib.hid hp; clear hp))
    go_returns
    with_reducible exact ⟨rfl, HP.out.mono (HBM.out _ HB1.out).1 (HBM.out _ HB1.out).2⟩
set_option maxRecDepth 100000 in
set_option maxHeartbeats 16000000 in
theorem inInsT (h : Rep w0 B mb s w t i r v f0 nx nm rcs vcs fcs) (hv : s.vals.length ≤ 100000000000) (x y f : Val) (css : List (List Value)) (ab ao c : Nat) (hl : Vs w0 w (Mv mb t r v f0) [x, y, f] (some ⟨ab, ao, none⟩) css) (hx : f.l.length ≤ 90000000000) (hc : 3 ≤ c ∧ c ≤ maxLen) (hT : isTup f y 1 = true) (hne : 0 < f.l.length) :
    Calls Tryz.prog 61 #[.agg #[.pointer (some ⟨mb, 0, none⟩)], .int .i64 10, .slice (some ⟨ab, ao, none⟩) 3 c] w fun e1 w' => e1 = .returned (.tuple #[]) ∧ Post w0 B mb (Mv mb t r v f0) w (s.inTup 10 x y f) w' := by
  have hb : Below w.heap.size w (w.alloc (boxM mb)) := (Below.refl _ _).alloc (Nat.le_refl _) _
  obtain ⟨A0, kc0, p0, hz0, g00, g01, g02, g03, g04, g05⟩ := (hl.below hb).six 0 (z := x) rfl (ao) (ao + 1) (ao + 2) (ao + 3) (ao + 4) (ao + 5) ⟨by omega, by omega, by omega, by omega, by omega, by omega⟩
  obtain ⟨A1, kc1, p1, hz1, g10, g11, g12, g13, g14, g15⟩ := (hl.below hb).six 1 (z := y) rfl (ao + 6) (ao + 6 + 1) (ao + 6 + 2) (ao + 6 + 3) (ao + 6 + 4) (ao + 6 + 5) ⟨by omega, by omega, by omega, by omega, by omega, by omega⟩
  obtain ⟨A2, kc2, p2, hz2, g20, g21, g22, g23, g24, g25⟩ := (hl.below hb).six 2 (z := f) rfl (ao + 12) (ao + 12 + 1) (ao + 12 + 2) (ao + 12 + 3) (ao + 12 + 4) (ao + 12 + 5) ⟨by omega, by omega, by omega, by omega, by omega, by omega⟩
  have HSK := Lib.hid (fun (V : World) (hb' : Below (w.alloc (boxM mb)).heap.size (w.alloc (boxM mb)) V) => (show V.cell? ⟨ab, ao, none⟩ = some (.int .i64 x.sort) ∧ V.cell? ⟨ab, ao + 1, none⟩ = some (.int .i64 x.n) ∧ V.cell? ⟨ab, ao + 2, none⟩ = some (.string (bstr x.s)) ∧ V.cell? ⟨ab, ao + 3, none⟩ = some (.slice none 0 0) ∧ V.cell? ⟨ab, ao + 4, none⟩ = some (.slice A0 x.l.length kc0) ∧ V.cell? ⟨ab, ao + 5, none⟩ = some (.pointer p0) ∧ V.cell? ⟨ab, ao + 6, none⟩ = some (.int .i64 y.sort) ∧ V.cell? ⟨ab, ao + 6 + 1, none⟩ = some (.int .i64 y.n) ∧ V.cell? ⟨ab, ao + 6 + 2, none⟩ = some (.string (bstr y.s)) ∧ V.cell? ⟨ab, ao + 6 + 3, none⟩ = some (.slice none 0 0) ∧ V.cell? ⟨ab, ao + 6 + 4, none⟩ = some (.slice A1 y.l.length kc1) ∧ V.cell? ⟨ab, ao + 6 + 5, none⟩ = some (.pointer p1) from ⟨cell_below hb' g00, cell_below hb' g01, cell_below hb' g02, cell_below hb' g03, cell_below hb' g04, cell_below hb' g05, cell_below hb' g10, cell_below hb' g11, cell_below hb' g12, cell_below hb' g13, cell_below hb' g14, cell_below hb' g15⟩))
  have HS3 := Lib.hid (fun (V : World) (hb' : Below (w.alloc (boxM mb)).heap.size (w.alloc (boxM mb)) V) => (show V.cell? ⟨ab, ao + 12, none⟩ = some (.int .i64 f.sort) ∧ V.cell? ⟨ab, ao + 12 + 1, none⟩ = some (.int .i64 f.n) ∧ V.cell? ⟨ab, ao + 12 + 2, none⟩ = some (.string (bstr f.s)) ∧ V.cell? ⟨ab, ao + 12 + 3, none⟩ = some (.slice none 0 0) ∧ V.cell? ⟨ab, ao + 12 + 4, none⟩ = some (.slice A2 f.l.length kc2) ∧ V.cell? ⟨ab, ao + 12 + 5, none⟩ = some (.pointer p2) from ⟨cell_below hb' g20, cell_below hb' g21, cell_below hb' g22, cell_below hb' g23, cell_below hb' g24, cell_below hb' g25⟩))
  clear g00 g01 g02 g03 g04 g05 g10 g11 g12 g13 g14 g15 g20 g21 g22 g23 g24 g25
  have HX0 := Lib.hid (heap_new (w := w) (o := boxM mb) rfl)
  have HZ0 := Lib.hid hz0
  have HZ1 := Lib.hid hz1
  have HZ2 := Lib.hid hz2
  have HCP := Lib.hid hc
  clear hc
  have HB := Lib.hid hb
  have HH := Lib.hid h
  have HV := Lib.hid hv
  have HXL := Lib.hid hx
  have HT1 := Lib.hid (two_new (w.alloc (boxM mb)) (w.heap.size + 1) (World.size_alloc _ _) (boxV x A0 kc0 p0) (boxV y A1 kc1 p1))
  have HT2 := Lib.hid (two_new (w.alloc (boxM mb)) (w.heap.size + 1) (World.size_alloc _ _) (boxV y A1 kc1 p1) (boxV x A0 kc0 p0))
  have HBM := Lib.hid (fun (wr : World) (hb : Below w.heap.size w wr) => And.intro (Tr.below (P := Mv mb t r v f0) hb) (hb.mono (Nat.le_of_lt (Nat.lt_of_le_of_lt h.base.2 h.lt))))
  obtain ⟨ht4, ht1, k, hyn, hk⟩ := isTup_iff hT
  have hk' : k ≤ f.l.length := by omega
  obtain ⟨csx, hvx, hcx, hpx⟩ := hz2.vs
  obtain ⟨a, rfl⟩ : ∃ a, A2 = some a := by
    obtain ⟨fb, fo, e⟩ := hvx.addr (by omega)
    exact ⟨_, e⟩
  have hkl : k ≤ f.l.length := by omega
  have hd3 := hvx.dropC k (by omega) kc2 (by omega)
  obtain ⟨A3, hA3⟩ : ∃ A3, (if kc2 = k then some a else some (a.add (k * 6))) = A3 := ⟨_, rfl⟩
  rw [hA3] at hd3
  have HE : s.inTup 10 x y f = { s with vals := s.vals ++ [.mk 4 0 [] (tupOf 10 x f k) none] } := by unfold St.inTup; rw [show (if (10 : Int) = 10 then (1 : Int) else 0) = 1 from rfl, hT, if_pos rfl, if_neg (by decide), hyn, Int.toNat_natCast]
  rw [HE]
  have hrl : (([⟨some a, f.l.take k, kc2, csx.take k⟩, ⟨some ⟨ab, ao, none⟩, [x], c, css.take 1⟩, ⟨A3, f.l.drop k, kc2 - k, csx.drop k⟩] : List Rw).flatMap Rw.l) = tupOf 10 x f k := by simp [tupOf]
  obtain ⟨L, hL⟩ : ∃ L, tupOf 10 x f k = L := ⟨_, rfl⟩
  rw [hL] at hrl ⊢
  have hLl : L.length ≤ 100000000000 := by rw [← hrl]; simp; omega
  have hrows : ∀ q ∈ ([⟨some a, f.l.take k, kc2, csx.take k⟩, ⟨some ⟨ab, ao, none⟩, [x], c, css.take 1⟩, ⟨A3, f.l.drop k, kc2 - k, csx.drop k⟩] : List Rw), Vs w0 (w.alloc (boxM mb)) (Mv mb t r v f0) q.l q.A q.css := by
    intro q hr
    simp only [List.mem_cons, List.not_mem_nil, or_false] at hr
    rcases hr with rfl | rfl | rfl
    · exact hvx.take k hkl
    · exact hl.one hb
    · exact hd3
  have HCC := Lib.hid (fun (wr : World) (g : Nat) (hb' : Below (w.alloc (boxM mb)).heap.size (w.alloc (boxM mb)) wr) (hR : Rd wr 1 (some ⟨g, 0, none⟩) 3 [.slice (some a) k kc2, .slice (some ⟨ab, ao, none⟩) 1 c, .slice A3 (f.l.length - k) (kc2 - k)]) => (show Calls Tryz.prog 81 #[.slice (some ⟨g, 0, none⟩) 3 3] wr fun e w' => ∃ A' c' css', e = .returned (.slice A' L.length c') ∧ Vs w0 w' (Mv mb t r v f0) L A' css' ∧ Below wr.heap.size wr w' from
    (vconcat_any w0 wr (Mv mb t r v f0) [⟨some a, f.l.take k, kc2, csx.take k⟩, ⟨some ⟨ab, ao, none⟩, [x], c, css.take 1⟩, ⟨A3, f.l.drop k, kc2 - k, csx.drop k⟩] (some ⟨g, 0, none⟩) 3 (by simpa [Rw.cell, hkl] using hR) (fun q hr => (hrows q hr).below hb') (by rw [hrl]; omega) (by simp)).mono fun e w' ⟨A', c', h1, h2, h3⟩ => ⟨A', c', _, by rw [← hrl]; exact h1, by rw [← hrl]; exact h2, h3⟩))
  have HTU := Lib.hid (fun (wr : World) (A' : Option Addr) (c' : Nat) (css' : List (List Value)) (hb' : Below w.heap.size w wr) (hV : Vs w0 wr (Mv mb t r v f0) L A' css') => tuple_any w0 wr (Mv mb t r v f0) (fun b hbb => h.mvNew b (Nat.le_trans hb'.size hbb)) A' L css' c' hV hLl)
  have HTL := Lib.hid (fun (wr : World) (A' : Option Addr) (c' : Nat) (hb' : Below w.heap.size w wr) (hz : VR w0 wr (Mv mb t r v f0) (.mk 4 0 [] L none) [.int .i64 4, .int .i64 0, .string (bstr []), .slice none 0 0, .slice A' L.length c', .pointer none]) => (show Calls Tryz.prog 41 #[.pointer (some ⟨mb, 0, none⟩), .agg #[.int .i64 4, .int .i64 0, .string ⟨#[]⟩, .slice none 0 0, .slice A' L.length c', .pointer none]] wr fun e w' => e = .returned (.tuple #[]) ∧ Post w0 B mb (Mv mb t r v f0) wr { s with vals := s.vals ++ [.mk 4 0 [] L none] } w' from tell_any (h.below hb') hv (.mk 4 0 [] L none) (A := A') (c := c') (p := none) hz))
  have HN := Lib.hid (And.intro hyn (And.intro hk' (And.intro hx hcx)))
  have HKP := Lib.hid (fun (wr w3 : World) (s' : St) (b : Nat) (u0 u2 : Value) (hb' : Below w.heap.size w wr) (hbl : w.heap.size ≤ b) (hS : wr.cell? ⟨w.heap.size, 0, none⟩ = some u0 ∧ wr.cell? ⟨b, 4, none⟩ = some u2) (hp : Post w0 B mb (Mv mb t r v f0) wr s' w3) => keep2 h hbl hS hp)
  clear HE h hb hl hv hx hz0 hz1 hz2 hne hkl hrl hL hLl hrows hvx hd3 hk hk' hyn ht4 ht1 hcx hpx
  go_enter Tryz.func61, Tryz.ntmps61
  go_upto_region 1 with fail
  go_cut [6, 7, 8] (fun u6 u7 u8 wx => ∃ b1 b2 : Nat, u6 = .pointer (some ⟨b1, 0, none⟩) ∧ u7 = .pointer (some ⟨b2, 0, none⟩) ∧ u8 = .int .i64 0 ∧ w.heap.size < b1 ∧ w.heap.size < b2 ∧ b1 ≠ b2 ∧ wx.heap[b1]? = some (boxV x A0 kc0 p0) ∧ wx.heap[b2]? = some (boxV y A1 kc1 p1) ∧ Below (w.alloc (boxM mb)).heap.size (w.alloc (boxM mb)) wx)
  case first =>
    go_region_held3 (fun V => V.cell? ⟨ab, ao, none⟩ = some (.int .i64 x.sort) ∧ V.cell? ⟨ab, ao + 1, none⟩ = some (.int .i64 x.n) ∧ V.cell? ⟨ab, ao + 2, none⟩ = some (.string (bstr x.s)) ∧ V.cell? ⟨ab, ao + 3, none⟩ = some (.slice none 0 0) ∧ V.cell? ⟨ab, ao + 4, none⟩ = some (.slice A0 x.l.length kc0) ∧ V.cell? ⟨ab, ao + 5, none⟩ = some (.pointer p0) ∧ V.cell? ⟨ab, ao + 6, none⟩ = some (.int .i64 y.sort) ∧ V.cell? ⟨ab, ao + 6 + 1, none⟩ = some (.int .i64 y.n) ∧ V.cell? ⟨ab, ao + 6 + 2, none⟩ = some (.string (bstr y.s)) ∧ V.cell? ⟨ab, ao + 6 + 3, none⟩ = some (.slice none 0 0) ∧ V.cell? ⟨ab, ao + 6 + 4, none⟩ = some (.slice A1 y.l.length kc1) ∧ V.cell? ⟨ab, ao + 6 + 5, none⟩ = some (.pointer p1))
      (with_reducible exact HSK.out _ (by go_grown))
      (first | fail)
    all_goals
      clear HSK HS3
      go_wp2_with fail
      go_meet
      first
        | exact ⟨w.heap.size + 1, w.heap.size + 2, rfl, rfl, rfl, by omega, by omega, by omega, HT1.out⟩
        | exact ⟨w.heap.size + 2, w.heap.size + 1, rfl, rfl, rfl, by omega, by omega, by omega, HT2.out.2.1, HT2.out.1, HT2.out.2.2⟩
  case rest =>
    obtain ⟨b1, b2, rfl, rfl, rfl, hb1g, hb2g, hb12, hq1, hq2, hbq⟩ := hcut
    clear HT1 HT2 HSK
    obtain ⟨m0, m1, m2, m3, m4, m5⟩ := HS3.out _ hbq
    clear HS3
    have zz := frozenN hq1
    have z0 := zz 0; have z1 := zz 1; have z2 := zz 2; have z3 := zz 3; have z4 := zz 4; have z5 := zz 5
    clear zz
    obtain ⟨y0, y1, y2, y3, y4, y5⟩ := cells6 hq1
    obtain ⟨hw6, hb6, ho6⟩ := own_block6 hq1 (.int .i64 f.sort) (.int .i64 f.n) (.string (bstr f.s)) (.slice none 0 0) (.slice (some a) f.l.length kc2) (.pointer p2) hbq (by rw [World.size_alloc]; omega)
    have hq26 := (ho6 b2 (by omega)).trans hq2
    have HP6 := Lib.hid (And.intro hw6 (And.intro hq26 hb6))
    clear hq1 hq2 hbq hw6 hq26 hb6 ho6
    go_upto_region 4 with fail
    have hq1 := HP6.out.1
    have hq2 := HP6.out.2.1
    have hbq := HP6.out.2.2
    clear m0 m1 m2 m3 m4 m5 y0 y1 y2 y3 y4 y5 z0 z1 z2 z3 z4 z5 HP6
    generalize (((((wc.setCell ⟨b1, 0, none⟩ (.int .i64 f.sort)).setCell ⟨b1, 1, none⟩ (.int .i64 f.n)).setCell ⟨b1, 2, none⟩ (.string (bstr f.s))).setCell ⟨b1, 3, none⟩ (.slice none 0 0)).setCell ⟨b1, 4, none⟩ (.slice (some a) f.l.length kc2)).setCell ⟨b1, 5, none⟩ (.pointer p2) = wd at *
    have HBW := Lib.hid (below_then HB.out hbq)
    have hc0 : wd.heap[w.heap.size]? = some (boxM mb) := (hbq.block _ (lt_of_heap HX0.out)).trans HX0.out
    have HQ := Lib.hid (And.intro hq1 (And.intro hq2 hc0))
    have HI := Lib.hid (isTuple_any wd b1 b2 f y 1 (some a) A1 kc2 kc1 p2 p1 hq1 hq2 ⟨by decide, by decide⟩ (Nat.le_trans HXL.out (by decide)))
    rw [hT] at HI
    have HBQ := Lib.hid hbq
    clear hq1 hq2 hbq hc0
    have n0 : (0 : Int) ≤ (k : Int) := by omega
    have n10 : (1 : Int) ≤ (c : Int) := by have := HCP.out; omega
    have n1 : (k : Int) ≤ (f.l.length : Int) := by have := HN.out.2.1; omega
    have n2 : (f.l.length : Int) ≤ 100000000000 := by have := HN.out.2.2.1; omega
    have n3 : (f.l.length : Int) ≤ (kc2 : Int) := by have := HN.out.2.2.2.1; omega
    have n4 : (k : Int) ≤ (kc2 : Int) := by omega
    have n7 : (kc2 : Int) ≤ 9223372036854775807 := by have := HN.out.2.2.2.2; simp only [maxLen] at this; omega
    go_upto_region 15 with (go_at_call 80; (with_reducible refine HI.out.mono ?_); rintro e1 w1 ⟨rfl, hb1⟩; obtain ⟨x0, x1, x2, x3, x4, x5⟩ := cells6 ((hb1.block _ (lt_of_heap HQ.out.2.1)).trans HQ.out.2.1); rw [HN.out.1] at x1; have HB1 := Lib.hid (below_then HBQ.out hb1); have HB0 := Lib.hid (below_then HBW.out hb1); have HS1 := Lib.hid (fun (V : World) (hb' : Below w1.heap.size w1 V) => (show V.cell? ⟨w.heap.size, 0, none⟩ = some (.pointer (some ⟨mb, 0, none⟩)) ∧ V.cell? ⟨b1, 4, none⟩ = some (.slice (some a) f.l.length kc2) from ⟨cell_below hb' (by rw [Lib.cell_of_heap ((hb1.block _ (lt_of_heap HQ.out.2.2)).trans HQ.out.2.2)]; rfl), cell_below hb' (by rw [Lib.cell_of_heap ((hb1.block _ (lt_of_heap HQ.out.1)).trans HQ.out.1)]; rfl)⟩)); clear hb1)
    clear x0 x1 x2 x3 x4 x5
    have HB1G := Lib.hid hb1g
    clear hb1g hb2g hb12
    go_region_held3 (fun V => V.cell? ⟨w.heap.size, 0, none⟩ = some (.pointer (some ⟨mb, 0, none⟩)) ∧ V.cell? ⟨b1, 4, none⟩ = some (.slice (some a) f.l.length kc2))
      (first | with_reducible exact HS2.out | with_reducible exact HS3.out | with_reducible exact HS4.out | with_reducible exact HS1.out _ (by go_grown) | fail)
      (first
      | (go_at_call 81; have hbw := (show Below w1.heap.size w1 ((w1.alloc (.cells #[.slice (some a) k kc2, .slice (some ⟨ab, ao, none⟩) 1 c, .slice A3 (f.l.length - k) (kc2 - k)] 57)).drew) from ((Below.refl _ _).alloc (Nat.le_refl _) _).drew); (with_reducible refine (HCC.out _ w1.heap.size (below_then HB1.out hbw) (Rd.drew (Rd.lit w1 #[.slice (some a) k kc2, .slice (some ⟨ab, ao, none⟩) 1 c, .slice A3 (f.l.length - k) (kc2 - k)] _ (size := 1) (n := 3) rfl))).mono ?_); rintro e1 w2 ⟨A', c', css', rfl, hv2, hb2⟩; have hb3 := below_then hbw hb2; have HS2 := Lib.hid (HS1.out _ hb3); have HV2 := Lib.hid hv2; have HB2 := Lib.hid hb3; clear hbw hb2 hb3 hv2)
      | (go_at_call 59; (with_reducible refine (HTU.out _ _ _ _ (below_then HB0.out HB2.out) HV2.out).mono ?_); rintro e1 w3 ⟨A9, c9, rfl, hv3, hb3⟩; have hb4 := below_then HB2.out hb3; have HS3 := Lib.hid (HS1.out _ hb4); have HV3 := Lib.hid hv3; have HB3 := Lib.hid (below_then HB0.out hb4); clear hb3 hb4 hv3)
      | (go_at_call 41; (with_reducible refine (HTL.out _ _ _ HB3.out HV3.out).mono ?_); rintro e1 w4 ⟨rfl, hp⟩; have HP := Lib.hid hp; have HS4 := Lib.hid (HKP.out _ _ _ _ _ _ HB3.out (Nat.le_of_lt HB1G.out) HS3.out hp); clear hp)
      | fail)
    all_goals
      go_wp2_with fail
      go_returns
      with_reducible exact ⟨rfl, HP.out.mono (HBM.out _ HB3.out).1 (HBM.out _ HB3.out).2⟩
set_option maxRecDepth 100000 in
set_option maxHeartbeats 16000000 in
theorem inInsN (h : Rep w0 B mb s w t i r v f0 nx nm rcs vcs fcs) (hv : s.vals.length ≤ 100000000000) (x y f : Val) (css : List (List Value)) (ab ao c : Nat) (hl : Vs w0 w (Mv mb t r v f0) [x, y, f] (some ⟨ab, ao, none⟩) css) (hx : f.l.length ≤ 90000000000) (hc : 3 ≤ c ∧ c ≤ maxLen) (hT : isTup f y 1 = true) (hf0 : f.l.length = 0) :
    Calls Tryz.prog 61 #[.agg #[.pointer (some ⟨mb, 0, none⟩)], .int .i64 10, .slice (some ⟨ab, ao, none⟩) 3 c] w fun e1 w' => e1 = .returned (.tuple #[]) ∧ Post w0 B mb (Mv mb t r v f0) w (s.inTup 10 x y f) w' := by
  have hb : Below w.heap.size w (w.alloc (boxM mb)) := (Below.refl _ _).alloc (Nat.le_refl _) _
  obtain ⟨A0, kc0, p0, hz0, g00, g01, g02, g03, g04, g05⟩ := (hl.below hb).six 0 (z := x) rfl (ao) (ao + 1) (ao + 2) (ao + 3) (ao + 4) (ao + 5) ⟨by omega, by omega, by omega, by omega, by omega, by omega⟩
  obtain ⟨A1, kc1, p1, hz1, g10, g11, g12, g13, g14, g15⟩ := (hl.below hb).six 1 (z := y) rfl (ao + 6) (ao + 6 + 1) (ao + 6 + 2) (ao + 6 + 3) (ao + 6 + 4) (ao + 6 + 5) ⟨by omega, by omega, by omega, by omega, by omega, by omega⟩
  obtain ⟨A2, kc2, p2, hz2, g20, g21, g22, g23, g24, g25⟩ := (hl.below hb).six 2 (z := f) rfl (ao + 12) (ao + 12 + 1) (ao + 12 + 2) (ao + 12 + 3) (ao + 12 + 4) (ao + 12 + 5) ⟨by omega, by omega, by omega, by omega, by omega, by omega⟩
  have HSK := Lib.hid (fun (V : World) (hb' : Below (w.alloc (boxM mb)).heap.size (w.alloc (boxM mb)) V) => (show V.cell? ⟨ab, ao, none⟩ = some (.int .i64 x.sort) ∧ V.cell? ⟨ab, ao + 1, none⟩ = some (.int .i64 x.n) ∧ V.cell? ⟨ab, ao + 2, none⟩ = some (.string (bstr x.s)) ∧ V.cell? ⟨ab, ao + 3, none⟩ = some (.slice none 0 0) ∧ V.cell? ⟨ab, ao + 4, none⟩ = some (.slice A0 x.l.length kc0) ∧ V.cell? ⟨ab, ao + 5, none⟩ = some (.pointer p0) ∧ V.cell? ⟨ab, ao + 6, none⟩ = some (.int .i64 y.sort) ∧ V.cell? ⟨ab, ao + 6 + 1, none⟩ = some (.int .i64 y.n) ∧ V.cell? ⟨ab, ao + 6 + 2, none⟩ = some (.string (bstr y.s)) ∧ V.cell? ⟨ab, ao + 6 + 3, none⟩ = some (.slice none 0 0) ∧ V.cell? ⟨ab, ao + 6 + 4, none⟩ = some (.slice A1 y.l.length kc1) ∧ V.cell? ⟨ab, ao + 6 + 5, none⟩ = some (.pointer p1) from ⟨cell_below hb' g00, cell_below hb' g01, cell_below hb' g02, cell_below hb' g03, cell_below hb' g04, cell_below hb' g05, cell_below hb' g10, cell_below hb' g11, cell_below hb' g12, cell_below hb' g13, cell_below hb' g14, cell_below hb' g15⟩))
  have HS3 := Lib.hid (fun (V : World) (hb' : Below (w.alloc (boxM mb)).heap.size (w.alloc (boxM mb)) V) => (show V.cell? ⟨ab, ao + 12, none⟩ = some (.int .i64 f.sort) ∧ V.cell? ⟨ab, ao + 12 + 1, none⟩ = some (.int .i64 f.n) ∧ V.cell? ⟨ab, ao + 12 + 2, none⟩ = some (.string (bstr f.s)) ∧ V.cell? ⟨ab, ao + 12 + 3, none⟩ = some (.slice none 0 0) ∧ V.cell? ⟨ab, ao + 12 + 4, none⟩ = some (.slice A2 f.l.length kc2) ∧ V.cell? ⟨ab, ao + 12 + 5, none⟩ = some (.pointer p2) from ⟨cell_below hb' g20, cell_below hb' g21, cell_below hb' g22, cell_below hb' g23, cell_below hb' g24, cell_below hb' g25⟩))
  clear g00 g01 g02 g03 g04 g05 g10 g11 g12 g13 g14 g15 g20 g21 g22 g23 g24 g25
  have HX0 := Lib.hid (heap_new (w := w) (o := boxM mb) rfl)
  have HZ0 := Lib.hid hz0
  have HZ1 := Lib.hid hz1
  have HZ2 := Lib.hid hz2
  have HCP := Lib.hid hc
  clear hc
  have HB := Lib.hid hb
  have HH := Lib.hid h
  have HV := Lib.hid hv
  have HXL := Lib.hid hx
  have HT1 := Lib.hid (two_new (w.alloc (boxM mb)) (w.heap.size + 1) (World.size_alloc _ _) (boxV x A0 kc0 p0) (boxV y A1 kc1 p1))
  have HT2 := Lib.hid (two_new (w.alloc (boxM mb)) (w.heap.size + 1) (World.size_alloc _ _) (boxV y A1 kc1 p1) (boxV x A0 kc0 p0))
  have HBM := Lib.hid (fun (wr : World) (hb : Below w.heap.size w wr) => And.intro (Tr.below (P := Mv mb t r v f0) hb) (hb.mono (Nat.le_of_lt (Nat.lt_of_le_of_lt h.base.2 h.lt))))
  cases A2 with
  | none =>
    obtain ⟨ht4, ht1, k, hyn, hk⟩ := isTup_iff hT
    have hk' : k ≤ f.l.length := by omega
    obtain ⟨csx, hvx, hcx, hpx⟩ := hz2.vs
    obtain rfl : k = 0 := by omega
    replace hyn : y.n = 0 := by omega
    have hfl : f.l = [] := List.eq_nil_of_length_eq_zero hf0
    have hkl : 0 ≤ f.l.length := by omega
    have HE : s.inTup 10 x y f = { s with vals := s.vals ++ [.mk 4 0 [] (tupOf 10 x f 0) none] } := by unfold St.inTup; rw [show (if (10 : Int) = 10 then (1 : Int) else 0) = 1 from rfl, hT, if_pos rfl, if_neg (by decide), hyn, Int.toNat_zero]
    rw [HE]
    have hrl : (([⟨none, [], kc2, []⟩, ⟨some ⟨ab, ao, none⟩, [x], c, css.take 1⟩, ⟨none, [], kc2, []⟩] : List Rw).flatMap Rw.l) = tupOf 10 x f 0 := by simp [tupOf, hfl]
    obtain ⟨L, hL⟩ : ∃ L, tupOf 10 x f 0 = L := ⟨_, rfl⟩
    rw [hL] at hrl ⊢
    have hLl : L.length ≤ 100000000000 := by rw [← hrl]; simp
    have hrows : ∀ q ∈ ([⟨none, [], kc2, []⟩, ⟨some ⟨ab, ao, none⟩, [x], c, css.take 1⟩, ⟨none, [], kc2, []⟩] : List Rw), Vs w0 (w.alloc (boxM mb)) (Mv mb t r v f0) q.l q.A q.css := by
      intro q hr
      simp only [List.mem_cons, List.not_mem_nil, or_false] at hr
      rcases hr with rfl | rfl | rfl
      · exact ⟨Rd.nil _ 6 _, LR.nil⟩
      · exact hl.one hb
      · exact ⟨Rd.nil _ 6 _, LR.nil⟩
    have HCC := Lib.hid (fun (wr : World) (g : Nat) (hb' : Below (w.alloc (boxM mb)).heap.size (w.alloc (boxM mb)) wr) (hR : Rd wr 1 (some ⟨g, 0, none⟩) 3 [.slice none 0 kc2, .slice (some ⟨ab, ao, none⟩) 1 c, .slice none 0 kc2]) => (show Calls Tryz.prog 81 #[.slice (some ⟨g, 0, none⟩) 3 3] wr fun e w' => ∃ A' c' css', e = .returned (.slice A' L.length c') ∧ Vs w0 w' (Mv mb t r v f0) L A' css' ∧ Below wr.heap.size wr w' from
      (vconcat_any w0 wr (Mv mb t r v f0) [⟨none, [], kc2, []⟩, ⟨some ⟨ab, ao, none⟩, [x], c, css.take 1⟩, ⟨none, [], kc2, []⟩] (some ⟨g, 0, none⟩) 3 (by simpa [Rw.cell] using hR) (fun q hr => (hrows q hr).below hb') (by rw [hrl]; omega) (by simp)).mono fun e w' ⟨A', c', h1, h2, h3⟩ => ⟨A', c', _, by rw [← hrl]; exact h1, by rw [← hrl]; exact h2, h3⟩))
    have HTU := Lib.hid (fun (wr : World) (A' : Option Addr) (c' : Nat) (css' : List (List Value)) (hb' : Below w.heap.size w wr) (hV : Vs w0 wr (Mv mb t r v f0) L A' css') => tuple_any w0 wr (Mv mb t r v f0) (fun b hbb => h.mvNew b (Nat.le_trans hb'.size hbb)) A' L css' c' hV hLl)
    have HTL := Lib.hid (fun (wr : World) (A' : Option Addr) (c' : Nat) (hb' : Below w.heap.size w wr) (hz : VR w0 wr (Mv mb t r v f0) (.mk 4 0 [] L none) [.int .i64 4, .int .i64 0, .string (bstr []), .slice none 0 0, .slice A' L.length c', .pointer none]) => (show Calls Tryz.prog 41 #[.pointer (some ⟨mb, 0, none⟩), .agg #[.int .i64 4, .int .i64 0, .string ⟨#[]⟩, .slice none 0 0, .slice A' L.length c', .pointer none]] wr fun e w' => e = .returned (.tuple #[]) ∧ Post w0 B mb (Mv mb t r v f0) wr { s with vals := s.vals ++ [.mk 4 0 [] L none] } w' from tell_any (h.below hb') hv (.mk 4 0 [] L none) (A := A') (c := c') (p := none) hz))
    have HN := Lib.hid (And.intro hyn (And.intro hk' (And.intro hx hcx)))
    have HKP := Lib.hid (fun (wr w3 : World) (s' : St) (b : Nat) (u0 u2 : Value) (hb' : Below w.heap.size w wr) (hbl : w.heap.size ≤ b) (hS : wr.cell? ⟨w.heap.size, 0, none⟩ = some u0 ∧ wr.cell? ⟨b, 4, none⟩ = some u2) (hp : Post w0 B mb (Mv mb t r v f0) wr s' w3) => keep2 h hbl hS hp)
    have HF0 := Lib.hid hf0
    clear hf0
    clear HE h hb hl hv hx hz0 hz1 hz2 hfl hkl hrl hL hLl hrows hvx hk hk' hyn ht4 ht1 hcx hpx
    go_enter Tryz.func61, Tryz.ntmps61
    go_upto_region 1 with fail
    go_cut [6, 7, 8] (fun u6 u7 u8 wx => ∃ b1 b2 : Nat, u6 = .pointer (some ⟨b1, 0, none⟩) ∧ u7 = .pointer (some ⟨b2, 0, none⟩) ∧ u8 = .int .i64 0 ∧ w.heap.size < b1 ∧ w.heap.size < b2 ∧ b1 ≠ b2 ∧ wx.heap[b1]? = some (boxV x A0 kc0 p0) ∧ wx.heap[b2]? = some (boxV y A1 kc1 p1) ∧ Below (w.alloc (boxM mb)).heap.size (w.alloc (boxM mb)) wx)
    case first =>
      go_region_held3 (fun V => V.cell? ⟨ab, ao, none⟩ = some (.int .i64 x.sort) ∧ V.cell? ⟨ab, ao + 1, none⟩ = some (.int .i64 x.n) ∧ V.cell? ⟨ab, ao + 2, none⟩ = some (.string (bstr x.s)) ∧ V.cell? ⟨ab, ao + 3, none⟩ = some (.slice none 0 0) ∧ V.cell? ⟨ab, ao + 4, none⟩ = some (.slice A0 x.l.length kc0) ∧ V.cell? ⟨ab, ao + 5, none⟩ = some (.pointer p0) ∧ V.cell? ⟨ab, ao + 6, none⟩ = some (.int .i64 y.sort) ∧ V.cell? ⟨ab, ao + 6 + 1, none⟩ = some (.int .i64 y.n) ∧ V.cell? ⟨ab, ao + 6 + 2, none⟩ = some (.string (bstr y.s)) ∧ V.cell? ⟨ab, ao + 6 + 3, none⟩ = some (.slice none 0 0) ∧ V.cell? ⟨ab, ao + 6 + 4, none⟩ = some (.slice A1 y.l.length kc1) ∧ V.cell? ⟨ab, ao + 6 + 5, none⟩ = some (.pointer p1))
        (with_reducible exact HSK.out _ (by go_grown))
        (first | fail)
      all_goals
        clear HSK HS3
        go_wp2_with fail
        go_meet
        first
          | exact ⟨w.heap.size + 1, w.heap.size + 2, rfl, rfl, rfl, by omega, by omega, by omega, HT1.out⟩
          | exact ⟨w.heap.size + 2, w.heap.size + 1, rfl, rfl, rfl, by omega, by omega, by omega, HT2.out.2.1, HT2.out.1, HT2.out.2.2⟩
    case rest =>
      obtain ⟨b1, b2, rfl, rfl, rfl, hb1g, hb2g, hb12, hq1, hq2, hbq⟩ := hcut
      clear HT1 HT2 HSK
      obtain ⟨m0, m1, m2, m3, m4, m5⟩ := HS3.out _ hbq
      clear HS3
      have zz := frozenN hq1
      have z0 := zz 0; have z1 := zz 1; have z2 := zz 2; have z3 := zz 3; have z4 := zz 4; have z5 := zz 5
      clear zz
      obtain ⟨y0, y1, y2, y3, y4, y5⟩ := cells6 hq1
      obtain ⟨hw6, hb6, ho6⟩ := own_block6 hq1 (.int .i64 f.sort) (.int .i64 f.n) (.string (bstr f.s)) (.slice none 0 0) (.slice none f.l.length kc2) (.pointer p2) hbq (by rw [World.size_alloc]; omega)
      have hq26 := (ho6 b2 (by omega)).trans hq2
      have HP6 := Lib.hid (And.intro hw6 (And.intro hq26 hb6))
      clear hq1 hq2 hbq hw6 hq26 hb6 ho6
      go_upto_region 4 with fail
      have hq1 := HP6.out.1
      have hq2 := HP6.out.2.1
      have hbq := HP6.out.2.2
      clear m0 m1 m2 m3 m4 m5 y0 y1 y2 y3 y4 y5 z0 z1 z2 z3 z4 z5 HP6
      generalize (((((wc.setCell ⟨b1, 0, none⟩ (.int .i64 f.sort)).setCell ⟨b1, 1, none⟩ (.int .i64 f.n)).setCell ⟨b1, 2, none⟩ (.string (bstr f.s))).setCell ⟨b1, 3, none⟩ (.slice none 0 0)).setCell ⟨b1, 4, none⟩ (.slice none f.l.length kc2)).setCell ⟨b1, 5, none⟩ (.pointer p2) = wd at *
      have HBW := Lib.hid (below_then HB.out hbq)
      have hc0 : wd.heap[w.heap.size]? = some (boxM mb) := (hbq.block _ (lt_of_heap HX0.out)).trans HX0.out
      have HQ := Lib.hid (And.intro hq1 (And.intro hq2 hc0))
      have HI := Lib.hid (isTuple_any wd b1 b2 f y 1 none A1 kc2 kc1 p2 p1 hq1 hq2 ⟨by decide, by decide⟩ (Nat.le_trans HXL.out (by decide)))
      rw [hT] at HI
      have HBQ := Lib.hid hbq
      clear hq1 hq2 hbq hc0
      have hf0 := HF0.out
      have n0 : (0 : Int) ≤ (0 : Int) := by omega
      have n10 : (1 : Int) ≤ (c : Int) := by have := HCP.out; omega
      have n1 : (0 : Int) ≤ (f.l.length : Int) := by have := HN.out.2.1; omega
      have n12 : (0 : Int) ≤ (kc2 : Int) := by omega
      have n2 : (f.l.length : Int) ≤ 100000000000 := by have := HN.out.2.2.1; omega
      have n3 : (f.l.length : Int) ≤ (kc2 : Int) := by have := HN.out.2.2.2.1; omega
      have n4 : (0 : Int) ≤ (kc2 : Int) := by omega
      have n7 : (kc2 : Int) ≤ 9223372036854775807 := by have := HN.out.2.2.2.2; simp only [maxLen] at this; omega
      go_upto_region 15 with (go_at_call 80; (with_reducible refine HI.out.mono ?_); rintro e1 w1 ⟨rfl, hb1⟩; obtain ⟨x0, x1, x2, x3, x4, x5⟩ := cells6 ((hb1.block _ (lt_of_heap HQ.out.2.1)).trans HQ.out.2.1); rw [HN.out.1] at x1; have HB1 := Lib.hid (below_then HBQ.out hb1); have HB0 := Lib.hid (below_then HBW.out hb1); have HS1 := Lib.hid (fun (V : World) (hb' : Below w1.heap.size w1 V) => (show V.cell? ⟨w.heap.size, 0, none⟩ = some (.pointer (some ⟨mb, 0, none⟩)) ∧ V.cell? ⟨b1, 4, none⟩ = some (.slice none f.l.length kc2) from ⟨cell_below hb' (by rw [Lib.cell_of_heap ((hb1.block _ (lt_of_heap HQ.out.2.2)).trans HQ.out.2.2)]; rfl), cell_below hb' (by rw [Lib.cell_of_heap ((hb1.block _ (lt_of_heap HQ.out.1)).trans HQ.out.1)]; rfl)⟩)); clear hb1)
      clear x0 x1 x2 x3 x4 x5
      have HB1G := Lib.hid hb1g
      clear hb1g hb2g hb12
      go_region_held3 (fun V => V.cell? ⟨w.heap.size, 0, none⟩ = some (.pointer (some ⟨mb, 0, none⟩)) ∧ V.cell? ⟨b1, 4, none⟩ = some (.slice none f.l.length kc2))
        (first | with_reducible exact HS2.out | with_reducible exact HS3.out | with_reducible exact HS4.out | with_reducible exact HS1.out _ (by go_grown) | fail)
        (first
        | (go_at_call 81; have hbw := (show Below w1.heap.size w1 ((w1.alloc (.cells #[.slice none 0 kc2, .slice (some ⟨ab, ao, none⟩) 1 c, .slice none 0 kc2] 57)).drew) from ((Below.refl _ _).alloc (Nat.le_refl _) _).drew); (with_reducible refine (HCC.out _ w1.heap.size (below_then HB1.out hbw) (Rd.drew (Rd.lit w1 #[.slice none 0 kc2, .slice (some ⟨ab, ao, none⟩) 1 c, .slice none 0 kc2] _ (size := 1) (n := 3) rfl))).mono ?_); rintro e1 w2 ⟨A', c', css', rfl, hv2, hb2⟩; have hb3 := below_then hbw hb2; have HS2 := Lib.hid (HS1.out _ hb3); have HV2 := Lib.hid hv2; have HB2 := Lib.hid hb3; clear hbw hb2 hb3 hv2)
        | (go_at_call 59; (with_reducible refine (HTU.out _ _ _ _ (below_then HB0.out HB2.out) HV2.out).mono ?_); rintro e1 w3 ⟨A9, c9, rfl, hv3, hb3⟩; have hb4 := below_then HB2.out hb3; have HS3 := Lib.hid (HS1.out _ hb4); have HV3 := Lib.hid hv3; have HB3 := Lib.hid (below_then HB0.out hb4); clear hb3 hb4 hv3)
        | (go_at_call 41; (with_reducible refine (HTL.out _ _ _ HB3.out HV3.out).mono ?_); rintro e1 w4 ⟨rfl, hp⟩; have HP := Lib.hid hp; have HS4 := Lib.hid (HKP.out _ _ _ _ _ _ HB3.out (Nat.le_of_lt HB1G.out) HS3.out hp); clear hp)
        | fail)
      all_goals
        go_wp2_with fail
        go_returns
        with_reducible exact ⟨rfl, HP.out.mono (HBM.out _ HB3.out).1 (HBM.out _ HB3.out).2⟩
  | some a =>
    obtain ⟨ht4, ht1, k, hyn, hk⟩ := isTup_iff hT
    have hk' : k ≤ f.l.length := by omega
    obtain ⟨csx, hvx, hcx, hpx⟩ := hz2.vs
    obtain rfl : k = 0 := by omega
    replace hyn : y.n = 0 := by omega
    have hfl : f.l = [] := List.eq_nil_of_length_eq_zero hf0
    have hkl : 0 ≤ f.l.length := by omega
    have HE : s.inTup 10 x y f = { s with vals := s.vals ++ [.mk 4 0 [] (tupOf 10 x f 0) none] } := by unfold St.inTup; rw [show (if (10 : Int) = 10 then (1 : Int) else 0) = 1 from rfl, hT, if_pos rfl, if_neg (by decide), hyn, Int.toNat_zero]
    rw [HE]
    have hrl : (([⟨(some a), [], kc2, []⟩, ⟨some ⟨ab, ao, none⟩, [x], c, css.take 1⟩, ⟨(some a), [], kc2, []⟩] : List Rw).flatMap Rw.l) = tupOf 10 x f 0 := by simp [tupOf, hfl]
    obtain ⟨L, hL⟩ : ∃ L, tupOf 10 x f 0 = L := ⟨_, rfl⟩
    rw [hL] at hrl ⊢
    have hLl : L.length ≤ 100000000000 := by rw [← hrl]; simp
    have hrows : ∀ q ∈ ([⟨(some a), [], kc2, []⟩, ⟨some ⟨ab, ao, none⟩, [x], c, css.take 1⟩, ⟨(some a), [], kc2, []⟩] : List Rw), Vs w0 (w.alloc (boxM mb)) (Mv mb t r v f0) q.l q.A q.css := by
      intro q hr
      simp only [List.mem_cons, List.not_mem_nil, or_false] at hr
      rcases hr with rfl | rfl | rfl
      · exact ⟨Rd.nil _ 6 _, LR.nil⟩
      · exact hl.one hb
      · exact ⟨Rd.nil _ 6 _, LR.nil⟩
    have HCC := Lib.hid (fun (wr : World) (g : Nat) (hb' : Below (w.alloc (boxM mb)).heap.size (w.alloc (boxM mb)) wr) (hR : Rd wr 1 (some ⟨g, 0, none⟩) 3 [.slice (some a) 0 kc2, .slice (some ⟨ab, ao, none⟩) 1 c, .slice (some a) 0 kc2]) => (show Calls Tryz.prog 81 #[.slice (some ⟨g, 0, none⟩) 3 3] wr fun e w' => ∃ A' c' css', e = .returned (.slice A' L.length c') ∧ Vs w0 w' (Mv mb t r v f0) L A' css' ∧ Below wr.heap.size wr w' from
      (vconcat_any w0 wr (Mv mb t r v f0) [⟨(some a), [], kc2, []⟩, ⟨some ⟨ab, ao, none⟩, [x], c, css.take 1⟩, ⟨(some a), [], kc2, []⟩] (some ⟨g, 0, none⟩) 3 (by simpa [Rw.cell] using hR) (fun q hr => (hrows q hr).below hb') (by rw [hrl]; omega) (by simp)).mono fun e w' ⟨A', c', h1, h2, h3⟩ => ⟨A', c', _, by rw [← hrl]; exact h1, by rw [← hrl]; exact h2, h3⟩))
    have HTU := Lib.hid (fun (wr : World) (A' : Option Addr) (c' : Nat) (css' : List (List Value)) (hb' : Below w.heap.size w wr) (hV : Vs w0 wr (Mv mb t r v f0) L A' css') => tuple_any w0 wr (Mv mb t r v f0) (fun b hbb => h.mvNew b (Nat.le_trans hb'.size hbb)) A' L css' c' hV hLl)
    have HTL := Lib.hid (fun (wr : World) (A' : Option Addr) (c' : Nat) (hb' : Below w.heap.size w wr) (hz : VR w0 wr (Mv mb t r v f0) (.mk 4 0 [] L none) [.int .i64 4, .int .i64 0, .string (bstr []), .slice none 0 0, .slice A' L.length c', .pointer none]) => (show Calls Tryz.prog 41 #[.pointer (some ⟨mb, 0, none⟩), .agg #[.int .i64 4, .int .i64 0, .string ⟨#[]⟩, .slice none 0 0, .slice A' L.length c', .pointer none]] wr fun e w' => e = .returned (.tuple #[]) ∧ Post w0 B mb (Mv mb t r v f0) wr { s with vals := s.vals ++ [.mk 4 0 [] L none] } w' from tell_any (h.below hb') hv (.mk 4 0 [] L none) (A := A') (c := c') (p := none) hz))
    have HN := Lib.hid (And.intro hyn (And.intro hk' (And.intro hx hcx)))
    have HKP := Lib.hid (fun (wr w3 : World) (s' : St) (b : Nat) (u0 u2 : Value) (hb' : Below w.heap.size w wr) (hbl : w.heap.size ≤ b) (hS : wr.cell? ⟨w.heap.size, 0, none⟩ = some u0 ∧ wr.cell? ⟨b, 4, none⟩ = some u2) (hp : Post w0 B mb (Mv mb t r v f0) wr s' w3) => keep2 h hbl hS hp)
    have HF0 := Lib.hid hf0
    clear hf0
    clear HE h hb hl hv hx hz0 hz1 hz2 hfl hkl hrl hL hLl hrows hvx hk hk' hyn ht4 ht1 hcx hpx
    go_enter Tryz.func61, Tryz.ntmps61
    go_upto_region 1 with fail
    go_cut [6, 7, 8] (fun u6 u7 u8 wx => ∃ b1 b2 : Nat, u6 = .pointer (some ⟨b1, 0, none⟩) ∧ u7 = .pointer (some ⟨b2, 0, none⟩) ∧ u8 = .int .i64 0 ∧ w.heap.size < b1 ∧ w.heap.size < b2 ∧ b1 ≠ b2 ∧ wx.heap[b1]? = some (boxV x A0 kc0 p0) ∧ wx.heap[b2]? = some (boxV y A1 kc1 p1) ∧ Below (w.alloc (boxM mb)).heap.size (w.alloc (boxM mb)) wx)
    case first =>
      go_region_held3 (fun V => V.cell? ⟨ab, ao, none⟩ = some (.int .i64 x.sort) ∧ V.cell? ⟨ab, ao + 1, none⟩ = some (.int .i64 x.n) ∧ V.cell? ⟨ab, ao + 2, none⟩ = some (.string (bstr x.s)) ∧ V.cell? ⟨ab, ao + 3, none⟩ = some (.slice none 0 0) ∧ V.cell? ⟨ab, ao + 4, none⟩ = some (.slice A0 x.l.length kc0) ∧ V.cell? ⟨ab, ao + 5, none⟩ = some (.pointer p0) ∧ V.cell? ⟨ab, ao + 6, none⟩ = some (.int .i64 y.sort) ∧ V.cell? ⟨ab, ao + 6 + 1, none⟩ = some (.int .i64 y.n) ∧ V.cell? ⟨ab, ao + 6 + 2, none⟩ = some (.string (bstr y.s)) ∧ V.cell? ⟨ab, ao + 6 + 3, none⟩ = some (.slice none 0 0) ∧ V.cell? ⟨ab, ao + 6 + 4, none⟩ = some (.slice A1 y.l.length kc1) ∧ V.cell? ⟨ab, ao + 6 + 5, none⟩ = some (.pointer p1))
        (with_reducible exact HSK.out _ (by go_grown))
        (first | fail)
      all_goals
        clear HSK HS3
        go_wp2_with fail
        go_meet
        first
          | exact ⟨w.heap.size + 1, w.heap.size + 2, rfl, rfl, rfl, by omega, by omega, by omega, HT1.out⟩
          | exact ⟨w.heap.size + 2, w.heap.size + 1, rfl, rfl, rfl, by omega, by omega, by omega, HT2.out.2.1, HT2.out.1, HT2.out.2.2⟩
    case rest =>
      obtain ⟨b1, b2, rfl, rfl, rfl, hb1g, hb2g, hb12, hq1, hq2, hbq⟩ := hcut
      clear HT1 HT2 HSK
      obtain ⟨m0, m1, m2, m3, m4, m5⟩ := HS3.out _ hbq
      clear HS3
      have zz := frozenN hq1
      have z0 := zz 0; have z1 := zz 1; have z2 := zz 2; have z3 := zz 3; have z4 := zz 4; have z5 := zz 5
      clear zz
      obtain ⟨y0, y1, y2, y3, y4, y5⟩ := cells6 hq1
      obtain ⟨hw6, hb6, ho6⟩ := own_block6 hq1 (.int .i64 f.sort) (.int .i64 f.n) (.string (bstr f.s)) (.slice none 0 0) (.slice (some a) f.l.length kc2) (.pointer p2) hbq (by rw [World.size_alloc]; omega)
      have hq26 := (ho6 b2 (by omega)).trans hq2
      have HP6 := Lib.hid (And.intro hw6 (And.intro hq26 hb6))
      clear hq1 hq2 hbq hw6 hq26 hb6 ho6
      go_upto_region 4 with fail
      have hq1 := HP6.out.1
      have hq2 := HP6.out.2.1
      have hbq := HP6.out.2.2
      clear m0 m1 m2 m3 m4 m5 y0 y1 y2 y3 y4 y5 z0 z1 z2 z3 z4 z5 HP6
      generalize (((((wc.setCell ⟨b1, 0, none⟩ (.int .i64 f.sort)).setCell ⟨b1, 1, none⟩ (.int .i64 f.n)).setCell ⟨b1, 2, none⟩ (.string (bstr f.s))).setCell ⟨b1, 3, none⟩ (.slice none 0 0)).setCell ⟨b1, 4, none⟩ (.slice (some a) f.l.length kc2)).setCell ⟨b1, 5, none⟩ (.pointer p2) = wd at *
      have HBW := Lib.hid (below_then HB.out hbq)
      have hc0 : wd.heap[w.heap.size]? = some (boxM mb) := (hbq.block _ (lt_of_heap HX0.out)).trans HX0.out
      have HQ := Lib.hid (And.intro hq1 (And.intro hq2 hc0))
      have HI := Lib.hid (isTuple_any wd b1 b2 f y 1 (some a) A1 kc2 kc1 p2 p1 hq1 hq2 ⟨by decide, by decide⟩ (Nat.le_trans HXL.out (by decide)))
      rw [hT] at HI
      have HBQ := Lib.hid hbq
      clear hq1 hq2 hbq hc0
      have hf0 := HF0.out
      have n0 : (0 : Int) ≤ (0 : Int) := by omega
      have n10 : (1 : Int) ≤ (c : Int) := by have := HCP.out; omega
      have n1 : (0 : Int) ≤ (f.l.length : Int) := by have := HN.out.2.1; omega
      have n12 : (0 : Int) ≤ (kc2 : Int) := by omega
      have n2 : (f.l.length : Int) ≤ 100000000000 := by have := HN.out.2.2.1; omega
      have n3 : (f.l.length : Int) ≤ (kc2 : Int) := by have := HN.out.2.2.2.1; omega
      have n4 : (0 : Int) ≤ (kc2 : Int) := by omega
      have n7 : (kc2 : Int) ≤ 9223372036854775807 := by have := HN.out.2.2.2.2; simp only [maxLen] at this; omega
      go_upto_region 15 with (go_at_call 80; (with_reducible refine HI.out.mono ?_); rintro e1 w1 ⟨rfl, hb1⟩; obtain ⟨x0, x1, x2, x3, x4, x5⟩ := cells6 ((hb1.block _ (lt_of_heap HQ.out.2.1)).trans HQ.out.2.1); rw [HN.out.1] at x1; have HB1 := Lib.hid (below_then HBQ.out hb1); have HB0 := Lib.hid (below_then HBW.out hb1); have HS1 := Lib.hid (fun (V : World) (hb' : Below w1.heap.size w1 V) => (show V.cell? ⟨w.heap.size, 0, none⟩ = some (.pointer (some ⟨mb, 0, none⟩)) ∧ V.cell? ⟨b1, 4, none⟩ = some (.slice (some a) f.l.length kc2) from ⟨cell_below hb' (by rw [Lib.cell_of_heap ((hb1.block _ (lt_of_heap HQ.out.2.2)).trans HQ.out.2.2)]; rfl), cell_below hb' (by rw [Lib.cell_of_heap ((hb1.block _ (lt_of_heap HQ.out.1)).trans HQ.out.1)]; rfl)⟩)); clear hb1)
      clear x0 x1 x2 x3 x4 x5
      have HB1G := Lib.hid hb1g
      clear hb1g hb2g hb12
      go_region_held3 (fun V => V.cell? ⟨w.heap.size, 0, none⟩ = some (.pointer (some ⟨mb, 0, none⟩)) ∧ V.cell? ⟨b1, 4, none⟩ = some (.slice (some a) f.l.length kc2))
        (first | with_reducible exact HS2.out | with_reducible exact HS3.out | with_reducible exact HS4.out | with_reducible exact HS1.out _ (by go_grown) | fail)
        (first
        | (go_at_call 81; have hbw := (show Below w1.heap.size w1 ((w1.alloc (.cells #[.slice (some a) 0 kc2, .slice (some ⟨ab, ao, none⟩) 1 c, .slice (some a) 0 kc2] 57)).drew) from ((Below.refl _ _).alloc (Nat.le_refl _) _).drew); (with_reducible refine (HCC.out _ w1.heap.size (below_then HB1.out hbw) (Rd.drew (Rd.lit w1 #[.slice (some a) 0 kc2, .slice (some ⟨ab, ao, none⟩) 1 c, .slice (some a) 0 kc2] _ (size := 1) (n := 3) rfl))).mono ?_); rintro e1 w2 ⟨A', c', css', rfl, hv2, hb2⟩; have hb3 := below_then hbw hb2; have HS2 := Lib.hid (HS1.out _ hb3); have HV2 := Lib.hid hv2; have HB2 := Lib.hid hb3; clear hbw hb2 hb3 hv2)
        | (go_at_call 59; (with_reducible refine (HTU.out _ _ _ _ (below_then HB0.out HB2.out) HV2.out).mono ?_); rintro e1 w3 ⟨A9, c9, rfl, hv3, hb3⟩; have hb4 := below_then HB2.out hb3; have HS3 := Lib.hid (HS1.out _ hb4); have HV3 := Lib.hid hv3; have HB3 := Lib.hid (below_then HB0.out hb4); clear hb3 hb4 hv3)
        | (go_at_call 41; (with_reducible refine (HTL.out _ _ _ HB3.out HV3.out).mono ?_); rintro e1 w4 ⟨rfl, hp⟩; have HP := Lib.hid hp; have HS4 := Lib.hid (HKP.out _ _ _ _ _ _ HB3.out (Nat.le_of_lt HB1G.out) HS3.out hp); clear hp)
        | fail)
      all_goals
        go_wp2_with fail
        go_returns
        with_reducible exact ⟨rfl, HP.out.mono (HBM.out _ HB3.out).1 (HBM.out _ HB3.out).2⟩
set_option maxRecDepth 100000 in
set_option maxHeartbeats 16000000 in
theorem inPutF (h : Rep w0 B mb s w t i r v f0 nx nm rcs vcs fcs) (hv : s.vals.length ≤ 100000000000) (x y f : Val) (css : List (List Value)) (ab ao c : Nat) (hl : Vs w0 w (Mv mb t r v f0) [x, y, f] (some ⟨ab, ao, none⟩) css) (hx : f.l.length ≤ 90000000000) (hc : 3 ≤ c ∧ c ≤ maxLen) (hT : isTup f y 0 = false) :
    Calls Tryz.prog 61 #[.agg #[.pointer (some ⟨mb, 0, none⟩)], .int .i64 12, .slice (some ⟨ab, ao, none⟩) 3 c] w fun e1 w' => e1 = .returned (.tuple #[]) ∧ Post w0 B mb (Mv mb t r v f0) w (s.inTup 12 x y f) w' := by
  have hb : Below w.heap.size w (w.alloc (boxM mb)) := (Below.refl _ _).alloc (Nat.le_refl _) _
  obtain ⟨A0, kc0, p0, hz0, g00, g01, g02, g03, g04, g05⟩ := (hl.below hb).six 0 (z := x) rfl (ao) (ao + 1) (ao + 2) (ao + 3) (ao + 4) (ao + 5) ⟨by omega, by omega, by omega, by omega, by omega, by omega⟩
  obtain ⟨A1, kc1, p1, hz1, g10, g11, g12, g13, g14, g15⟩ := (hl.below hb).six 1 (z := y) rfl (ao + 6) (ao + 6 + 1) (ao + 6 + 2) (ao + 6 + 3) (ao + 6 + 4) (ao + 6 + 5) ⟨by omega, by omega, by omega, by omega, by omega, by omega⟩
  obtain ⟨A2, kc2, p2, hz2, g20, g21, g22, g23, g24, g25⟩ := (hl.below hb).six 2 (z := f) rfl (ao + 12) (ao + 12 + 1) (ao + 12 + 2) (ao + 12 + 3) (ao + 12 + 4) (ao + 12 + 5) ⟨by omega, by omega, by omega, by omega, by omega, by omega⟩
  have HSK := Lib.hid (fun (V : World) (hb' : Below (w.alloc (boxM mb)).heap.size (w.alloc (boxM mb)) V) => (show V.cell? ⟨ab, ao, none⟩ = some (.int .i64 x.sort) ∧ V.cell? ⟨ab, ao + 1, none⟩ = some (.int .i64 x.n) ∧ V.cell? ⟨ab, ao + 2, none⟩ = some (.string (bstr x.s)) ∧ V.cell? ⟨ab, ao + 3, none⟩ = some (.slice none 0 0) ∧ V.cell? ⟨ab, ao + 4, none⟩ = some (.slice A0 x.l.length kc0) ∧ V.cell? ⟨ab, ao + 5, none⟩ = some (.pointer p0) ∧ V.cell? ⟨ab, ao + 6, none⟩ = some (.int .i64 y.sort) ∧ V.cell? ⟨ab, ao + 6 + 1, none⟩ = some (.int .i64 y.n) ∧ V.cell? ⟨ab, ao + 6 + 2, none⟩ = some (.string (bstr y.s)) ∧ V.cell? ⟨ab, ao + 6 + 3, none⟩ = some (.slice none 0 0) ∧ V.cell? ⟨ab, ao + 6 + 4, none⟩ = some (.slice A1 y.l.length kc1) ∧ V.cell? ⟨ab, ao + 6 + 5, none⟩ = some (.pointer p1) from ⟨cell_below hb' g00, cell_below hb' g01, cell_below hb' g02, cell_below hb' g03, cell_below hb' g04, cell_below hb' g05, cell_below hb' g10, cell_below hb' g11, cell_below hb' g12, cell_below hb' g13, cell_below hb' g14, cell_below hb' g15⟩))
  have HS3 := Lib.hid (fun (V : World) (hb' : Below (w.alloc (boxM mb)).heap.size (w.alloc (boxM mb)) V) => (show V.cell? ⟨ab, ao + 12, none⟩ = some (.int .i64 f.sort) ∧ V.cell? ⟨ab, ao + 12 + 1, none⟩ = some (.int .i64 f.n) ∧ V.cell? ⟨ab, ao + 12 + 2, none⟩ = some (.string (bstr f.s)) ∧ V.cell? ⟨ab, ao + 12 + 3, none⟩ = some (.slice none 0 0) ∧ V.cell? ⟨ab, ao + 12 + 4, none⟩ = some (.slice A2 f.l.length kc2) ∧ V.cell? ⟨ab, ao + 12 + 5, none⟩ = some (.pointer p2) from ⟨cell_below hb' g20, cell_below hb' g21, cell_below hb' g22, cell_below hb' g23, cell_below hb' g24, cell_below hb' g25⟩))
  clear g00 g01 g02 g03 g04 g05 g10 g11 g12 g13 g14 g15 g20 g21 g22 g23 g24 g25
  have HX0 := Lib.hid (heap_new (w := w) (o := boxM mb) rfl)
  have HZ0 := Lib.hid hz0
  have HZ1 := Lib.hid hz1
  have HZ2 := Lib.hid hz2
  have HCP := Lib.hid hc
  clear hc
  have HB := Lib.hid hb
  have HH := Lib.hid h
  have HV := Lib.hid hv
  have HXL := Lib.hid hx
  have HT1 := Lib.hid (two_new (w.alloc (boxM mb)) (w.heap.size + 1) (World.size_alloc _ _) (boxV x A0 kc0 p0) (boxV y A1 kc1 p1))
  have HT2 := Lib.hid (two_new (w.alloc (boxM mb)) (w.heap.size + 1) (World.size_alloc _ _) (boxV y A1 kc1 p1) (boxV x A0 kc0 p0))
  have HBM := Lib.hid (fun (wr : World) (hb : Below w.heap.size w wr) => And.intro (Tr.below (P := Mv mb t r v f0) hb) (hb.mono (Nat.le_of_lt (Nat.lt_of_le_of_lt h.base.2 h.lt))))
  have HS := Lib.hid (fun (wr : World) (hb : Below w.heap.size w wr) => stuck_any (h.below hb))
  have HE : s.inTup 12 x y f = { s with err := 11 } := by unfold St.inTup; rw [show (if (12 : Int) = 10 then (1 : Int) else 0) = 0 from rfl, hT, if_neg (by decide)]
  rw [HE]
  clear HE h hb hl hv hx hz0 hz1 hz2
  go_enter Tryz.func61, Tryz.ntmps61
  go_upto_region 1 with fail
  go_cut [6, 7, 8] (fun u6 u7 u8 wx => ∃ b1 b2 : Nat, u6 = .pointer (some ⟨b1, 0, none⟩) ∧ u7 = .pointer (some ⟨b2, 0, none⟩) ∧ u8 = .int .i64 0 ∧ w.heap.size < b1 ∧ w.heap.size < b2 ∧ b1 ≠ b2 ∧ wx.heap[b1]? = some (boxV x A0 kc0 p0) ∧ wx.heap[b2]? = some (boxV y A1 kc1 p1) ∧ Below (w.alloc (boxM mb)).heap.size (w.alloc (boxM mb)) wx)
  case first =>
    go_region_held3 (fun V => V.cell? ⟨ab, ao, none⟩ = some (.int .i64 x.sort) ∧ V.cell? ⟨ab, ao + 1, none⟩ = some (.int .i64 x.n) ∧ V.cell? ⟨ab, ao + 2, none⟩ = some (.string (bstr x.s)) ∧ V.cell? ⟨ab, ao + 3, none⟩ = some (.slice none 0 0) ∧ V.cell? ⟨ab, ao + 4, none⟩ = some (.slice A0 x.l.length kc0) ∧ V.cell? ⟨ab, ao + 5, none⟩ = some (.pointer p0) ∧ V.cell? ⟨ab, ao + 6, none⟩ = some (.int .i64 y.sort) ∧ V.cell? ⟨ab, ao + 6 + 1, none⟩ = some (.int .i64 y.n) ∧ V.cell? ⟨ab, ao + 6 + 2, none⟩ = some (.string (bstr y.s)) ∧ V.cell? ⟨ab, ao + 6 + 3, none⟩ = some (.slice none 0 0) ∧ V.cell? ⟨ab, ao + 6 + 4, none⟩ = some (.slice A1 y.l.length kc1) ∧ V.cell? ⟨ab, ao + 6 + 5, none⟩ = some (.pointer p1))
      (with_reducible exact HSK.out _ (by go_grown))
      (first | fail)
    all_goals
      clear HSK HS3
      go_wp2_with fail
      go_meet
      first
        | exact ⟨w.heap.size + 1, w.heap.size + 2, rfl, rfl, rfl, by omega, by omega, by omega, HT1.out⟩
        | exact ⟨w.heap.size + 2, w.heap.size + 1, rfl, rfl, rfl, by omega, by omega, by omega, HT2.out.2.1, HT2.out.1, HT2.out.2.2⟩
  case rest =>
    obtain ⟨b1, b2, rfl, rfl, rfl, hb1g, hb2g, hb12, hq1, hq2, hbq⟩ := hcut
    clear HT1 HT2 HSK
    obtain ⟨m0, m1, m2, m3, m4, m5⟩ := HS3.out _ hbq
    clear HS3
    have zz := frozenN hq1
    have z0 := zz 0; have z1 := zz 1; have z2 := zz 2; have z3 := zz 3; have z4 := zz 4; have z5 := zz 5
    clear zz
    obtain ⟨y0, y1, y2, y3, y4, y5⟩ := cells6 hq1
    obtain ⟨hw6, hb6, ho6⟩ := own_block6 hq1 (.int .i64 f.sort) (.int .i64 f.n) (.string (bstr f.s)) (.slice none 0 0) (.slice A2 f.l.length kc2) (.pointer p2) hbq (by rw [World.size_alloc]; omega)
    have hq26 := (ho6 b2 (by omega)).trans hq2
    have HP6 := Lib.hid (And.intro hw6 (And.intro hq26 hb6))
    clear hq1 hq2 hbq hw6 hq26 hb6 ho6
    go_upto_region 4 with fail
    have hq1 := HP6.out.1
    have hq2 := HP6.out.2.1
    have hbq := HP6.out.2.2
    clear m0 m1 m2 m3 m4 m5 y0 y1 y2 y3 y4 y5 z0 z1 z2 z3 z4 z5 HP6
    generalize (((((wc.setCell ⟨b1, 0, none⟩ (.int .i64 f.sort)).setCell ⟨b1, 1, none⟩ (.int .i64 f.n)).setCell ⟨b1, 2, none⟩ (.string (bstr f.s))).setCell ⟨b1, 3, none⟩ (.slice none 0 0)).setCell ⟨b1, 4, none⟩ (.slice A2 f.l.length kc2)).setCell ⟨b1, 5, none⟩ (.pointer p2) = wd at *
    have HBW := Lib.hid (below_then HB.out hbq)
    have hc0 : wd.heap[w.heap.size]? = some (boxM mb) := (hbq.block _ (lt_of_heap HX0.out)).trans HX0.out
    have HQ := Lib.hid (And.intro hq1 (And.intro hq2 hc0))
    have HI := Lib.hid (isTuple_any wd b1 b2 f y 0 A2 A1 kc2 kc1 p2 p1 hq1 hq2 ⟨by decide, by decide⟩ (Nat.le_trans HXL.out (by decide)))
    rw [hT] at HI
    clear hq1 hq2 hbq hc0
    go_wp2_with (first
      | (go_at_call 80; (with_reducible refine HI.out.mono ?_); rintro e1 w1 ⟨rfl, hb1⟩; have c0 : w1.cell? ⟨w.heap.size, 0, none⟩ = some (.pointer (some ⟨mb, 0, none⟩)) := (by rw [Lib.cell_of_heap ((hb1.block _ (lt_of_heap HQ.out.2.2)).trans HQ.out.2.2)]; rfl); have HB1 := Lib.hid (below_then HBW.out hb1); clear hb1)
      | (go_at_call 40; (with_reducible refine (HS.out _ HB1.out).mono ?_); rintro e1 w2 ⟨rfl, hp⟩; have HP := Lib.hid hp; clear hp))
    go_returns
    with_reducible exact ⟨rfl, HP.out.mono (HBM.out _ HB1.out).1 (HBM.out _ HB1.out).2⟩
set_option maxRecDepth 100000 in
set_option maxHeartbeats 16000000 in
theorem inPutT (h : Rep w0 B mb s w t i r v f0 nx nm rcs vcs fcs) (hv : s.vals.length ≤ 100000000000) (x y f : Val) (css : List (List Value)) (ab ao c : Nat) (hl : Vs w0 w (Mv mb t r v f0) [x, y, f] (some ⟨ab, ao, none⟩) css) (hx : f.l.length ≤ 90000000000) (hc : 3 ≤ c ∧ c ≤ maxLen) (hT : isTup f y 0 = true) :
    Calls Tryz.prog 61 #[.agg #[.pointer (some ⟨mb, 0, none⟩)], .int .i64 12, .slice (some ⟨ab, ao, none⟩) 3 c] w fun e1 w' => e1 = .returned (.tuple #[]) ∧ Post w0 B mb (Mv mb t r v f0) w (s.inTup 12 x y f) w' := by
  have hb : Below w.heap.size w (w.alloc (boxM mb)) := (Below.refl _ _).alloc (Nat.le_refl _) _
  obtain ⟨A0, kc0, p0, hz0, g00, g01, g02, g03, g04, g05⟩ := (hl.below hb).six 0 (z := x) rfl (ao) (ao + 1) (ao + 2) (ao + 3) (ao + 4) (ao + 5) ⟨by omega, by omega, by omega, by omega, by omega, by omega⟩
  obtain ⟨A1, kc1, p1, hz1, g10, g11, g12, g13, g14, g15⟩ := (hl.below hb).six 1 (z := y) rfl (ao + 6) (ao + 6 + 1) (ao + 6 + 2) (ao + 6 + 3) (ao + 6 + 4) (ao + 6 + 5) ⟨by omega, by omega, by omega, by omega, by omega, by omega⟩
  obtain ⟨A2, kc2, p2, hz2, g20, g21, g22, g23, g24, g25⟩ := (hl.below hb).six 2 (z := f) rfl (ao + 12) (ao + 12 + 1) (ao + 12 + 2) (ao + 12 + 3) (ao + 12 + 4) (ao + 12 + 5) ⟨by omega, by omega, by omega, by omega, by omega, by omega⟩
  have HSK := Lib.hid (fun (V : World) (hb' : Below (w.alloc (boxM mb)).heap.size (w.alloc (boxM mb)) V) => (show V.cell? ⟨ab, ao, none⟩ = some (.int .i64 x.sort) ∧ V.cell? ⟨ab, ao + 1, none⟩ = some (.int .i64 x.n) ∧ V.cell? ⟨ab, ao + 2, none⟩ = some (.string (bstr x.s)) ∧ V.cell? ⟨ab, ao + 3, none⟩ = some (.slice none 0 0) ∧ V.cell? ⟨ab, ao + 4, none⟩ = some (.slice A0 x.l.length kc0) ∧ V.cell? ⟨ab, ao + 5, none⟩ = some (.pointer p0) ∧ V.cell? ⟨ab, ao + 6, none⟩ = some (.int .i64 y.sort) ∧ V.cell? ⟨ab, ao + 6 + 1, none⟩ = some (.int .i64 y.n) ∧ V.cell? ⟨ab, ao + 6 + 2, none⟩ = some (.string (bstr y.s)) ∧ V.cell? ⟨ab, ao + 6 + 3, none⟩ = some (.slice none 0 0) ∧ V.cell? ⟨ab, ao + 6 + 4, none⟩ = some (.slice A1 y.l.length kc1) ∧ V.cell? ⟨ab, ao + 6 + 5, none⟩ = some (.pointer p1) from ⟨cell_below hb' g00, cell_below hb' g01, cell_below hb' g02, cell_below hb' g03, cell_below hb' g04, cell_below hb' g05, cell_below hb' g10, cell_below hb' g11, cell_below hb' g12, cell_below hb' g13, cell_below hb' g14, cell_below hb' g15⟩))
  have HS3 := Lib.hid (fun (V : World) (hb' : Below (w.alloc (boxM mb)).heap.size (w.alloc (boxM mb)) V) => (show V.cell? ⟨ab, ao + 12, none⟩ = some (.int .i64 f.sort) ∧ V.cell? ⟨ab, ao + 12 + 1, none⟩ = some (.int .i64 f.n) ∧ V.cell? ⟨ab, ao + 12 + 2, none⟩ = some (.string (bstr f.s)) ∧ V.cell? ⟨ab, ao + 12 + 3, none⟩ = some (.slice none 0 0) ∧ V.cell? ⟨ab, ao + 12 + 4, none⟩ = some (.slice A2 f.l.length kc2) ∧ V.cell? ⟨ab, ao + 12 + 5, none⟩ = some (.pointer p2) from ⟨cell_below hb' g20, cell_below hb' g21, cell_below hb' g22, cell_below hb' g23, cell_below hb' g24, cell_below hb' g25⟩))
  clear g00 g01 g02 g03 g04 g05 g10 g11 g12 g13 g14 g15 g20 g21 g22 g23 g24 g25
  have HX0 := Lib.hid (heap_new (w := w) (o := boxM mb) rfl)
  have HZ0 := Lib.hid hz0
  have HZ1 := Lib.hid hz1
  have HZ2 := Lib.hid hz2
  have HCP := Lib.hid hc
  clear hc
  have HB := Lib.hid hb
  have HH := Lib.hid h
  have HV := Lib.hid hv
  have HXL := Lib.hid hx
  have HT1 := Lib.hid (two_new (w.alloc (boxM mb)) (w.heap.size + 1) (World.size_alloc _ _) (boxV x A0 kc0 p0) (boxV y A1 kc1 p1))
  have HT2 := Lib.hid (two_new (w.alloc (boxM mb)) (w.heap.size + 1) (World.size_alloc _ _) (boxV y A1 kc1 p1) (boxV x A0 kc0 p0))
  have HBM := Lib.hid (fun (wr : World) (hb : Below w.heap.size w wr) => And.intro (Tr.below (P := Mv mb t r v f0) hb) (hb.mono (Nat.le_of_lt (Nat.lt_of_le_of_lt h.base.2 h.lt))))
  obtain ⟨ht4, ht1, k, hyn, hk⟩ := isTup_iff hT
  have hk' : k < f.l.length := by omega
  obtain ⟨csx, hvx, hcx, hpx⟩ := hz2.vs
  obtain ⟨a, rfl⟩ : ∃ a, A2 = some a := by
    obtain ⟨fb, fo, e⟩ := hvx.addr (by omega)
    exact ⟨_, e⟩
  have hkl : k ≤ f.l.length := by omega
  have hd3 := hvx.dropC (k + 1) (by omega) kc2 (by omega)
  obtain ⟨A3, hA3⟩ : ∃ A3, (if kc2 = k + 1 then some a else some (a.add ((k + 1) * 6))) = A3 := ⟨_, rfl⟩
  rw [hA3] at hd3
  have HE : s.inTup 12 x y f = { s with vals := s.vals ++ [.mk 4 0 [] (tupOf 12 x f k) none] } := by unfold St.inTup; rw [show (if (12 : Int) = 10 then (1 : Int) else 0) = 0 from rfl, hT, if_pos rfl, if_neg (by decide), hyn, Int.toNat_natCast]
  rw [HE]
  have hrl : (([⟨some a, f.l.take k, kc2, csx.take k⟩, ⟨some ⟨ab, ao, none⟩, [x], c, css.take 1⟩, ⟨A3, f.l.drop (k + 1), kc2 - (k + 1), csx.drop (k + 1)⟩] : List Rw).flatMap Rw.l) = tupOf 12 x f k := by simp [tupOf]
  obtain ⟨L, hL⟩ : ∃ L, tupOf 12 x f k = L := ⟨_, rfl⟩
  rw [hL] at hrl ⊢
  have hLl : L.length ≤ 100000000000 := by rw [← hrl]; simp; omega
  have hrows : ∀ q ∈ ([⟨some a, f.l.take k, kc2, csx.take k⟩, ⟨some ⟨ab, ao, none⟩, [x], c, css.take 1⟩, ⟨A3, f.l.drop (k + 1), kc2 - (k + 1), csx.drop (k + 1)⟩] : List Rw), Vs w0 (w.alloc (boxM mb)) (Mv mb t r v f0) q.l q.A q.css := by
    intro q hr
    simp only [List.mem_cons, List.not_mem_nil, or_false] at hr
    rcases hr with rfl | rfl | rfl
    · exact hvx.take k hkl
    · exact hl.one hb
    · exact hd3
  have HCC := Lib.hid (fun (wr : World) (g : Nat) (hb' : Below (w.alloc (boxM mb)).heap.size (w.alloc (boxM mb)) wr) (hR : Rd wr 1 (some ⟨g, 0, none⟩) 3 [.slice (some a) k kc2, .slice (some ⟨ab, ao, none⟩) 1 c, .slice A3 (f.l.length - (k + 1)) (kc2 - (k + 1))]) => (show Calls Tryz.prog 81 #[.slice (some ⟨g, 0, none⟩) 3 3] wr fun e w' => ∃ A' c' css', e = .returned (.slice A' L.length c') ∧ Vs w0 w' (Mv mb t r v f0) L A' css' ∧ Below wr.heap.size wr w' from
    (vconcat_any w0 wr (Mv mb t r v f0) [⟨some a, f.l.take k, kc2, csx.take k⟩, ⟨some ⟨ab, ao, none⟩, [x], c, css.take 1⟩, ⟨A3, f.l.drop (k + 1), kc2 - (k + 1), csx.drop (k + 1)⟩] (some ⟨g, 0, none⟩) 3 (by simpa [Rw.cell, hkl] using hR) (fun q hr => (hrows q hr).below hb') (by rw [hrl]; omega) (by simp)).mono fun e w' ⟨A', c', h1, h2, h3⟩ => ⟨A', c', _, by rw [← hrl]; exact h1, by rw [← hrl]; exact h2, h3⟩))
  have HTU := Lib.hid (fun (wr : World) (A' : Option Addr) (c' : Nat) (css' : List (List Value)) (hb' : Below w.heap.size w wr) (hV : Vs w0 wr (Mv mb t r v f0) L A' css') => tuple_any w0 wr (Mv mb t r v f0) (fun b hbb => h.mvNew b (Nat.le_trans hb'.size hbb)) A' L css' c' hV hLl)
  have HTL := Lib.hid (fun (wr : World) (A' : Option Addr) (c' : Nat) (hb' : Below w.heap.size w wr) (hz : VR w0 wr (Mv mb t r v f0) (.mk 4 0 [] L none) [.int .i64 4, .int .i64 0, .string (bstr []), .slice none 0 0, .slice A' L.length c', .pointer none]) => (show Calls Tryz.prog 41 #[.pointer (some ⟨mb, 0, none⟩), .agg #[.int .i64 4, .int .i64 0, .string ⟨#[]⟩, .slice none 0 0, .slice A' L.length c', .pointer none]] wr fun e w' => e = .returned (.tuple #[]) ∧ Post w0 B mb (Mv mb t r v f0) wr { s with vals := s.vals ++ [.mk 4 0 [] L none] } w' from tell_any (h.below hb') hv (.mk 4 0 [] L none) (A := A') (c := c') (p := none) hz))
  have HN := Lib.hid (And.intro hyn (And.intro hk' (And.intro hx hcx)))
  have HKP := Lib.hid (fun (wr w3 : World) (s' : St) (b : Nat) (u0 u2 : Value) (hb' : Below w.heap.size w wr) (hbl : w.heap.size ≤ b) (hS : wr.cell? ⟨w.heap.size, 0, none⟩ = some u0 ∧ wr.cell? ⟨b, 4, none⟩ = some u2) (hp : Post w0 B mb (Mv mb t r v f0) wr s' w3) => keep2 h hbl hS hp)
  clear HE h hb hl hv hx hz0 hz1 hz2 hkl hrl hL hLl hrows hvx hd3 hk hk' hyn ht4 ht1 hcx hpx
  go_enter Tryz.func61, Tryz.ntmps61
  go_upto_region 1 with fail
  go_cut [6, 7, 8] (fun u6 u7 u8 wx => ∃ b1 b2 : Nat, u6 = .pointer (some ⟨b1, 0, none⟩) ∧ u7 = .pointer (some ⟨b2, 0, none⟩) ∧ u8 = .int .i64 0 ∧ w.heap.size < b1 ∧ w.heap.size < b2 ∧ b1 ≠ b2 ∧ wx.heap[b1]? = some (boxV x A0 kc0 p0) ∧ wx.heap[b2]? = some (boxV y A1 kc1 p1) ∧ Below (w.alloc (boxM mb)).heap.size (w.alloc (boxM mb)) wx)
  case first =>
    go_region_held3 (fun V => V.cell? ⟨ab, ao, none⟩ = some (.int .i64 x.sort) ∧ V.cell? ⟨ab, ao + 1, none⟩ = some (.int .i64 x.n) ∧ V.cell? ⟨ab, ao + 2, none⟩ = some (.string (bstr x.s)) ∧ V.cell? ⟨ab, ao + 3, none⟩ = some (.slice none 0 0) ∧ V.cell? ⟨ab, ao + 4, none⟩ = some (.slice A0 x.l.length kc0) ∧ V.cell? ⟨ab, ao + 5, none⟩ = some (.pointer p0) ∧ V.cell? ⟨ab, ao + 6, none⟩ = some (.int .i64 y.sort) ∧ V.cell? ⟨ab, ao + 6 + 1, none⟩ = some (.int .i64 y.n) ∧ V.cell? ⟨ab, ao + 6 + 2, none⟩ = some (.string (bstr y.s)) ∧ V.cell? ⟨ab, ao + 6 + 3, none⟩ = some (.slice none 0 0) ∧ V.cell? ⟨ab, ao + 6 + 4, none⟩ = some (.slice A1 y.l.length kc1) ∧ V.cell? ⟨ab, ao + 6 + 5, none⟩ = some (.pointer p1))
      (with_reducible exact HSK.out _ (by go_grown))
      (first | fail)
    all_goals
      clear HSK HS3
      go_wp2_with fail
      go_meet
      first
        | exact ⟨w.heap.size + 1, w.heap.size + 2, rfl, rfl, rfl, by omega, by omega, by omega, HT1.out⟩
        | exact ⟨w.heap.size + 2, w.heap.size + 1, rfl, rfl, rfl, by omega, by omega, by omega, HT2.out.2.1, HT2.out.1, HT2.out.2.2⟩
  case rest =>
    obtain ⟨b1, b2, rfl, rfl, rfl, hb1g, hb2g, hb12, hq1, hq2, hbq⟩ := hcut
    clear HT1 HT2 HSK
    obtain ⟨m0, m1, m2, m3, m4, m5⟩ := HS3.out _ hbq
    clear HS3
    have zz := frozenN hq1
    have z0 := zz 0; have z1 := zz 1; have z2 := zz 2; have z3 := zz 3; have z4 := zz 4; have z5 := zz 5
    clear zz
    obtain ⟨y0, y1, y2, y3, y4, y5⟩ := cells6 hq1
    obtain ⟨hw6, hb6, ho6⟩ := own_block6 hq1 (.int .i64 f.sort) (.int .i64 f.n) (.string (bstr f.s)) (.slice none 0 0) (.slice (some a) f.l.length kc2) (.pointer p2) hbq (by rw [World.size_alloc]; omega)
    have hq26 := (ho6 b2 (by omega)).trans hq2
    have HP6 := Lib.hid (And.intro hw6 (And.intro hq26 hb6))
    clear hq1 hq2 hbq hw6 hq26 hb6 ho6
    go_upto_region 4 with fail
    have hq1 := HP6.out.1
    have hq2 := HP6.out.2.1
    have hbq := HP6.out.2.2
    clear m0 m1 m2 m3 m4 m5 y0 y1 y2 y3 y4 y5 z0 z1 z2 z3 z4 z5 HP6
    generalize (((((wc.setCell ⟨b1, 0, none⟩ (.int .i64 f.sort)).setCell ⟨b1, 1, none⟩ (.int .i64 f.n)).setCell ⟨b1, 2, none⟩ (.string (bstr f.s))).setCell ⟨b1, 3, none⟩ (.slice none 0 0)).setCell ⟨b1, 4, none⟩ (.slice (some a) f.l.length kc2)).setCell ⟨b1, 5, none⟩ (.pointer p2) = wd at *
    have HBW := Lib.hid (below_then HB.out hbq)
    have hc0 : wd.heap[w.heap.size]? = some (boxM mb) := (hbq.block _ (lt_of_heap HX0.out)).trans HX0.out
    have HQ := Lib.hid (And.intro hq1 (And.intro hq2 hc0))
    have HI := Lib.hid (isTuple_any wd b1 b2 f y 0 (some a) A1 kc2 kc1 p2 p1 hq1 hq2 ⟨by decide, by decide⟩ (Nat.le_trans HXL.out (by decide)))
    rw [hT] at HI
    have HBQ := Lib.hid hbq
    clear hq1 hq2 hbq hc0
    have n0 : (0 : Int) ≤ (k : Int) := by omega
    have n10 : (1 : Int) ≤ (c : Int) := by have := HCP.out; omega
    have n1 : (k : Int) < (f.l.length : Int) := by have := HN.out.2.1; omega
    have n2 : (f.l.length : Int) ≤ 100000000000 := by have := HN.out.2.2.1; omega
    have n3 : (f.l.length : Int) ≤ (kc2 : Int) := by have := HN.out.2.2.2.1; omega
    have n4 : (k : Int) ≤ (kc2 : Int) := by omega
    have n7 : (kc2 : Int) ≤ 9223372036854775807 := by have := HN.out.2.2.2.2; simp only [maxLen] at this; omega
    have n5 : (k : Int) + 1 ≤ (f.l.length : Int) := by omega
    have n6 : (0 : Int) ≤ (k : Int) + 1 := by omega
    have n8 : IntKind.i64.wrap ((k : Int) + 1) = (k : Int) + 1 := by rw [IntKind.wrap_i64]; omega
    have n9 : (k : Int) + 1 ≤ (kc2 : Int) := by omega
    go_upto_region 17 with (go_at_call 80; (with_reducible refine HI.out.mono ?_); rintro e1 w1 ⟨rfl, hb1⟩; obtain ⟨x0, x1, x2, x3, x4, x5⟩ := cells6 ((hb1.block _ (lt_of_heap HQ.out.2.1)).trans HQ.out.2.1); rw [HN.out.1] at x1; have HB1 := Lib.hid (below_then HBQ.out hb1); have HB0 := Lib.hid (below_then HBW.out hb1); have HS1 := Lib.hid (fun (V : World) (hb' : Below w1.heap.size w1 V) => (show V.cell? ⟨w.heap.size, 0, none⟩ = some (.pointer (some ⟨mb, 0, none⟩)) ∧ V.cell? ⟨b1, 4, none⟩ = some (.slice (some a) f.l.length kc2) from ⟨cell_below hb' (by rw [Lib.cell_of_heap ((hb1.block _ (lt_of_heap HQ.out.2.2)).trans HQ.out.2.2)]; rfl), cell_below hb' (by rw [Lib.cell_of_heap ((hb1.block _ (lt_of_heap HQ.out.1)).trans HQ.out.1)]; rfl)⟩)); clear hb1)
    clear x0 x1 x2 x3 x4 x5
    have HB1G := Lib.hid hb1g
    clear hb1g hb2g hb12
    go_region_held3 (fun V => V.cell? ⟨w.heap.size, 0, none⟩ = some (.pointer (some ⟨mb, 0, none⟩)) ∧ V.cell? ⟨b1, 4, none⟩ = some (.slice (some a) f.l.length kc2))
      (first | with_reducible exact HS2.out | with_reducible exact HS3.out | with_reducible exact HS4.out | with_reducible exact HS1.out _ (by go_grown) | fail)
      (first
      | (go_at_call 81; have hbw := (show Below w1.heap.size w1 ((w1.alloc (.cells #[.slice (some a) k kc2, .slice (some ⟨ab, ao, none⟩) 1 c, .slice A3 (f.l.length - (k + 1)) (kc2 - (k + 1))] 57)).drew) from ((Below.refl _ _).alloc (Nat.le_refl _) _).drew); (with_reducible refine (HCC.out _ w1.heap.size (below_then HB1.out hbw) (Rd.drew (Rd.lit w1 #[.slice (some a) k kc2, .slice (some ⟨ab, ao, none⟩) 1 c, .slice A3 (f.l.length - (k + 1)) (kc2 - (k + 1))] _ (size := 1) (n := 3) rfl))).mono ?_); rintro e1 w2 ⟨A', c', css', rfl, hv2, hb2⟩; have hb3 := below_then hbw hb2; have HS2 := Lib.hid (HS1.out _ hb3); have HV2 := Lib.hid hv2; have HB2 := Lib.hid hb3; clear hbw hb2 hb3 hv2)
      | (go_at_call 59; (with_reducible refine (HTU.out _ _ _ _ (below_then HB0.out HB2.out) HV2.out).mono ?_); rintro e1 w3 ⟨A9, c9, rfl, hv3, hb3⟩; have hb4 := below_then HB2.out hb3; have HS3 := Lib.hid (HS1.out _ hb4); have HV3 := Lib.hid hv3; have HB3 := Lib.hid (below_then HB0.out hb4); clear hb3 hb4 hv3)
      | (go_at_call 41; (with_reducible refine (HTL.out _ _ _ HB3.out HV3.out).mono ?_); rintro e1 w4 ⟨rfl, hp⟩; have HP := Lib.hid hp; have HS4 := Lib.hid (HKP.out _ _ _ _ _ _ HB3.out (Nat.le_of_lt HB1G.out) HS3.out hp); clear hp)
      | fail)
    all_goals
      go_wp2_with fail
      go_returns
      with_reducible exact ⟨rfl, HP.out.mono (HBM.out _ HB3.out).1 (HBM.out _ HB3.out).2⟩
theorem inThree_any (h : Rep w0 B mb s w t i r v f0 nx nm rcs vcs fcs) (hv : s.vals.length ≤ 100000000000) (kind : Int) (hk : kind = 10 ∨ kind = 12) (x y f : Val) (css : List (List Value)) (ab ao c : Nat) (hl : Vs w0 w (Mv mb t r v f0) [x, y, f] (some ⟨ab, ao, none⟩) css) (hx : f.l.length ≤ 90000000000) (hc : 3 ≤ c ∧ c ≤ maxLen) :
    Calls Tryz.prog 61 #[.agg #[.pointer (some ⟨mb, 0, none⟩)], .int .i64 kind, .slice (some ⟨ab, ao, none⟩) 3 c] w fun e1 w' => e1 = .returned (.tuple #[]) ∧ Post w0 B mb (Mv mb t r v f0) w (s.inTup kind x y f) w' := by
  rcases hk with rfl | rfl
  · cases hT : isTup f y 1 with
    | false => exact inInsF h hv x y f css ab ao c hl hx hc hT
    | true =>
      rcases Nat.eq_zero_or_pos f.l.length with h0 | h0
      · exact inInsN h hv x y f css ab ao c hl hx hc hT h0
      · exact inInsT h hv x y f css ab ao c hl hx hc hT h0
  · cases hT : isTup f y 0 with
    | false => exact inPutF h hv x y f css ab ao c hl hx hc hT
    | true => exact inPutT h hv x y f css ab ao c hl hx hc hT
end
end Go.Proofs.YtpdfjdomjklkbaaGreatDoor
