/-
  core's machine chooses: the next tag, the part of the tag that is met. (Made by gen_mbh.py.)
-/
import Derived.Test.YtpdfjdomjklkbaaGreatDoorK11
namespace Go.Proofs.YtpdfjdomjklkbaaGreatDoor
open Go.ChangeShapes Go.WideShapes Go.ChangeAt Go.RowKit Go.Sort
set_option linter.unusedVariables false
set_option linter.unusedSimpArgs false

section
variable {w0 w : World} {B mb : Nat} {s : St} {t i r v f nx nm : Value} {rcs vcs fcs : List (List Value)}
set_option maxRecDepth 100000 in
set_option maxHeartbeats 16000000 in
theorem chooseN0 (h : Rep w0 B mb s w t i r v f nx nm rcs vcs fcs) (hW : Below w0.heap.size w0 w) (x : Frm) (eb eo : Nat) (u : Option Addr) (he : EN w0 w (Mv mb t r v f) x.e x.env eb eo (.pointer u)) (z : Val) (css : List (List Value)) (ab ao c : Nat) (hl : Vs w0 w (Mv mb t r v f) [z] (some ⟨ab, ao, none⟩) css) (hA : ab ≠ mb) (hs : z.sort = 5) (yx : Ex) (hyx : x.e.l[2 * 0 + 1]? = some yx) (hnn : 0 < x.e.d.nn) :
    Calls Tryz.prog 48 #[.agg #[.pointer (some ⟨mb, 0, none⟩)], .agg #[.pointer (some ⟨eb, eo, none⟩), .pointer u, .int .i64 x.base], .slice (some ⟨ab, ao, none⟩) 1 c] w fun e1 w' => e1 = .returned (.tuple #[]) ∧ Post w0 B mb (Mv mb t r v f) w ({ s with next := some (yx, x.env) }) w' := by
  obtain ⟨hq1, hq2, hb⟩ := two_boxes w (boxM mb) (boxF eb eo u x.base)
  obtain ⟨f0, f1, f2⟩ := cells3 hq2
  have hdd := (he.1.2.lower hW).lower hb
  obtain ⟨Az, kz, pz, hz, g0, g1, g2, g3, g4, g5⟩ := (hl.below hb).six 0 (z := z) rfl ao (ao + 1) (ao + 2) (ao + 3) (ao + 4) (ao + 5) ⟨by omega, by omega, by omega, by omega, by omega, by omega⟩
  have HSK := Lib.hid (fun (V : World) (hb' : Below ((w.alloc (boxM mb)).alloc (boxF eb eo u x.base)).heap.size ((w.alloc (boxM mb)).alloc (boxF eb eo u x.base)) V) => (show V.cell? ⟨w.heap.size + 1, 0, none⟩ = some (.pointer (some ⟨eb, eo, none⟩)) ∧ V.cell? ⟨ab, ao, none⟩ = some (.int .i64 z.sort) ∧ V.cell? ⟨ab, ao + 1, none⟩ = some (.int .i64 z.n) ∧ V.cell? ⟨ab, ao + 2, none⟩ = some (.string (bstr z.s)) ∧ V.cell? ⟨ab, ao + 3, none⟩ = some (.slice none 0 0) ∧ V.cell? ⟨ab, ao + 4, none⟩ = some (.slice Az z.l.length kz) ∧ V.cell? ⟨ab, ao + 5, none⟩ = some (.pointer pz) from ⟨cell_below hb' f0, cell_below hb' g0, cell_below hb' g1, cell_below hb' g2, cell_below hb' g3, cell_below hb' g4, cell_below hb' g5⟩))
  have HX1 := Lib.hid hq1
  have HX2 := Lib.hid hq2
  have HB := Lib.hid hb
  have HT1 := Lib.hid (two_new ((w.alloc (boxM mb)).alloc (boxF eb eo u x.base)) (w.heap.size + 2) (by rw [World.size_alloc, World.size_alloc]) (boxV z Az kz pz) (boxV z Az kz pz))
  have HT2 := Lib.hid (two_new ((w.alloc (boxM mb)).alloc (boxF eb eo u x.base)) (w.heap.size + 2) (by rw [World.size_alloc, World.size_alloc]) (boxV z Az kz pz) (boxV z Az kz pz))
  have HSO := Lib.hid hs
  have HDC := Lib.hid (fun (wr : World) (hb' : Below ((w.alloc (boxM mb)).alloc (boxF eb eo u x.base)).heap.size ((w.alloc (boxM mb)).alloc (boxF eb eo u x.base)) wr) => hdd.lower hb')
  obtain ⟨pb, po, hpA, hyI⟩ := ex_part he.1 hyx
  have hpn : 2 * 0 + 1 < x.e.d.pn := by have := (List.getElem?_eq_some_iff.1 hyx).1; rw [he.1.1.len] at this; exact this
  have HPN := Lib.hid (And.intro hpn (And.intro he.1.1.cap.2.1.2.2 (And.intro hnn he.1.1.cap.1.2.2)))
  have HPA := Lib.hid hpA
  have HC := Lib.hid (fun (wr : World) (hb' : Below ((w.alloc (boxM mb)).alloc (boxF eb eo u x.base)).heap.size ((w.alloc (boxM mb)).alloc (boxF eb eo u x.base)) wr) => (show Calls Tryz.prog 38 #[.pointer (some ⟨mb, 0, none⟩), .pointer (some ⟨pb, (po + 6), none⟩), .pointer u] wr fun e1 w' => e1 = .returned (.tuple #[]) ∧ Post w0 B mb (Mv mb t r v f) w { s with next := some (yx, x.env) } w' from
    (begin_any ((h.below hb).below hb') yx x.env pb _ u ⟨by simpa using hyI, he.2.keep (Tr.below (below_then hb hb'))⟩).mono fun e1 w' ⟨h1, h2⟩ => ⟨h1, h2.mono (Tr.below (below_then hb hb')) ((below_then hb hb').mono (Nat.le_of_lt (Nat.lt_of_le_of_lt h.base.2 h.lt)))⟩))
  clear h hW he hl hA hq1 hq2 hb f0 f1 f2 hdd hz g0 g1 g2 g3 g4 g5   hs hnn hyx hyI hpn hpA
  have t3 : IntKind.i64.wrap (1 - 1) = 0 := by rfl
  have t5 : IntKind.i64.wrap 0 = 0 := by rfl
  go_enter Tryz.func48, Tryz.ntmps48
  go_upto_region 1 with fail
  go_cut [6, 7, 8, 9] (fun u6 u7 u8 u9 wx => ∃ b7 b8 : Nat, u6 = .pointer (some ⟨eb, eo, none⟩) ∧ u7 = .pointer (some ⟨b7, 0, none⟩) ∧ u8 = .pointer (some ⟨b8, 0, none⟩) ∧ u9 = .int .i64 0 ∧ w.heap.size + 1 < b7 ∧ w.heap.size + 1 < b8 ∧ wx.heap[b7]? = some (boxV z Az kz pz) ∧ wx.heap[b8]? = some (boxV z Az kz pz) ∧ Below ((w.alloc (boxM mb)).alloc (boxF eb eo u x.base)).heap.size ((w.alloc (boxM mb)).alloc (boxF eb eo u x.base)) wx)
  case first =>
    go_region_held3 (fun V => V.cell? ⟨w.heap.size + 1, 0, none⟩ = some (.pointer (some ⟨eb, eo, none⟩)) ∧ V.cell? ⟨ab, ao, none⟩ = some (.int .i64 z.sort) ∧ V.cell? ⟨ab, ao + 1, none⟩ = some (.int .i64 z.n) ∧ V.cell? ⟨ab, ao + 2, none⟩ = some (.string (bstr z.s)) ∧ V.cell? ⟨ab, ao + 3, none⟩ = some (.slice none 0 0) ∧ V.cell? ⟨ab, ao + 4, none⟩ = some (.slice Az z.l.length kz) ∧ V.cell? ⟨ab, ao + 5, none⟩ = some (.pointer pz))
      (with_reducible exact HSK.out _ (by go_grown))
      (first | fail)
    all_goals
      clear HSK
      go_wp2_with fail
      go_meet
      first
        | exact ⟨w.heap.size + 2, w.heap.size + 3, rfl, rfl, rfl, rfl, by omega, by omega, HT1.out⟩
        | exact ⟨w.heap.size + 3, w.heap.size + 2, rfl, rfl, rfl, rfl, by omega, by omega, HT2.out.2.1, HT2.out.1, HT2.out.2.2⟩
  case rest =>
    obtain ⟨b7, b8, rfl, rfl, rfl, rfl, hb7, hb8, hq7, hq8, hbq⟩ := hcut
    clear HT1 HT2 HSK
    obtain ⟨z0, z1, z2, z3, z4, z5⟩ := cells6 hq7
    obtain ⟨y0, y1, y2, y3, y4, y5⟩ := cells6 hq8
    have c0 : wc.cell? ⟨w.heap.size, 0, none⟩ = some (.pointer (some ⟨mb, 0, none⟩)) := (by rw [Lib.cell_of_heap ((hbq.block _ (lt_of_heap HX1.out)).trans HX1.out)]; rfl)
    obtain ⟨f0, f1, f2⟩ := cells3 ((hbq.block _ (lt_of_heap HX2.out)).trans HX2.out)
    rw [HSO.out] at z0
    rw [HSO.out] at y0
    have hdx := HDC.out _ hbq
    have k3 := hdx.c3
    have k4 := hdx.c4
    have k5 := hdx.c5
    clear hdx
    rw [HPA.out] at k5
    have m1 : (0 : Int) < (x.e.d.nn : Int) := by have := HPN.out.2.2.1; omega
    have m2 : (x.e.d.pn : Int) ≤ 4000000 := by have := HPN.out.2.1; omega
    have m4 : (x.e.d.nn : Int) ≤ 4000000 := by have := HPN.out.2.2.2; omega
    have m3 : (1 : Int) < (x.e.d.pn : Int) := by have := HPN.out.1; omega
    have m5 : IntKind.i64.wrap (2 * 0) = 0 := by rfl
    have m6 : IntKind.i64.wrap (0 + 1) = 1 := by rfl
    have m7 : IntKind.i64.wrap 1 = 1 := by rfl
    have HBQ := Lib.hid hbq
    clear hq7 hq8 hbq hb7 hb8
    go_upto_region 18 with fail
    go_still_tail 12, (by kernel_rfl)
    change wpList _ _ _ _ _ _
    go_wp2_with (go_at_call 38; (with_reducible refine (HC.out _ (below_then HBQ.out (below_drew1 _))).mono ?_); rintro e1 w2 ⟨rfl, hp⟩; have HP := Lib.hid hp; clear hp)
    all_goals
      go_returns
      with_reducible exact ⟨rfl, HP.out⟩
set_option maxRecDepth 100000 in
set_option maxHeartbeats 16000000 in
theorem chooseNT (h : Rep w0 B mb s w t i r v f nx nm rcs vcs fcs) (hW : Below w0.heap.size w0 w) (x : Frm) (eb eo : Nat) (u : Option Addr) (he : EN w0 w (Mv mb t r v f) x.e x.env eb eo (.pointer u)) (z : Val) (y : Val) (l : List Val) (T : Nat) (hT : 1 ≤ T) (hz0 : l[0]? = some z) (hy0 : l[T]? = some y) (hln : l.length = T + 1) (hTm : T ≤ 90000000000) (css : List (List Value)) (ab ao c : Nat) (hl : Vs w0 w (Mv mb t r v f) l (some ⟨ab, ao, none⟩) css) (hA : ab ≠ mb) (hs : z.sort = 5) (hy1 : y.sort = 1) (hne : ¬ y.n = z.n) (yx : Ex) (hyx : x.e.l[2 * T + 1]? = some yx) (hnn : T < x.e.d.nn) :
    Calls Tryz.prog 48 #[.agg #[.pointer (some ⟨mb, 0, none⟩)], .agg #[.pointer (some ⟨eb, eo, none⟩), .pointer u, .int .i64 x.base], .slice (some ⟨ab, ao, none⟩) (T + 1) c] w fun e1 w' => e1 = .returned (.tuple #[]) ∧ Post w0 B mb (Mv mb t r v f) w ({ s with next := some (yx, x.env) }) w' := by
  obtain ⟨hq1, hq2, hb⟩ := two_boxes w (boxM mb) (boxF eb eo u x.base)
  obtain ⟨f0, f1, f2⟩ := cells3 hq2
  have hdd := (he.1.2.lower hW).lower hb
  obtain ⟨Az, kz, pz, hz, g0, g1, g2, g3, g4, g5⟩ := (hl.below hb).six 0 (z := z) hz0 ao (ao + 1) (ao + 2) (ao + 3) (ao + 4) (ao + 5) ⟨by omega, by omega, by omega, by omega, by omega, by omega⟩
  obtain ⟨Ay, ky, py, hy, d0, d1, d2, d3, d4, d5⟩ := (hl.below hb).six T (z := y) hy0 (ao + T * 6) (ao + T * 6 + 1) (ao + T * 6 + 2) (ao + T * 6 + 3) (ao + T * 6 + 4) (ao + T * 6 + 5) ⟨rfl, rfl, rfl, rfl, rfl, rfl⟩
  have HSK := Lib.hid (fun (V : World) (hb' : Below ((w.alloc (boxM mb)).alloc (boxF eb eo u x.base)).heap.size ((w.alloc (boxM mb)).alloc (boxF eb eo u x.base)) V) => (show V.cell? ⟨w.heap.size + 1, 0, none⟩ = some (.pointer (some ⟨eb, eo, none⟩)) ∧ V.cell? ⟨ab, ao, none⟩ = some (.int .i64 z.sort) ∧ V.cell? ⟨ab, ao + 1, none⟩ = some (.int .i64 z.n) ∧ V.cell? ⟨ab, ao + 2, none⟩ = some (.string (bstr z.s)) ∧ V.cell? ⟨ab, ao + 3, none⟩ = some (.slice none 0 0) ∧ V.cell? ⟨ab, ao + 4, none⟩ = some (.slice Az z.l.length kz) ∧ V.cell? ⟨ab, ao + 5, none⟩ = some (.pointer pz) ∧ V.cell? ⟨ab, ao + T * 6, none⟩ = some (.int .i64 y.sort) ∧ V.cell? ⟨ab, ao + T * 6 + 1, none⟩ = some (.int .i64 y.n) ∧ V.cell? ⟨ab, ao + T * 6 + 2, none⟩ = some (.string (bstr y.s)) ∧ V.cell? ⟨ab, ao + T * 6 + 3, none⟩ = some (.slice none 0 0) ∧ V.cell? ⟨ab, ao + T * 6 + 4, none⟩ = some (.slice Ay y.l.length ky) ∧ V.cell? ⟨ab, ao + T * 6 + 5, none⟩ = some (.pointer py) from ⟨cell_below hb' f0, cell_below hb' g0, cell_below hb' g1, cell_below hb' g2, cell_below hb' g3, cell_below hb' g4, cell_below hb' g5, cell_below hb' d0, cell_below hb' d1, cell_below hb' d2, cell_below hb' d3, cell_below hb' d4, cell_below hb' d5⟩))
  have HX1 := Lib.hid hq1
  have HX2 := Lib.hid hq2
  have HB := Lib.hid hb
  have HT1 := Lib.hid (two_new ((w.alloc (boxM mb)).alloc (boxF eb eo u x.base)) (w.heap.size + 2) (by rw [World.size_alloc, World.size_alloc]) (boxV z Az kz pz) (boxV y Ay ky py))
  have HT2 := Lib.hid (two_new ((w.alloc (boxM mb)).alloc (boxF eb eo u x.base)) (w.heap.size + 2) (by rw [World.size_alloc, World.size_alloc]) (boxV y Ay ky py) (boxV z Az kz pz))
  have HSO := Lib.hid hs
  have HY1 := Lib.hid hy1
  have HNE := Lib.hid hne
  have HDC := Lib.hid (fun (wr : World) (hb' : Below ((w.alloc (boxM mb)).alloc (boxF eb eo u x.base)).heap.size ((w.alloc (boxM mb)).alloc (boxF eb eo u x.base)) wr) => hdd.lower hb')
  obtain ⟨pb, po, hpA, hyI⟩ := ex_part he.1 hyx
  have hpn : 2 * T + 1 < x.e.d.pn := by have := (List.getElem?_eq_some_iff.1 hyx).1; rw [he.1.1.len] at this; exact this
  have HPN := Lib.hid (And.intro hpn (And.intro he.1.1.cap.2.1.2.2 (And.intro hnn he.1.1.cap.1.2.2)))
  have HPA := Lib.hid hpA
  have HC := Lib.hid (fun (wr : World) (hb' : Below ((w.alloc (boxM mb)).alloc (boxF eb eo u x.base)).heap.size ((w.alloc (boxM mb)).alloc (boxF eb eo u x.base)) wr) => (show Calls Tryz.prog 38 #[.pointer (some ⟨mb, 0, none⟩), .pointer (some ⟨pb, (po + (2 * T + 1) * 6), none⟩), .pointer u] wr fun e1 w' => e1 = .returned (.tuple #[]) ∧ Post w0 B mb (Mv mb t r v f) w { s with next := some (yx, x.env) } w' from
    (begin_any ((h.below hb).below hb') yx x.env pb _ u ⟨by simpa using hyI, he.2.keep (Tr.below (below_then hb hb'))⟩).mono fun e1 w' ⟨h1, h2⟩ => ⟨h1, h2.mono (Tr.below (below_then hb hb')) ((below_then hb hb').mono (Nat.le_of_lt (Nat.lt_of_le_of_lt h.base.2 h.lt)))⟩))
  clear h hW he hl hA hq1 hq2 hb f0 f1 f2 hdd hz g0 g1 g2 g3 g4 g5 hy d0 d1 d2 d3 d4 d5 hz0 hy0 hln  hs hnn hyx hyI hpn hpA hy1 hne
  have t0 : (0 : Int) < (T : Int) := by omega
  have t1 : (T : Int) ≤ 90000000000 := by omega
  have t2 : (0 : Int) ≤ (T : Int) := by omega
  have t3 : IntKind.i64.wrap ((T : Int) + 1 - 1) = (T : Int) := by rw [IntKind.wrap_i64]; omega
  have t4 : (T : Int) < (T : Int) + 1 := by omega
  have t5 : IntKind.i64.wrap (T : Int) = (T : Int) := by rw [IntKind.wrap_i64]; omega
  clear hT hTm
  go_enter Tryz.func48, Tryz.ntmps48
  go_upto_region 1 with fail
  go_cut [6, 7, 8, 9] (fun u6 u7 u8 u9 wx => ∃ b7 b8 : Nat, u6 = .pointer (some ⟨eb, eo, none⟩) ∧ u7 = .pointer (some ⟨b7, 0, none⟩) ∧ u8 = .pointer (some ⟨b8, 0, none⟩) ∧ u9 = .int .i64 T ∧ w.heap.size + 1 < b7 ∧ w.heap.size + 1 < b8 ∧ wx.heap[b7]? = some (boxV z Az kz pz) ∧ wx.heap[b8]? = some (boxV y Ay ky py) ∧ Below ((w.alloc (boxM mb)).alloc (boxF eb eo u x.base)).heap.size ((w.alloc (boxM mb)).alloc (boxF eb eo u x.base)) wx)
  case first =>
    go_region_held3 (fun V => V.cell? ⟨w.heap.size + 1, 0, none⟩ = some (.pointer (some ⟨eb, eo, none⟩)) ∧ V.cell? ⟨ab, ao, none⟩ = some (.int .i64 z.sort) ∧ V.cell? ⟨ab, ao + 1, none⟩ = some (.int .i64 z.n) ∧ V.cell? ⟨ab, ao + 2, none⟩ = some (.string (bstr z.s)) ∧ V.cell? ⟨ab, ao + 3, none⟩ = some (.slice none 0 0) ∧ V.cell? ⟨ab, ao + 4, none⟩ = some (.slice Az z.l.length kz) ∧ V.cell? ⟨ab, ao + 5, none⟩ = some (.pointer pz) ∧ V.cell? ⟨ab, ao + T * 6, none⟩ = some (.int .i64 y.sort) ∧ V.cell? ⟨ab, ao + T * 6 + 1, none⟩ = some (.int .i64 y.n) ∧ V.cell? ⟨ab, ao + T * 6 + 2, none⟩ = some (.string (bstr y.s)) ∧ V.cell? ⟨ab, ao + T * 6 + 3, none⟩ = some (.slice none 0 0) ∧ V.cell? ⟨ab, ao + T * 6 + 4, none⟩ = some (.slice Ay y.l.length ky) ∧ V.cell? ⟨ab, ao + T * 6 + 5, none⟩ = some (.pointer py))
      (with_reducible exact HSK.out _ (by go_grown))
      (first | fail)
    all_goals
      clear HSK
      go_wp2_with fail
      go_meet
      first
        | exact ⟨w.heap.size + 2, w.heap.size + 3, rfl, rfl, rfl, rfl, by omega, by omega, HT1.out⟩
        | exact ⟨w.heap.size + 3, w.heap.size + 2, rfl, rfl, rfl, rfl, by omega, by omega, HT2.out.2.1, HT2.out.1, HT2.out.2.2⟩
  case rest =>
    obtain ⟨b7, b8, rfl, rfl, rfl, rfl, hb7, hb8, hq7, hq8, hbq⟩ := hcut
    clear HT1 HT2 HSK
    obtain ⟨z0, z1, z2, z3, z4, z5⟩ := cells6 hq7
    obtain ⟨y0, y1, y2, y3, y4, y5⟩ := cells6 hq8
    have c0 : wc.cell? ⟨w.heap.size, 0, none⟩ = some (.pointer (some ⟨mb, 0, none⟩)) := (by rw [Lib.cell_of_heap ((hbq.block _ (lt_of_heap HX1.out)).trans HX1.out)]; rfl)
    obtain ⟨f0, f1, f2⟩ := cells3 ((hbq.block _ (lt_of_heap HX2.out)).trans HX2.out)
    rw [HSO.out] at z0
    rw [HY1.out] at y0
    have yn : (y.n == z.n) = false := by simpa using HNE.out
    have hdx := HDC.out _ hbq
    have k3 := hdx.c3
    have k4 := hdx.c4
    have k5 := hdx.c5
    clear hdx
    rw [HPA.out] at k5
    have m1 : (T : Int) < (x.e.d.nn : Int) := by have := HPN.out.2.2.1; omega
    have m2 : (x.e.d.pn : Int) ≤ 4000000 := by have := HPN.out.2.1; omega
    have m4 : (x.e.d.nn : Int) ≤ 4000000 := by have := HPN.out.2.2.2; omega
    have m3 : 2 * (T : Int) + 1 < (x.e.d.pn : Int) := by have := HPN.out.1; omega
    have m0 : (0 : Int) ≤ 2 * (T : Int) + 1 := by omega
    have m5 : IntKind.i64.wrap (2 * (T : Int)) = 2 * (T : Int) := by rw [IntKind.wrap_i64]; omega
    have m6 : IntKind.i64.wrap (2 * (T : Int) + 1) = 2 * (T : Int) + 1 := by rw [IntKind.wrap_i64]; omega
    have HBQ := Lib.hid hbq
    clear hq7 hq8 hbq hb7 hb8
    go_upto_region 18 with fail
    go_still_tail 12, (by kernel_rfl)
    change wpList _ _ _ _ _ _
    go_wp2_with (go_at_call 38; (with_reducible refine (HC.out _ (below_then HBQ.out (below_drew1 _))).mono ?_); rintro e1 w2 ⟨rfl, hp⟩; have HP := Lib.hid hp; clear hp)
    all_goals
      go_returns
      with_reducible exact ⟨rfl, HP.out⟩
set_option maxRecDepth 100000 in
set_option maxHeartbeats 16000000 in
theorem chooseH (h : Rep w0 B mb s w t i r v f nx nm rcs vcs fcs) (hW : Below w0.heap.size w0 w) (x : Frm) (hv : s.vals.length ≤ 100000000000) (hf : s.frames.length ≤ 100000000000) (fs : List Frm) (hx : s.frames = fs ++ [x]) (hbs : x.base ≤ s.vals.length) (eb eo : Nat) (u : Option Addr) (he : EN w0 w (Mv mb t r v f) x.e x.env eb eo (.pointer u)) (z : Val) (y : Val) (l : List Val) (T : Nat) (hT : 1 ≤ T) (hz0 : l[0]? = some z) (hy0 : l[T]? = some y) (hln : l.length = T + 1) (hTm : T ≤ 90000000000) (css : List (List Value)) (ab ao c : Nat) (hl : Vs w0 w (Mv mb t r v f) l (some ⟨ab, ao, none⟩) css) (hA : ab ≠ mb) (hs : z.sort = 5) (hy1 : y.sort = 1) (heq : y.n = z.n) (p : Val) (hp : z.l = [p]) (yx : Ex) (hyx : x.e.l[2 * T]? = some yx) (nme : Str) (hnm : x.e.d.names[T - 1]? = some nme) :
    Calls Tryz.prog 48 #[.agg #[.pointer (some ⟨mb, 0, none⟩)], .agg #[.pointer (some ⟨eb, eo, none⟩), .pointer u, .int .i64 x.base], .slice (some ⟨ab, ao, none⟩) (T + 1) c] w fun e1 w' => e1 = .returned (.tuple #[]) ∧ Post w0 B mb (Mv mb t r v f) w ({ s.ended fs x with next := some (yx, (nme, p) :: x.env) }) w' := by
  obtain ⟨A0, k0, rfl, _⟩ := own_cap h.vr
  obtain ⟨hq1, hq2, hb⟩ := two_boxes w (boxM mb) (boxF eb eo u x.base)
  obtain ⟨f0, f1, f2⟩ := cells3 hq2
  have hdd := (he.1.2.lower hW).lower hb
  obtain ⟨Az, kz, pz, hz, g0, g1, g2, g3, g4, g5⟩ := (hl.below hb).six 0 (z := z) hz0 ao (ao + 1) (ao + 2) (ao + 3) (ao + 4) (ao + 5) ⟨by omega, by omega, by omega, by omega, by omega, by omega⟩
  obtain ⟨Ay, ky, py, hy, d0, d1, d2, d3, d4, d5⟩ := (hl.below hb).six T (z := y) hy0 (ao + T * 6) (ao + T * 6 + 1) (ao + T * 6 + 2) (ao + T * 6 + 3) (ao + T * 6 + 4) (ao + T * 6 + 5) ⟨rfl, rfl, rfl, rfl, rfl, rfl⟩
  obtain ⟨csz, hvz, hcz, hpz⟩ := hz.vs
  obtain ⟨zb, zo, hAz⟩ := hvz.addr (by rw [hp]; exact Nat.one_pos)
  subst hAz
  have HSK := Lib.hid (fun (V : World) (hb' : Below ((w.alloc (boxM mb)).alloc (boxF eb eo u x.base)).heap.size ((w.alloc (boxM mb)).alloc (boxF eb eo u x.base)) V) => (show V.cell? ⟨w.heap.size + 1, 0, none⟩ = some (.pointer (some ⟨eb, eo, none⟩)) ∧ V.cell? ⟨ab, ao, none⟩ = some (.int .i64 z.sort) ∧ V.cell? ⟨ab, ao + 1, none⟩ = some (.int .i64 z.n) ∧ V.cell? ⟨ab, ao + 2, none⟩ = some (.string (bstr z.s)) ∧ V.cell? ⟨ab, ao + 3, none⟩ = some (.slice none 0 0) ∧ V.cell? ⟨ab, ao + 4, none⟩ = some (.slice (some ⟨zb, zo, none⟩) z.l.length kz) ∧ V.cell? ⟨ab, ao + 5, none⟩ = some (.pointer pz) ∧ V.cell? ⟨ab, ao + T * 6, none⟩ = some (.int .i64 y.sort) ∧ V.cell? ⟨ab, ao + T * 6 + 1, none⟩ = some (.int .i64 y.n) ∧ V.cell? ⟨ab, ao + T * 6 + 2, none⟩ = some (.string (bstr y.s)) ∧ V.cell? ⟨ab, ao + T * 6 + 3, none⟩ = some (.slice none 0 0) ∧ V.cell? ⟨ab, ao + T * 6 + 4, none⟩ = some (.slice Ay y.l.length ky) ∧ V.cell? ⟨ab, ao + T * 6 + 5, none⟩ = some (.pointer py) from ⟨cell_below hb' f0, cell_below hb' g0, cell_below hb' g1, cell_below hb' g2, cell_below hb' g3, cell_below hb' g4, cell_below hb' g5, cell_below hb' d0, cell_below hb' d1, cell_below hb' d2, cell_below hb' d3, cell_below hb' d4, cell_below hb' d5⟩))
  have HX1 := Lib.hid hq1
  have HX2 := Lib.hid hq2
  have HB := Lib.hid hb
  have HT1 := Lib.hid (two_new ((w.alloc (boxM mb)).alloc (boxF eb eo u x.base)) (w.heap.size + 2) (by rw [World.size_alloc, World.size_alloc]) (boxV z (some ⟨zb, zo, none⟩) kz pz) (boxV y Ay ky py))
  have HT2 := Lib.hid (two_new ((w.alloc (boxM mb)).alloc (boxF eb eo u x.base)) (w.heap.size + 2) (by rw [World.size_alloc, World.size_alloc]) (boxV y Ay ky py) (boxV z (some ⟨zb, zo, none⟩) kz pz))
  have HSO := Lib.hid hs
  have HY1 := Lib.hid hy1
  have HEQ := Lib.hid heq
  have HDC := Lib.hid (fun (wr : World) (hb' : Below ((w.alloc (boxM mb)).alloc (boxF eb eo u x.base)).heap.size ((w.alloc (boxM mb)).alloc (boxF eb eo u x.base)) wr) => hdd.lower hb')
  obtain ⟨pb, po, hpA, hyI⟩ := ex_part he.1 hyx
  have hpn : 2 * T < x.e.d.pn := by have := (List.getElem?_eq_some_iff.1 hyx).1; rw [he.1.1.len] at this; exact this
  have hnl : T - 1 < x.e.d.names.length := (List.getElem?_eq_some_iff.1 hnm).1
  have hnn : T - 1 < x.e.d.nn := by rw [he.1.1.namLen] at hnl; exact hnl
  obtain ⟨nb, no, hnA, hnC⟩ := he.1.1.nam.str hnl
  have hnC' := hnC (T - 1) hnl
  rw [(List.getElem?_eq_some_iff.1 hnm).2] at hnC'
  have hnb : nb ≠ mb := by have hq : nb < w0.heap.size := block_lt_of_cell hnC'; have := h.base; omega
  have heb : eb ≠ mb := by have := he.1.2.blt; have := h.base; omega
  have hzb : zb ≠ mb := (hpz (by rw [hp]; exact Nat.one_pos) _ rfl).1
  obtain ⟨Ap, kp, pp, hvp, e0, e1, e2, e3, e4, e5⟩ := hvz.six 0 (z := p) (by rw [hp]; rfl) zo (zo + 1) (zo + 2) (zo + 3) (zo + 4) (zo + 5) ⟨by omega, by omega, by omega, by omega, by omega, by omega⟩
  have HPN := Lib.hid (And.intro hpn (And.intro he.1.1.cap.2.1.2.2 (And.intro hnn he.1.1.cap.1.2.2)))
  have HPA := Lib.hid hpA
  have HNA := Lib.hid hnA
  have HZL := Lib.hid (show z.l.length = 1 by rw [hp]; rfl)
  have HCE := Lib.hid (fun (wr : World) (hb' : Below ((w.alloc (boxM mb)).alloc (boxF eb eo u x.base)).heap.size ((w.alloc (boxM mb)).alloc (boxF eb eo u x.base)) wr) (q1' k1' : Nat) (wr1 : World) (hE : Ended w0 wr B mb s t i r A0 k0 q1' k1' nx nm rcs vcs fcs fs x wr1) => And.intro (hE.cell heb (hdd.lower hb').c4) (And.intro (hE.cell heb (hdd.lower hb').c5) (And.intro (hE.cell hnb (cell_below hb' (cell_below hb (cell_below hW hnC')))) (And.intro (hE.cell hzb (cell_below hb' e0)) (And.intro (hE.cell hzb (cell_below hb' e1)) (And.intro (hE.cell hzb (cell_below hb' e2)) (And.intro (hE.cell hzb (cell_below hb' e3)) (And.intro (hE.cell hzb (cell_below hb' e4)) (hE.cell hzb (cell_below hb' e5))))))))))
  have HMB := Lib.hid h.lt
  have HE := Lib.hid (fun (wr : World) (hb' : Below w.heap.size w wr) => end_any (h.below hb') fs x hx hf hbs hv)
  have HAP := Lib.hid (fun (wr : World) (hb' : Below ((w.alloc (boxM mb)).alloc (boxF eb eo u x.base)).heap.size ((w.alloc (boxM mb)).alloc (boxF eb eo u x.base)) wr) (q1' k1' : Nat) (hff : f = .slice (some ⟨q1', 0, none⟩) (fs.length + 1) k1') (wr1 : World) (hE : Ended w0 wr B mb s t i r A0 k0 q1' k1' nx nm rcs vcs fcs fs x wr1) => (show Calls Tryz.prog 44 #[.pointer (some ⟨mb, 0, none⟩), .pointer (some ⟨pb, po + 2 * T * 6, none⟩), .pointer u, .string (bstr nme), .agg #[.int .i64 p.sort, .int .i64 p.n, .string (bstr p.s), .slice none 0 0, .slice Ap p.l.length kp, .pointer pp]] wr1.drew fun e1 w' => e1 = .returned (.tuple #[]) ∧ Post w0 B mb (Mv mb t r (.slice A0 s.vals.length k0) f) w ({ s.ended fs x with next := some (yx, (nme, p) :: x.env) }) w' from by
    subst hff
    have hbb := below_then hb hb'
    have hT1 : Tr w (Mv mb t r (.slice A0 s.vals.length k0) (.slice (some ⟨q1', 0, none⟩) (fs.length + 1) k1')) wr1 (Mv mb t r (.slice A0 x.base k0) (.slice (some ⟨q1', 0, none⟩) fs.length k1')) := (Tr.below (P := (Mv mb t r (.slice A0 s.vals.length k0) (.slice (some ⟨q1', 0, none⟩) (fs.length + 1) k1'))) hbb).trans hbb.size hE.tr
    have hB1 : Below B w wr1 := (hbb.mono (Nat.le_of_lt (Nat.lt_of_le_of_lt h.base.2 h.lt))).trans hE.below
    have hdw := below_drew1 wr1
    have heE : ER w0 wr1.drew (Mv mb t r (.slice A0 x.base k0) (.slice (some ⟨q1', 0, none⟩) fs.length k1')) x.env (.pointer u) := (he.2.keep hT1).keep (Tr.below hdw)
    have hzE := ((hvp.keep (Tr.below (P := (Mv mb t r (.slice A0 s.vals.length k0) (.slice (some ⟨q1', 0, none⟩) (fs.length + 1) k1'))) hb')).keep hE.tr).keep (Tr.below (P := (Mv mb t r (.slice A0 x.base k0) (.slice (some ⟨q1', 0, none⟩) fs.length k1'))) hdw)
    refine (bind_any (s := s.ended fs x) (hE.rep.below hdw) yx x.env pb (po + 2 * T * 6) u ⟨hyI, heE⟩ nme p _ _ _ _ _ _ hzE).mono ?_
    rintro e1 w' ⟨rfl, hp⟩
    exact ⟨rfl, Post.mono hT1 hB1 (hp.mono (Tr.below hdw) (hdw.mono (by have := hE.rep.lt; have := hE.rep.base.2; omega)))⟩))
  clear h hW he hl hA hq1 hq2 hb f0 f1 f2 hdd hz g0 g1 g2 g3 g4 g5 hy d0 d1 d2 d3 d4 d5 hz0 hy0 hln hv hf hx hbs hs hy1 heq hp hyx hnm hyI hpn hpA hnl hnn hnA hnC hnC' hnb heb hvz hcz hpz hzb hvp e0 e1 e2 e3 e4 e5
  have t0 : (0 : Int) < (T : Int) := by omega
  have t1 : (T : Int) ≤ 90000000000 := by omega
  have t2 : (0 : Int) ≤ (T : Int) := by omega
  have t3 : IntKind.i64.wrap ((T : Int) + 1 - 1) = (T : Int) := by rw [IntKind.wrap_i64]; omega
  have t4 : (T : Int) < (T : Int) + 1 := by omega
  have t5 : IntKind.i64.wrap (T : Int) = (T : Int) := by rw [IntKind.wrap_i64]; omega
  clear hT hTm
  go_enter Tryz.func48, Tryz.ntmps48
  go_upto_region 1 with fail
  go_cut [6, 7, 8, 9] (fun u6 u7 u8 u9 wx => ∃ b7 b8 : Nat, u6 = .pointer (some ⟨eb, eo, none⟩) ∧ u7 = .pointer (some ⟨b7, 0, none⟩) ∧ u8 = .pointer (some ⟨b8, 0, none⟩) ∧ u9 = .int .i64 T ∧ w.heap.size + 1 < b7 ∧ w.heap.size + 1 < b8 ∧ wx.heap[b7]? = some (boxV z (some ⟨zb, zo, none⟩) kz pz) ∧ wx.heap[b8]? = some (boxV y Ay ky py) ∧ Below ((w.alloc (boxM mb)).alloc (boxF eb eo u x.base)).heap.size ((w.alloc (boxM mb)).alloc (boxF eb eo u x.base)) wx)
  case first =>
    go_region_held3 (fun V => V.cell? ⟨w.heap.size + 1, 0, none⟩ = some (.pointer (some ⟨eb, eo, none⟩)) ∧ V.cell? ⟨ab, ao, none⟩ = some (.int .i64 z.sort) ∧ V.cell? ⟨ab, ao + 1, none⟩ = some (.int .i64 z.n) ∧ V.cell? ⟨ab, ao + 2, none⟩ = some (.string (bstr z.s)) ∧ V.cell? ⟨ab, ao + 3, none⟩ = some (.slice none 0 0) ∧ V.cell? ⟨ab, ao + 4, none⟩ = some (.slice (some ⟨zb, zo, none⟩) z.l.length kz) ∧ V.cell? ⟨ab, ao + 5, none⟩ = some (.pointer pz) ∧ V.cell? ⟨ab, ao + T * 6, none⟩ = some (.int .i64 y.sort) ∧ V.cell? ⟨ab, ao + T * 6 + 1, none⟩ = some (.int .i64 y.n) ∧ V.cell? ⟨ab, ao + T * 6 + 2, none⟩ = some (.string (bstr y.s)) ∧ V.cell? ⟨ab, ao + T * 6 + 3, none⟩ = some (.slice none 0 0) ∧ V.cell? ⟨ab, ao + T * 6 + 4, none⟩ = some (.slice Ay y.l.length ky) ∧ V.cell? ⟨ab, ao + T * 6 + 5, none⟩ = some (.pointer py))
      (with_reducible exact HSK.out _ (by go_grown))
      (first | fail)
    all_goals
      clear HSK
      go_wp2_with fail
      go_meet
      first
        | exact ⟨w.heap.size + 2, w.heap.size + 3, rfl, rfl, rfl, rfl, by omega, by omega, HT1.out⟩
        | exact ⟨w.heap.size + 3, w.heap.size + 2, rfl, rfl, rfl, rfl, by omega, by omega, HT2.out.2.1, HT2.out.1, HT2.out.2.2⟩
  case rest =>
    obtain ⟨b7, b8, rfl, rfl, rfl, rfl, hb7, hb8, hq7, hq8, hbq⟩ := hcut
    clear HT1 HT2 HSK
    obtain ⟨z0, z1, z2, z3, z4, z5⟩ := cells6 hq7
    obtain ⟨y0, y1, y2, y3, y4, y5⟩ := cells6 hq8
    have c0 : wc.cell? ⟨w.heap.size, 0, none⟩ = some (.pointer (some ⟨mb, 0, none⟩)) := (by rw [Lib.cell_of_heap ((hbq.block _ (lt_of_heap HX1.out)).trans HX1.out)]; rfl)
    obtain ⟨f0, f1, f2⟩ := cells3 ((hbq.block _ (lt_of_heap HX2.out)).trans HX2.out)
    rw [HSO.out] at z0
    rw [HY1.out] at y0
    rw [HEQ.out] at y1
    rw [HZL.out] at z4
    have hbw := below_then HB.out hbq
    have HBQ := Lib.hid hbq
    have HBW := Lib.hid hbw
    have HC7 := Lib.hid (fun (q1' k1' : Nat) (wr1 : World) (hE : Ended w0 wc B mb s t i r A0 k0 q1' k1' nx nm rcs vcs fcs fs x wr1) => And.intro (hE.cell (Nat.ne_of_gt HMB.out) c0) (And.intro (hE.cell (Nat.ne_of_gt (Nat.lt_succ_of_lt HMB.out)) f1) (hE.cell (show b7 ≠ mb by have := HMB.out; omega) z4)))
    have m2 : (x.e.d.pn : Int) ≤ 4000000 := by have := HPN.out.2.1; omega
    have m4 : (x.e.d.nn : Int) ≤ 4000000 := by have := HPN.out.2.2.2; omega
    have m3 : 2 * (T : Int) < (x.e.d.pn : Int) := by have := HPN.out.1; omega
    have m0 : (0 : Int) ≤ 2 * (T : Int) := by omega
    have m5 : IntKind.i64.wrap (2 * (T : Int)) = 2 * (T : Int) := by rw [IntKind.wrap_i64]; omega
    obtain ⟨N, hN⟩ : ∃ N : Nat, T - 1 = N := ⟨_, rfl⟩
    have m6 : IntKind.i64.wrap ((T : Int) - 1) = (N : Int) := by rw [IntKind.wrap_i64]; omega
    have m7 : (0 : Int) ≤ (N : Int) := by omega
    have m8 : (N : Int) < (x.e.d.nn : Int) := by have := HPN.out.2.2.1; omega
    rw [hN] at HCE
    clear hq7 hq8 hbq hb7 hb8 hbw hN
    go_upto_region 16 with (go_at_call 49; (with_reducible refine (HE.out _ HBW.out).mono ?_); rintro e1 w1 ⟨rfl, q1', k1', hff, hE⟩; obtain ⟨c0', f1', z4'⟩ := HC7.out _ _ _ hE; obtain ⟨k4, k5, nmc, e0, e1, e2, e3, e4, e5⟩ := HCE.out _ HBQ.out _ _ _ hE; rw [HNA.out] at k4; rw [HPA.out] at k5; have HA2 := Lib.hid (HAP.out _ HBQ.out _ _ hff _ hE); clear hE hff)
    clear c0 f0 f1 f2 z0 z1 z2 z3 z4 z5 y0 y1 y2 y3 y4 y5
    go_still_tail 23, (by kernel_rfl)
    change wpList _ _ _ _ _ _
    go_wp2_with (go_at_call 44; (with_reducible refine HA2.out.mono ?_); rintro e1 w2 ⟨rfl, hp⟩; have HP := Lib.hid hp; clear hp)
    all_goals
      go_returns
      with_reducible exact ⟨rfl, HP.out⟩
end
end Go.Proofs.YtpdfjdomjklkbaaGreatDoor
