/-
  core's machine chooses a CCase's part. (Made by gen_mbh.py.)
-/
import Derived.Test.YtpdfjdomjklkbaaGreatDoorK10
namespace Go.Proofs.YtpdfjdomjklkbaaGreatDoor
open Go.ChangeShapes Go.WideShapes Go.ChangeAt Go.RowKit Go.Sort
set_option linter.unusedVariables false
set_option linter.unusedSimpArgs false

/-- What the tags below take off a tag. -/
def restN (m : Int) : List Val → Int → Int
  | [], n => n
  | v :: l, n => restN m l (if v.n < m then wrap64 (n - 1) else n)
theorem restN_snoc (m : Int) (l : List Val) (v : Val) (n : Int) : restN m (l ++ [v]) n = if v.n < m then wrap64 (restN m l n - 1) else restN m l n := by
  induction l generalizing n with
  | nil => rfl
  | cons a l ih => exact ih _
theorem VR.reN {w0 w : World} {P : Nat → Prop} {z : Val} {A : Option Addr} {c : Nat} {p : Option Addr} (n : Int) (h : VR w0 w P z [.int .i64 z.sort, .int .i64 z.n, .string (bstr z.s), .slice none 0 0, .slice A z.l.length c, .pointer p]) : VR w0 w P (.mk z.sort n z.s z.l z.f) [.int .i64 z.sort, .int .i64 n, .string (bstr z.s), .slice none 0 0, .slice A z.l.length c, .pointer p] := by
  cases h with
  | mk sort n0 s l f A c css u len rd bl cap sub fn => exact .mk sort n s l f A c css _ len rd bl cap sub fn
section
variable {w0 w : World} {B mb : Nat} {s : St} {t i r v f nx nm : Value} {rcs vcs fcs : List (List Value)}
set_option maxRecDepth 100000 in
set_option maxHeartbeats 16000000 in
theorem chooseA0 (h : Rep w0 B mb s w t i r v f nx nm rcs vcs fcs) (hW : Below w0.heap.size w0 w) (x : Frm) (eb eo : Nat) (u : Option Addr) (he : EN w0 w (Mv mb t r v f) x.e x.env eb eo (.pointer u)) (z : Val) (css : List (List Value)) (ab ao c : Nat) (hl : Vs w0 w (Mv mb t r v f) [z] (some ⟨ab, ao, none⟩) css) (hA : ab ≠ mb) (hs : ¬ z.sort = 5) :
    Calls Tryz.prog 48 #[.agg #[.pointer (some ⟨mb, 0, none⟩)], .agg #[.pointer (some ⟨eb, eo, none⟩), .pointer u, .int .i64 x.base], .slice (some ⟨ab, ao, none⟩) 1 c] w fun e1 w' => e1 = .returned (.tuple #[]) ∧ Post w0 B mb (Mv mb t r v f) w ({ s with err := 11 }) w' := by
  obtain ⟨hq1, hq2, hb⟩ := two_boxes w (boxM mb) (boxF eb eo u x.base)
  obtain ⟨f0, f1, f2⟩ := cells3 hq2
  have hdd := (he.1.2.lower hW).lower hb
  obtain ⟨Az, kz, pz, hz, g0, g1, g2, g3, g4, g5⟩ := (hl.below hb).six 0 (z := z) rfl ao (ao + 1) (ao + 2) (ao + 3) (ao + 4) (ao + 5) ⟨by omega, by omega, by omega, by omega, by omega, by omega⟩
  have HSK := Lib.hid (fun (V : World) (hb' : Below ((w.alloc (boxM mb)).alloc (boxF eb eo u x.base)).heap.size ((w.alloc (boxM mb)).alloc (boxF eb eo u x.base)) V) => (show V.cell? ⟨w.heap.size + 1, 0, none⟩ = some (.pointer (some ⟨eb, eo, none⟩)) ∧ V.cell? ⟨ab, ao, none⟩ = some (.int .i64 z.sort) ∧ V.cell? ⟨ab, ao + 1, none⟩ = some (.int .i64 z.n) ∧ V.cell? ⟨ab, ao + 2, none⟩ = some (.string (bstr z.s)) ∧ V.cell? ⟨ab, ao + 3, none⟩ = some (.slice none 0 0) ∧ V.cell? ⟨ab, ao + 4, none⟩ = some (.slice Az z.l.length kz) ∧ V.cell? ⟨ab, ao + 5, none⟩ = some (.pointer pz) from ⟨cell_below hb' f0, cell_below hb' g0, cell_below hb' g1, cell_below hb' g2, cell_below hb' g3, cell_below hb' g4, cell_below hb' g5⟩))
  have HX1 := Lib.hid hq1
  have HX2 := Lib.hid hq2
  have HB := Lib.hid hb
  have HT1 := Lib.hid (two_new ((w.alloc (boxM mb)).alloc (boxF eb eo u x.base)) (w.heap.size + 2) (by rw [World.size_alloc, World.size_alloc]) (boxV z Az kz pz) (boxV z Az kz pz))
  have HT2 := Lib.hid (two_new ((w.alloc (boxM mb)).alloc (boxF eb eo u x.base)) (w.heap.size + 2) (by rw [World.size_alloc, World.size_alloc]) (boxV z Az kz pz) (boxV z Az kz pz))
  have HBM := Lib.hid (fun (wr : World) (hb : Below w.heap.size w wr) => And.intro (Tr.below (P := Mv mb t r v f) hb) (hb.mono (Nat.le_of_lt (Nat.lt_of_le_of_lt h.base.2 h.lt))))
  have HS := Lib.hid (fun (wr : World) (hb : Below w.heap.size w wr) => stuck_any (h.below hb))
  have HSO := Lib.hid hs
  clear h hW he hl hA hq1 hq2 hb f0 f1 f2 hdd hz g0 g1 g2 g3 g4 g5   hs
  have t3 : IntKind.i64.wrap (1 - 1) = 0 := by rfl
  have t5 : IntKind.i64.wrap 0 = 0 := by rfl
  go_enter Tryz.func48, Tryz.ntmps48
  go_upto_region 1 with fail
  go_cut [6, 7, 8, 9] (fun u6 u7 u8 u9 wx => ∃ b7 b8 : Nat, u6 = .pointer (some ⟨eb, eo, none⟩) ∧ u7 = .pointer (some ⟨b7, 0, none⟩) ∧ u8 = .pointer (some ⟨b8, 0, none⟩) ∧ u9 = .int .i64 0 ∧ w.heap.size + 1 < b7 ∧ w.heap.size + 1 < b8 ∧ wx.heap[b7]? = some (boxV z Az kz pz) ∧ wx.heap[b8]? = some (boxV z Az kz pz) ∧ Below ((w.alloc (boxM mb)).alloc (boxF eb eo u x.base)).heap.size ((w.alloc (boxM mb)).alloc (boxF eb eo u x.base)) wx)
  case first =>
    go_region_held3 (fun V => V.cell? ⟨w.heap.size + 1, 0, none⟩ = some (.pointer (some ⟨eb, eo, none⟩)) ∧ V.cell? ⟨ab, ao, none⟩ = some (.int .i64 z.sort) ∧ V.cell? ⟨ab, ao + 1, none⟩ = some (.int .i64 z.n) ∧ V.cell? ⟨ab, ao + 2, none⟩ = some (.string (bstr z.s)) ∧ V.cell? ⟨ab, ao + 3, none⟩ = some (.slice none 0 0) ∧ V.cell? ⟨ab, ao + 4, none⟩ = some (.slice Az z.l.length kz) ∧ V.cell? ⟨ab, ao + 5, none⟩ = some (.pointer pz))
      (with_reducible exact HSK.out _ (by go_grown))
      (first | fail)
    all_goals
      clear HSK
      go_wp2_with fail
      go_meet
      first
        | exact ⟨w.heap.size + 2, w.heap.size + 3, rfl, rfl, rfl, rfl, by omega, by omega, HT1.out⟩
        | exact ⟨w.heap.size + 3, w.heap.size + 2, rfl, rfl, rfl, rfl, by omega, by omega, HT2.out.2.1, HT2.out.1, HT2.out.2.2⟩
  case rest =>
    obtain ⟨b7, b8, rfl, rfl, rfl, rfl, hb7, hb8, hq7, hq8, hbq⟩ := hcut
    clear HT1 HT2 HSK
    obtain ⟨z0, z1, z2, z3, z4, z5⟩ := cells6 hq7
    obtain ⟨y0, y1, y2, y3, y4, y5⟩ := cells6 hq8
    have c0 : wc.cell? ⟨w.heap.size, 0, none⟩ = some (.pointer (some ⟨mb, 0, none⟩)) := (by rw [Lib.cell_of_heap ((hbq.block _ (lt_of_heap HX1.out)).trans HX1.out)]; rfl)
    obtain ⟨f0, f1, f2⟩ := cells3 ((hbq.block _ (lt_of_heap HX2.out)).trans HX2.out)
    have e5 : (z.sort == 5) = false := by simpa using HSO.out
    have e5b : (z.sort != 5) = true := by simpa using HSO.out
    have HBW := Lib.hid (below_then HB.out hbq)
    clear hq7 hq8 hbq hb7 hb8
    go_wp2_with (go_at_call 40; (with_reducible refine (HS.out _ HBW.out).mono ?_); rintro e1 w2 ⟨rfl, hp⟩; have HP := Lib.hid hp; clear hp)
    go_returns
    with_reducible exact ⟨rfl, HP.out.mono (HBM.out _ HBW.out).1 (HBM.out _ HBW.out).2⟩
set_option maxRecDepth 100000 in
set_option maxHeartbeats 16000000 in
theorem chooseAT (h : Rep w0 B mb s w t i r v f nx nm rcs vcs fcs) (hW : Below w0.heap.size w0 w) (x : Frm) (eb eo : Nat) (u : Option Addr) (he : EN w0 w (Mv mb t r v f) x.e x.env eb eo (.pointer u)) (z : Val) (y : Val) (l : List Val) (T : Nat) (hT : 1 ≤ T) (hz0 : l[0]? = some z) (hy0 : l[T]? = some y) (hln : l.length = T + 1) (hTm : T ≤ 90000000000) (css : List (List Value)) (ab ao c : Nat) (hl : Vs w0 w (Mv mb t r v f) l (some ⟨ab, ao, none⟩) css) (hA : ab ≠ mb) (hs : ¬ z.sort = 5) :
    Calls Tryz.prog 48 #[.agg #[.pointer (some ⟨mb, 0, none⟩)], .agg #[.pointer (some ⟨eb, eo, none⟩), .pointer u, .int .i64 x.base], .slice (some ⟨ab, ao, none⟩) (T + 1) c] w fun e1 w' => e1 = .returned (.tuple #[]) ∧ Post w0 B mb (Mv mb t r v f) w ({ s with err := 11 }) w' := by
  obtain ⟨hq1, hq2, hb⟩ := two_boxes w (boxM mb) (boxF eb eo u x.base)
  obtain ⟨f0, f1, f2⟩ := cells3 hq2
  have hdd := (he.1.2.lower hW).lower hb
  obtain ⟨Az, kz, pz, hz, g0, g1, g2, g3, g4, g5⟩ := (hl.below hb).six 0 (z := z) hz0 ao (ao + 1) (ao + 2) (ao + 3) (ao + 4) (ao + 5) ⟨by omega, by omega, by omega, by omega, by omega, by omega⟩
  obtain ⟨Ay, ky, py, hy, d0, d1, d2, d3, d4, d5⟩ := (hl.below hb).six T (z := y) hy0 (ao + T * 6) (ao + T * 6 + 1) (ao + T * 6 + 2) (ao + T * 6 + 3) (ao + T * 6 + 4) (ao + T * 6 + 5) ⟨rfl, rfl, rfl, rfl, rfl, rfl⟩
  have HSK := Lib.hid (fun (V : World) (hb' : Below ((w.alloc (boxM mb)).alloc (boxF eb eo u x.base)).heap.size ((w.alloc (boxM mb)).alloc (boxF eb eo u x.base)) V) => (show V.cell? ⟨w.heap.size + 1, 0, none⟩ = some (.pointer (some ⟨eb, eo, none⟩)) ∧ V.cell? ⟨ab, ao, none⟩ = some (.int .i64 z.sort) ∧ V.cell? ⟨ab, ao + 1, none⟩ = some (.int .i64 z.n) ∧ V.cell? ⟨ab, ao + 2, none⟩ = some (.string (bstr z.s)) ∧ V.cell? ⟨ab, ao + 3, none⟩ = some (.slice none 0 0) ∧ V.cell? ⟨ab, ao + 4, none⟩ = some (.slice Az z.l.length kz) ∧ V.cell? ⟨ab, ao + 5, none⟩ = some (.pointer pz) ∧ V.cell? ⟨ab, ao + T * 6, none⟩ = some (.int .i64 y.sort) ∧ V.cell? ⟨ab, ao + T * 6 + 1, none⟩ = some (.int .i64 y.n) ∧ V.cell? ⟨ab, ao + T * 6 + 2, none⟩ = some (.string (bstr y.s)) ∧ V.cell? ⟨ab, ao + T * 6 + 3, none⟩ = some (.slice none 0 0) ∧ V.cell? ⟨ab, ao + T * 6 + 4, none⟩ = some (.slice Ay y.l.length ky) ∧ V.cell? ⟨ab, ao + T * 6 + 5, none⟩ = some (.pointer py) from ⟨cell_below hb' f0, cell_below hb' g0, cell_below hb' g1, cell_below hb' g2, cell_below hb' g3, cell_below hb' g4, cell_below hb' g5, cell_below hb' d0, cell_below hb' d1, cell_below hb' d2, cell_below hb' d3, cell_below hb' d4, cell_below hb' d5⟩))
  have HX1 := Lib.hid hq1
  have HX2 := Lib.hid hq2
  have HB := Lib.hid hb
  have HT1 := Lib.hid (two_new ((w.alloc (boxM mb)).alloc (boxF eb eo u x.base)) (w.heap.size + 2) (by rw [World.size_alloc, World.size_alloc]) (boxV z Az kz pz) (boxV y Ay ky py))
  have HT2 := Lib.hid (two_new ((w.alloc (boxM mb)).alloc (boxF eb eo u x.base)) (w.heap.size + 2) (by rw [World.size_alloc, World.size_alloc]) (boxV y Ay ky py) (boxV z Az kz pz))
  have HBM := Lib.hid (fun (wr : World) (hb : Below w.heap.size w wr) => And.intro (Tr.below (P := Mv mb t r v f) hb) (hb.mono (Nat.le_of_lt (Nat.lt_of_le_of_lt h.base.2 h.lt))))
  have HS := Lib.hid (fun (wr : World) (hb : Below w.heap.size w wr) => stuck_any (h.below hb))
  have HSO := Lib.hid hs
  clear h hW he hl hA hq1 hq2 hb f0 f1 f2 hdd hz g0 g1 g2 g3 g4 g5 hy d0 d1 d2 d3 d4 d5 hz0 hy0 hln  hs
  have t0 : (0 : Int) < (T : Int) := by omega
  have t1 : (T : Int) ≤ 90000000000 := by omega
  have t2 : (0 : Int) ≤ (T : Int) := by omega
  have t3 : IntKind.i64.wrap ((T : Int) + 1 - 1) = (T : Int) := by rw [IntKind.wrap_i64]; omega
  have t4 : (T : Int) < (T : Int) + 1 := by omega
  have t5 : IntKind.i64.wrap (T : Int) = (T : Int) := by rw [IntKind.wrap_i64]; omega
  clear hT hTm
  go_enter Tryz.func48, Tryz.ntmps48
  go_upto_region 1 with fail
  go_cut [6, 7, 8, 9] (fun u6 u7 u8 u9 wx => ∃ b7 b8 : Nat, u6 = .pointer (some ⟨eb, eo, none⟩) ∧ u7 = .pointer (some ⟨b7, 0, none⟩) ∧ u8 = .pointer (some ⟨b8, 0, none⟩) ∧ u9 = .int .i64 T ∧ w.heap.size + 1 < b7 ∧ w.heap.size + 1 < b8 ∧ wx.heap[b7]? = some (boxV z Az kz pz) ∧ wx.heap[b8]? = some (boxV y Ay ky py) ∧ Below ((w.alloc (boxM mb)).alloc (boxF eb eo u x.base)).heap.size ((w.alloc (boxM mb)).alloc (boxF eb eo u x.base)) wx)
  case first =>
    go_region_held3 (fun V => V.cell? ⟨w.heap.size + 1, 0, none⟩ = some (.pointer (some ⟨eb, eo, none⟩)) ∧ V.cell? ⟨ab, ao, none⟩ = some (.int .i64 z.sort) ∧ V.cell? ⟨ab, ao + 1, none⟩ = some (.int .i64 z.n) ∧ V.cell? ⟨ab, ao + 2, none⟩ = some (.string (bstr z.s)) ∧ V.cell? ⟨ab, ao + 3, none⟩ = some (.slice none 0 0) ∧ V.cell? ⟨ab, ao + 4, none⟩ = some (.slice Az z.l.length kz) ∧ V.cell? ⟨ab, ao + 5, none⟩ = some (.pointer pz) ∧ V.cell? ⟨ab, ao + T * 6, none⟩ = some (.int .i64 y.sort) ∧ V.cell? ⟨ab, ao + T * 6 + 1, none⟩ = some (.int .i64 y.n) ∧ V.cell? ⟨ab, ao + T * 6 + 2, none⟩ = some (.string (bstr y.s)) ∧ V.cell? ⟨ab, ao + T * 6 + 3, none⟩ = some (.slice none 0 0) ∧ V.cell? ⟨ab, ao + T * 6 + 4, none⟩ = some (.slice Ay y.l.length ky) ∧ V.cell? ⟨ab, ao + T * 6 + 5, none⟩ = some (.pointer py))
      (with_reducible exact HSK.out _ (by go_grown))
      (first | fail)
    all_goals
      clear HSK
      go_wp2_with fail
      go_meet
      first
        | exact ⟨w.heap.size + 2, w.heap.size + 3, rfl, rfl, rfl, rfl, by omega, by omega, HT1.out⟩
        | exact ⟨w.heap.size + 3, w.heap.size + 2, rfl, rfl, rfl, rfl, by omega, by omega, HT2.out.2.1, HT2.out.1, HT2.out.2.2⟩
  case rest =>
    obtain ⟨b7, b8, rfl, rfl, rfl, rfl, hb7, hb8, hq7, hq8, hbq⟩ := hcut
    clear HT1 HT2 HSK
    obtain ⟨z0, z1, z2, z3, z4, z5⟩ := cells6 hq7
    obtain ⟨y0, y1, y2, y3, y4, y5⟩ := cells6 hq8
    have c0 : wc.cell? ⟨w.heap.size, 0, none⟩ = some (.pointer (some ⟨mb, 0, none⟩)) := (by rw [Lib.cell_of_heap ((hbq.block _ (lt_of_heap HX1.out)).trans HX1.out)]; rfl)
    obtain ⟨f0, f1, f2⟩ := cells3 ((hbq.block _ (lt_of_heap HX2.out)).trans HX2.out)
    have e5 : (z.sort == 5) = false := by simpa using HSO.out
    have e5b : (z.sort != 5) = true := by simpa using HSO.out
    have HBW := Lib.hid (below_then HB.out hbq)
    clear hq7 hq8 hbq hb7 hb8
    go_wp2_with (go_at_call 40; (with_reducible refine (HS.out _ HBW.out).mono ?_); rintro e1 w2 ⟨rfl, hp⟩; have HP := Lib.hid hp; clear hp)
    go_returns
    with_reducible exact ⟨rfl, HP.out.mono (HBM.out _ HBW.out).1 (HBM.out _ HBW.out).2⟩
set_option maxRecDepth 100000 in
set_option maxHeartbeats 16000000 in
theorem chooseBT (h : Rep w0 B mb s w t i r v f nx nm rcs vcs fcs) (hW : Below w0.heap.size w0 w) (x : Frm) (eb eo : Nat) (u : Option Addr) (he : EN w0 w (Mv mb t r v f) x.e x.env eb eo (.pointer u)) (z : Val) (y : Val) (l : List Val) (T : Nat) (hT : 1 ≤ T) (hz0 : l[0]? = some z) (hy0 : l[T]? = some y) (hln : l.length = T + 1) (hTm : T ≤ 90000000000) (css : List (List Value)) (ab ao c : Nat) (hl : Vs w0 w (Mv mb t r v f) l (some ⟨ab, ao, none⟩) css) (hA : ab ≠ mb) (hs : z.sort = 5) (hy1 : ¬ y.sort = 1) :
    Calls Tryz.prog 48 #[.agg #[.pointer (some ⟨mb, 0, none⟩)], .agg #[.pointer (some ⟨eb, eo, none⟩), .pointer u, .int .i64 x.base], .slice (some ⟨ab, ao, none⟩) (T + 1) c] w fun e1 w' => e1 = .returned (.tuple #[]) ∧ Post w0 B mb (Mv mb t r v f) w ({ s with err := 11 }) w' := by
  obtain ⟨hq1, hq2, hb⟩ := two_boxes w (boxM mb) (boxF eb eo u x.base)
  obtain ⟨f0, f1, f2⟩ := cells3 hq2
  have hdd := (he.1.2.lower hW).lower hb
  obtain ⟨Az, kz, pz, hz, g0, g1, g2, g3, g4, g5⟩ := (hl.below hb).six 0 (z := z) hz0 ao (ao + 1) (ao + 2) (ao + 3) (ao + 4) (ao + 5) ⟨by omega, by omega, by omega, by omega, by omega, by omega⟩
  obtain ⟨Ay, ky, py, hy, d0, d1, d2, d3, d4, d5⟩ := (hl.below hb).six T (z := y) hy0 (ao + T * 6) (ao + T * 6 + 1) (ao + T * 6 + 2) (ao + T * 6 + 3) (ao + T * 6 + 4) (ao + T * 6 + 5) ⟨rfl, rfl, rfl, rfl, rfl, rfl⟩
  have HSK := Lib.hid (fun (V : World) (hb' : Below ((w.alloc (boxM mb)).alloc (boxF eb eo u x.base)).heap.size ((w.alloc (boxM mb)).alloc (boxF eb eo u x.base)) V) => (show V.cell? ⟨w.heap.size + 1, 0, none⟩ = some (.pointer (some ⟨eb, eo, none⟩)) ∧ V.cell? ⟨ab, ao, none⟩ = some (.int .i64 z.sort) ∧ V.cell? ⟨ab, ao + 1, none⟩ = some (.int .i64 z.n) ∧ V.cell? ⟨ab, ao + 2, none⟩ = some (.string (bstr z.s)) ∧ V.cell? ⟨ab, ao + 3, none⟩ = some (.slice none 0 0) ∧ V.cell? ⟨ab, ao + 4, none⟩ = some (.slice Az z.l.length kz) ∧ V.cell? ⟨ab, ao + 5, none⟩ = some (.pointer pz) ∧ V.cell? ⟨ab, ao + T * 6, none⟩ = some (.int .i64 y.sort) ∧ V.cell? ⟨ab, ao + T * 6 + 1, none⟩ = some (.int .i64 y.n) ∧ V.cell? ⟨ab, ao + T * 6 + 2, none⟩ = some (.string (bstr y.s)) ∧ V.cell? ⟨ab, ao + T * 6 + 3, none⟩ = some (.slice none 0 0) ∧ V.cell? ⟨ab, ao + T * 6 + 4, none⟩ = some (.slice Ay y.l.length ky) ∧ V.cell? ⟨ab, ao + T * 6 + 5, none⟩ = some (.pointer py) from ⟨cell_below hb' f0, cell_below hb' g0, cell_below hb' g1, cell_below hb' g2, cell_below hb' g3, cell_below hb' g4, cell_below hb' g5, cell_below hb' d0, cell_below hb' d1, cell_below hb' d2, cell_below hb' d3, cell_below hb' d4, cell_below hb' d5⟩))
  have HX1 := Lib.hid hq1
  have HX2 := Lib.hid hq2
  have HB := Lib.hid hb
  have HT1 := Lib.hid (two_new ((w.alloc (boxM mb)).alloc (boxF eb eo u x.base)) (w.heap.size + 2) (by rw [World.size_alloc, World.size_alloc]) (boxV z Az kz pz) (boxV y Ay ky py))
  have HT2 := Lib.hid (two_new ((w.alloc (boxM mb)).alloc (boxF eb eo u x.base)) (w.heap.size + 2) (by rw [World.size_alloc, World.size_alloc]) (boxV y Ay ky py) (boxV z Az kz pz))
  have HBM := Lib.hid (fun (wr : World) (hb : Below w.heap.size w wr) => And.intro (Tr.below (P := Mv mb t r v f) hb) (hb.mono (Nat.le_of_lt (Nat.lt_of_le_of_lt h.base.2 h.lt))))
  have HS := Lib.hid (fun (wr : World) (hb : Below w.heap.size w wr) => stuck_any (h.below hb))
  have HSO := Lib.hid hs
  have HY1 := Lib.hid hy1
  clear h hW he hl hA hq1 hq2 hb f0 f1 f2 hdd hz g0 g1 g2 g3 g4 g5 hy d0 d1 d2 d3 d4 d5 hz0 hy0 hln  hs hy1
  have t0 : (0 : Int) < (T : Int) := by omega
  have t1 : (T : Int) ≤ 90000000000 := by omega
  have t2 : (0 : Int) ≤ (T : Int) := by omega
  have t3 : IntKind.i64.wrap ((T : Int) + 1 - 1) = (T : Int) := by rw [IntKind.wrap_i64]; omega
  have t4 : (T : Int) < (T : Int) + 1 := by omega
  have t5 : IntKind.i64.wrap (T : Int) = (T : Int) := by rw [IntKind.wrap_i64]; omega
  clear hT hTm
  go_enter Tryz.func48, Tryz.ntmps48
  go_upto_region 1 with fail
  go_cut [6, 7, 8, 9] (fun u6 u7 u8 u9 wx => ∃ b7 b8 : Nat, u6 = .pointer (some ⟨eb, eo, none⟩) ∧ u7 = .pointer (some ⟨b7, 0, none⟩) ∧ u8 = .pointer (some ⟨b8, 0, none⟩) ∧ u9 = .int .i64 T ∧ w.heap.size + 1 < b7 ∧ w.heap.size + 1 < b8 ∧ wx.heap[b7]? = some (boxV z Az kz pz) ∧ wx.heap[b8]? = some (boxV y Ay ky py) ∧ Below ((w.alloc (boxM mb)).alloc (boxF eb eo u x.base)).heap.size ((w.alloc (boxM mb)).alloc (boxF eb eo u x.base)) wx)
  case first =>
    go_region_held3 (fun V => V.cell? ⟨w.heap.size + 1, 0, none⟩ = some (.pointer (some ⟨eb, eo, none⟩)) ∧ V.cell? ⟨ab, ao, none⟩ = some (.int .i64 z.sort) ∧ V.cell? ⟨ab, ao + 1, none⟩ = some (.int .i64 z.n) ∧ V.cell? ⟨ab, ao + 2, none⟩ = some (.string (bstr z.s)) ∧ V.cell? ⟨ab, ao + 3, none⟩ = some (.slice none 0 0) ∧ V.cell? ⟨ab, ao + 4, none⟩ = some (.slice Az z.l.length kz) ∧ V.cell? ⟨ab, ao + 5, none⟩ = some (.pointer pz) ∧ V.cell? ⟨ab, ao + T * 6, none⟩ = some (.int .i64 y.sort) ∧ V.cell? ⟨ab, ao + T * 6 + 1, none⟩ = some (.int .i64 y.n) ∧ V.cell? ⟨ab, ao + T * 6 + 2, none⟩ = some (.string (bstr y.s)) ∧ V.cell? ⟨ab, ao + T * 6 + 3, none⟩ = some (.slice none 0 0) ∧ V.cell? ⟨ab, ao + T * 6 + 4, none⟩ = some (.slice Ay y.l.length ky) ∧ V.cell? ⟨ab, ao + T * 6 + 5, none⟩ = some (.pointer py))
      (with_reducible exact HSK.out _ (by go_grown))
      (first | fail)
    all_goals
      clear HSK
      go_wp2_with fail
      go_meet
      first
        | exact ⟨w.heap.size + 2, w.heap.size + 3, rfl, rfl, rfl, rfl, by omega, by omega, HT1.out⟩
        | exact ⟨w.heap.size + 3, w.heap.size + 2, rfl, rfl, rfl, rfl, by omega, by omega, HT2.out.2.1, HT2.out.1, HT2.out.2.2⟩
  case rest =>
    obtain ⟨b7, b8, rfl, rfl, rfl, rfl, hb7, hb8, hq7, hq8, hbq⟩ := hcut
    clear HT1 HT2 HSK
    obtain ⟨z0, z1, z2, z3, z4, z5⟩ := cells6 hq7
    obtain ⟨y0, y1, y2, y3, y4, y5⟩ := cells6 hq8
    have c0 : wc.cell? ⟨w.heap.size, 0, none⟩ = some (.pointer (some ⟨mb, 0, none⟩)) := (by rw [Lib.cell_of_heap ((hbq.block _ (lt_of_heap HX1.out)).trans HX1.out)]; rfl)
    obtain ⟨f0, f1, f2⟩ := cells3 ((hbq.block _ (lt_of_heap HX2.out)).trans HX2.out)
    rw [HSO.out] at z0
    have e1 : (y.sort == 1) = false := by simpa using HY1.out
    have e1b : (y.sort != 1) = true := by simpa using HY1.out
    have HBW := Lib.hid (below_then HB.out hbq)
    clear hq7 hq8 hbq hb7 hb8
    go_wp2_with (go_at_call 40; (with_reducible refine (HS.out _ HBW.out).mono ?_); rintro e1 w2 ⟨rfl, hp⟩; have HP := Lib.hid hp; clear hp)
    go_returns
    with_reducible exact ⟨rfl, HP.out.mono (HBM.out _ HBW.out).1 (HBM.out _ HBW.out).2⟩
set_option maxRecDepth 100000 in
set_option maxHeartbeats 16000000 in
theorem chooseE0 (h : Rep w0 B mb s w t i r v f nx nm rcs vcs fcs) (hW : Below w0.heap.size w0 w) (x : Frm) (eb eo : Nat) (u : Option Addr) (he : EN w0 w (Mv mb t r v f) x.e x.env eb eo (.pointer u)) (z : Val) (css : List (List Value)) (ab ao c : Nat) (hl : Vs w0 w (Mv mb t r v f) [z] (some ⟨ab, ao, none⟩) css) (hA : ab ≠ mb) (hs : z.sort = 5) (hnn : ¬ 0 < x.e.d.nn) (ht : x.e.d.t = []) :
    Calls Tryz.prog 48 #[.agg #[.pointer (some ⟨mb, 0, none⟩)], .agg #[.pointer (some ⟨eb, eo, none⟩), .pointer u, .int .i64 x.base], .slice (some ⟨ab, ao, none⟩) 1 c] w fun e1 w' => e1 = .returned (.tuple #[]) ∧ Post w0 B mb (Mv mb t r v f) w ({ s with err := 11 }) w' := by
  obtain ⟨hq1, hq2, hb⟩ := two_boxes w (boxM mb) (boxF eb eo u x.base)
  obtain ⟨f0, f1, f2⟩ := cells3 hq2
  have hdd := (he.1.2.lower hW).lower hb
  obtain ⟨Az, kz, pz, hz, g0, g1, g2, g3, g4, g5⟩ := (hl.below hb).six 0 (z := z) rfl ao (ao + 1) (ao + 2) (ao + 3) (ao + 4) (ao + 5) ⟨by omega, by omega, by omega, by omega, by omega, by omega⟩
  have HSK := Lib.hid (fun (V : World) (hb' : Below ((w.alloc (boxM mb)).alloc (boxF eb eo u x.base)).heap.size ((w.alloc (boxM mb)).alloc (boxF eb eo u x.base)) V) => (show V.cell? ⟨w.heap.size + 1, 0, none⟩ = some (.pointer (some ⟨eb, eo, none⟩)) ∧ V.cell? ⟨ab, ao, none⟩ = some (.int .i64 z.sort) ∧ V.cell? ⟨ab, ao + 1, none⟩ = some (.int .i64 z.n) ∧ V.cell? ⟨ab, ao + 2, none⟩ = some (.string (bstr z.s)) ∧ V.cell? ⟨ab, ao + 3, none⟩ = some (.slice none 0 0) ∧ V.cell? ⟨ab, ao + 4, none⟩ = some (.slice Az z.l.length kz) ∧ V.cell? ⟨ab, ao + 5, none⟩ = some (.pointer pz) from ⟨cell_below hb' f0, cell_below hb' g0, cell_below hb' g1, cell_below hb' g2, cell_below hb' g3, cell_below hb' g4, cell_below hb' g5⟩))
  have HX1 := Lib.hid hq1
  have HX2 := Lib.hid hq2
  have HB := Lib.hid hb
  have HT1 := Lib.hid (two_new ((w.alloc (boxM mb)).alloc (boxF eb eo u x.base)) (w.heap.size + 2) (by rw [World.size_alloc, World.size_alloc]) (boxV z Az kz pz) (boxV z Az kz pz))
  have HT2 := Lib.hid (two_new ((w.alloc (boxM mb)).alloc (boxF eb eo u x.base)) (w.heap.size + 2) (by rw [World.size_alloc, World.size_alloc]) (boxV z Az kz pz) (boxV z Az kz pz))
  have HBM := Lib.hid (fun (wr : World) (hb : Below w.heap.size w wr) => And.intro (Tr.below (P := Mv mb t r v f) hb) (hb.mono (Nat.le_of_lt (Nat.lt_of_le_of_lt h.base.2 h.lt))))
  have HS := Lib.hid (fun (wr : World) (hb : Below w.heap.size w wr) => stuck_any (h.below hb))
  have HSO := Lib.hid hs
  have HDC := Lib.hid (fun (wr : World) (hb' : Below ((w.alloc (boxM mb)).alloc (boxF eb eo u x.base)).heap.size ((w.alloc (boxM mb)).alloc (boxF eb eo u x.base)) wr) => hdd.lower hb')
  have HNN := Lib.hid hnn
  have HTT := Lib.hid ht
  have HNM := Lib.hid he.1.1.cap.1.2.2
  clear h hW he hl hA hq1 hq2 hb f0 f1 f2 hdd hz g0 g1 g2 g3 g4 g5   hs hnn ht
  have t3 : IntKind.i64.wrap (1 - 1) = 0 := by rfl
  have t5 : IntKind.i64.wrap 0 = 0 := by rfl
  go_enter Tryz.func48, Tryz.ntmps48
  go_upto_region 1 with fail
  go_cut [6, 7, 8, 9] (fun u6 u7 u8 u9 wx => ∃ b7 b8 : Nat, u6 = .pointer (some ⟨eb, eo, none⟩) ∧ u7 = .pointer (some ⟨b7, 0, none⟩) ∧ u8 = .pointer (some ⟨b8, 0, none⟩) ∧ u9 = .int .i64 0 ∧ w.heap.size + 1 < b7 ∧ w.heap.size + 1 < b8 ∧ wx.heap[b7]? = some (boxV z Az kz pz) ∧ wx.heap[b8]? = some (boxV z Az kz pz) ∧ Below ((w.alloc (boxM mb)).alloc (boxF eb eo u x.base)).heap.size ((w.alloc (boxM mb)).alloc (boxF eb eo u x.base)) wx)
  case first =>
    go_region_held3 (fun V => V.cell? ⟨w.heap.size + 1, 0, none⟩ = some (.pointer (some ⟨eb, eo, none⟩)) ∧ V.cell? ⟨ab, ao, none⟩ = some (.int .i64 z.sort) ∧ V.cell? ⟨ab, ao + 1, none⟩ = some (.int .i64 z.n) ∧ V.cell? ⟨ab, ao + 2, none⟩ = some (.string (bstr z.s)) ∧ V.cell? ⟨ab, ao + 3, none⟩ = some (.slice none 0 0) ∧ V.cell? ⟨ab, ao + 4, none⟩ = some (.slice Az z.l.length kz) ∧ V.cell? ⟨ab, ao + 5, none⟩ = some (.pointer pz))
      (with_reducible exact HSK.out _ (by go_grown))
      (first | fail)
    all_goals
      clear HSK
      go_wp2_with fail
      go_meet
      first
        | exact ⟨w.heap.size + 2, w.heap.size + 3, rfl, rfl, rfl, rfl, by omega, by omega, HT1.out⟩
        | exact ⟨w.heap.size + 3, w.heap.size + 2, rfl, rfl, rfl, rfl, by omega, by omega, HT2.out.2.1, HT2.out.1, HT2.out.2.2⟩
  case rest =>
    obtain ⟨b7, b8, rfl, rfl, rfl, rfl, hb7, hb8, hq7, hq8, hbq⟩ := hcut
    clear HT1 HT2 HSK
    obtain ⟨z0, z1, z2, z3, z4, z5⟩ := cells6 hq7
    obtain ⟨y0, y1, y2, y3, y4, y5⟩ := cells6 hq8
    have c0 : wc.cell? ⟨w.heap.size, 0, none⟩ = some (.pointer (some ⟨mb, 0, none⟩)) := (by rw [Lib.cell_of_heap ((hbq.block _ (lt_of_heap HX1.out)).trans HX1.out)]; rfl)
    obtain ⟨f0, f1, f2⟩ := cells3 ((hbq.block _ (lt_of_heap HX2.out)).trans HX2.out)
    rw [HSO.out] at z0
    rw [HSO.out] at y0
    have hdx := HDC.out _ hbq
    have k3 := hdx.c3
    have k4 := hdx.c4
    have k5 := hdx.c5
    clear hdx
    rw [HTT.out] at k3
    have m1 : ¬ ((0 : Int) < (x.e.d.nn : Int)) := by have := HNN.out; omega
    have m2 : decide ((0 : Int) < (x.e.d.nn : Int)) = false := decide_eq_false m1
    have m3 : ((bstr ([] : Str)).toList == []) = true := by rw [bstr_toList]; rfl
    have HBW := Lib.hid (below_then HB.out hbq)
    clear hq7 hq8 hbq hb7 hb8
    go_wp2_with (go_at_call 40; (with_reducible refine (HS.out _ HBW.out).mono ?_); rintro e1 w2 ⟨rfl, hp⟩; have HP := Lib.hid hp; clear hp)
    go_returns
    with_reducible exact ⟨rfl, HP.out.mono (HBM.out _ HBW.out).1 (HBM.out _ HBW.out).2⟩
set_option maxRecDepth 100000 in
set_option maxHeartbeats 16000000 in
theorem chooseET (h : Rep w0 B mb s w t i r v f nx nm rcs vcs fcs) (hW : Below w0.heap.size w0 w) (x : Frm) (eb eo : Nat) (u : Option Addr) (he : EN w0 w (Mv mb t r v f) x.e x.env eb eo (.pointer u)) (z : Val) (y : Val) (l : List Val) (T : Nat) (hT : 1 ≤ T) (hz0 : l[0]? = some z) (hy0 : l[T]? = some y) (hln : l.length = T + 1) (hTm : T ≤ 90000000000) (css : List (List Value)) (ab ao c : Nat) (hl : Vs w0 w (Mv mb t r v f) l (some ⟨ab, ao, none⟩) css) (hA : ab ≠ mb) (hs : z.sort = 5) (hy1 : y.sort = 1) (hne : ¬ y.n = z.n) (hnn : ¬ T < x.e.d.nn) (ht : x.e.d.t = []) :
    Calls Tryz.prog 48 #[.agg #[.pointer (some ⟨mb, 0, none⟩)], .agg #[.pointer (some ⟨eb, eo, none⟩), .pointer u, .int .i64 x.base], .slice (some ⟨ab, ao, none⟩) (T + 1) c] w fun e1 w' => e1 = .returned (.tuple #[]) ∧ Post w0 B mb (Mv mb t r v f) w ({ s with err := 11 }) w' := by
  obtain ⟨hq1, hq2, hb⟩ := two_boxes w (boxM mb) (boxF eb eo u x.base)
  obtain ⟨f0, f1, f2⟩ := cells3 hq2
  have hdd := (he.1.2.lower hW).lower hb
  obtain ⟨Az, kz, pz, hz, g0, g1, g2, g3, g4, g5⟩ := (hl.below hb).six 0 (z := z) hz0 ao (ao + 1) (ao + 2) (ao + 3) (ao + 4) (ao + 5) ⟨by omega, by omega, by omega, by omega, by omega, by omega⟩
  obtain ⟨Ay, ky, py, hy, d0, d1, d2, d3, d4, d5⟩ := (hl.below hb).six T (z := y) hy0 (ao + T * 6) (ao + T * 6 + 1) (ao + T * 6 + 2) (ao + T * 6 + 3) (ao + T * 6 + 4) (ao + T * 6 + 5) ⟨rfl, rfl, rfl, rfl, rfl, rfl⟩
  have HSK := Lib.hid (fun (V : World) (hb' : Below ((w.alloc (boxM mb)).alloc (boxF eb eo u x.base)).heap.size ((w.alloc (boxM mb)).alloc (boxF eb eo u x.base)) V) => (show V.cell? ⟨w.heap.size + 1, 0, none⟩ = some (.pointer (some ⟨eb, eo, none⟩)) ∧ V.cell? ⟨ab, ao, none⟩ = some (.int .i64 z.sort) ∧ V.cell? ⟨ab, ao + 1, none⟩ = some (.int .i64 z.n) ∧ V.cell? ⟨ab, ao + 2, none⟩ = some (.string (bstr z.s)) ∧ V.cell? ⟨ab, ao + 3, none⟩ = some (.slice none 0 0) ∧ V.cell? ⟨ab, ao + 4, none⟩ = some (.slice Az z.l.length kz) ∧ V.cell? ⟨ab, ao + 5, none⟩ = some (.pointer pz) ∧ V.cell? ⟨ab, ao + T * 6, none⟩ = some (.int .i64 y.sort) ∧ V.cell? ⟨ab, ao + T * 6 + 1, none⟩ = some (.int .i64 y.n) ∧ V.cell? ⟨ab, ao + T * 6 + 2, none⟩ = some (.string (bstr y.s)) ∧ V.cell? ⟨ab, ao + T * 6 + 3, none⟩ = some (.slice none 0 0) ∧ V.cell? ⟨ab, ao + T * 6 + 4, none⟩ = some (.slice Ay y.l.length ky) ∧ V.cell? ⟨ab, ao + T * 6 + 5, none⟩ = some (.pointer py) from ⟨cell_below hb' f0, cell_below hb' g0, cell_below hb' g1, cell_below hb' g2, cell_below hb' g3, cell_below hb' g4, cell_below hb' g5, cell_below hb' d0, cell_below hb' d1, cell_below hb' d2, cell_below hb' d3, cell_below hb' d4, cell_below hb' d5⟩))
  have HX1 := Lib.hid hq1
  have HX2 := Lib.hid hq2
  have HB := Lib.hid hb
  have HT1 := Lib.hid (two_new ((w.alloc (boxM mb)).alloc (boxF eb eo u x.base)) (w.heap.size + 2) (by rw [World.size_alloc, World.size_alloc]) (boxV z Az kz pz) (boxV y Ay ky py))
  have HT2 := Lib.hid (two_new ((w.alloc (boxM mb)).alloc (boxF eb eo u x.base)) (w.heap.size + 2) (by rw [World.size_alloc, World.size_alloc]) (boxV y Ay ky py) (boxV z Az kz pz))
  have HBM := Lib.hid (fun (wr : World) (hb : Below w.heap.size w wr) => And.intro (Tr.below (P := Mv mb t r v f) hb) (hb.mono (Nat.le_of_lt (Nat.lt_of_le_of_lt h.base.2 h.lt))))
  have HS := Lib.hid (fun (wr : World) (hb : Below w.heap.size w wr) => stuck_any (h.below hb))
  have HSO := Lib.hid hs
  have HY1 := Lib.hid hy1
  have HNE := Lib.hid hne
  have HDC := Lib.hid (fun (wr : World) (hb' : Below ((w.alloc (boxM mb)).alloc (boxF eb eo u x.base)).heap.size ((w.alloc (boxM mb)).alloc (boxF eb eo u x.base)) wr) => hdd.lower hb')
  have HNN := Lib.hid hnn
  have HTT := Lib.hid ht
  have HNM := Lib.hid he.1.1.cap.1.2.2
  clear h hW he hl hA hq1 hq2 hb f0 f1 f2 hdd hz g0 g1 g2 g3 g4 g5 hy d0 d1 d2 d3 d4 d5 hz0 hy0 hln  hs hnn ht hy1 hne
  have t0 : (0 : Int) < (T : Int) := by omega
  have t1 : (T : Int) ≤ 90000000000 := by omega
  have t2 : (0 : Int) ≤ (T : Int) := by omega
  have t3 : IntKind.i64.wrap ((T : Int) + 1 - 1) = (T : Int) := by rw [IntKind.wrap_i64]; omega
  have t4 : (T : Int) < (T : Int) + 1 := by omega
  have t5 : IntKind.i64.wrap (T : Int) = (T : Int) := by rw [IntKind.wrap_i64]; omega
  clear hT hTm
  go_enter Tryz.func48, Tryz.ntmps48
  go_upto_region 1 with fail
  go_cut [6, 7, 8, 9] (fun u6 u7 u8 u9 wx => ∃ b7 b8 : Nat, u6 = .pointer (some ⟨eb, eo, none⟩) ∧ u7 = .pointer (some ⟨b7, 0, none⟩) ∧ u8 = .pointer (some ⟨b8, 0, none⟩) ∧ u9 = .int .i64 T ∧ w.heap.size + 1 < b7 ∧ w.heap.size + 1 < b8 ∧ wx.heap[b7]? = some (boxV z Az kz pz) ∧ wx.heap[b8]? = some (boxV y Ay ky py) ∧ Below ((w.alloc (boxM mb)).alloc (boxF eb eo u x.base)).heap.size ((w.alloc (boxM mb)).alloc (boxF eb eo u x.base)) wx)
  case first =>
    go_region_held3 (fun V => V.cell? ⟨w.heap.size + 1, 0, none⟩ = some (.pointer (some ⟨eb, eo, none⟩)) ∧ V.cell? ⟨ab, ao, none⟩ = some (.int .i64 z.sort) ∧ V.cell? ⟨ab, ao + 1, none⟩ = some (.int .i64 z.n) ∧ V.cell? ⟨ab, ao + 2, none⟩ = some (.string (bstr z.s)) ∧ V.cell? ⟨ab, ao + 3, none⟩ = some (.slice none 0 0) ∧ V.cell? ⟨ab, ao + 4, none⟩ = some (.slice Az z.l.length kz) ∧ V.cell? ⟨ab, ao + 5, none⟩ = some (.pointer pz) ∧ V.cell? ⟨ab, ao + T * 6, none⟩ = some (.int .i64 y.sort) ∧ V.cell? ⟨ab, ao + T * 6 + 1, none⟩ = some (.int .i64 y.n) ∧ V.cell? ⟨ab, ao + T * 6 + 2, none⟩ = some (.string (bstr y.s)) ∧ V.cell? ⟨ab, ao + T * 6 + 3, none⟩ = some (.slice none 0 0) ∧ V.cell? ⟨ab, ao + T * 6 + 4, none⟩ = some (.slice Ay y.l.length ky) ∧ V.cell? ⟨ab, ao + T * 6 + 5, none⟩ = some (.pointer py))
      (with_reducible exact HSK.out _ (by go_grown))
      (first | fail)
    all_goals
      clear HSK
      go_wp2_with fail
      go_meet
      first
        | exact ⟨w.heap.size + 2, w.heap.size + 3, rfl, rfl, rfl, rfl, by omega, by omega, HT1.out⟩
        | exact ⟨w.heap.size + 3, w.heap.size + 2, rfl, rfl, rfl, rfl, by omega, by omega, HT2.out.2.1, HT2.out.1, HT2.out.2.2⟩
  case rest =>
    obtain ⟨b7, b8, rfl, rfl, rfl, rfl, hb7, hb8, hq7, hq8, hbq⟩ := hcut
    clear HT1 HT2 HSK
    obtain ⟨z0, z1, z2, z3, z4, z5⟩ := cells6 hq7
    obtain ⟨y0, y1, y2, y3, y4, y5⟩ := cells6 hq8
    have c0 : wc.cell? ⟨w.heap.size, 0, none⟩ = some (.pointer (some ⟨mb, 0, none⟩)) := (by rw [Lib.cell_of_heap ((hbq.block _ (lt_of_heap HX1.out)).trans HX1.out)]; rfl)
    obtain ⟨f0, f1, f2⟩ := cells3 ((hbq.block _ (lt_of_heap HX2.out)).trans HX2.out)
    rw [HSO.out] at z0
    rw [HY1.out] at y0
    have yn : (y.n == z.n) = false := by simpa using HNE.out
    have hdx := HDC.out _ hbq
    have k3 := hdx.c3
    have k4 := hdx.c4
    have k5 := hdx.c5
    clear hdx
    rw [HTT.out] at k3
    have m1 : ¬ ((T : Int) < (x.e.d.nn : Int)) := by have := HNN.out; omega
    have m2 : decide ((T : Int) < (x.e.d.nn : Int)) = false := decide_eq_false m1
    have m3 : ((bstr ([] : Str)).toList == []) = true := by rw [bstr_toList]; rfl
    have HBW := Lib.hid (below_then HB.out hbq)
    clear hq7 hq8 hbq hb7 hb8
    go_wp2_with (go_at_call 40; (with_reducible refine (HS.out _ HBW.out).mono ?_); rintro e1 w2 ⟨rfl, hp⟩; have HP := Lib.hid hp; clear hp)
    go_returns
    with_reducible exact ⟨rfl, HP.out.mono (HBM.out _ HBW.out).1 (HBM.out _ HBW.out).2⟩
end
end Go.Proofs.YtpdfjdomjklkbaaGreatDoor
