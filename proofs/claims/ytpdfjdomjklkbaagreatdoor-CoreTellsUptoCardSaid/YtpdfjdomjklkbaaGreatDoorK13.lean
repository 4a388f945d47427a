/-
  core's machine chooses: the part of the tags that are left; all ways. (Made by gen_mbh.py.)
  core's machine goes on: all ways.
  The machine, about no memory: its step; what holds of it.
  The machine, about no memory: what a step keeps.
  The machine, about no memory: with more fuel.
-/
import Derived.Test.YtpdfjdomjklkbaaGreatDoorK12
namespace Go.Proofs.YtpdfjdomjklkbaaGreatDoor
open Go.ChangeShapes Go.WideShapes Go.ChangeAt Go.RowKit Go.Sort
set_option linter.unusedVariables false
set_option linter.unusedSimpArgs false

section
variable {w0 w : World} {B mb : Nat} {s : St} {t i r v f nx nm : Value} {rcs vcs fcs : List (List Value)}
set_option maxRecDepth 100000 in
set_option maxHeartbeats 16000000 in
theorem chooseD0 (h : Rep w0 B mb s w t i r v f nx nm rcs vcs fcs) (hW : Below w0.heap.size w0 w) (x : Frm) (hv : s.vals.length ≤ 100000000000) (hf : s.frames.length ≤ 100000000000) (fs : List Frm) (hx : s.frames = fs ++ [x]) (hbs : x.base ≤ s.vals.length) (eb eo : Nat) (u : Option Addr) (he : EN w0 w (Mv mb t r v f) x.e x.env eb eo (.pointer u)) (z : Val) (css : List (List Value)) (ab ao c : Nat) (hl : Vs w0 w (Mv mb t r v f) [z] (some ⟨ab, ao, none⟩) css) (hA : ab ≠ mb) (hs : z.sort = 5) (yx : Ex) (hyx : x.e.l[x.e.d.pn - 1]? = some yx) (hnn : ¬ 0 < x.e.d.nn) (ht : ¬ x.e.d.t = []) (hc : 0 + 1 ≤ c ∧ c ≤ maxLen) :
    Calls Tryz.prog 48 #[.agg #[.pointer (some ⟨mb, 0, none⟩)], .agg #[.pointer (some ⟨eb, eo, none⟩), .pointer u, .int .i64 x.base], .slice (some ⟨ab, ao, none⟩) 1 c] w fun e1 w' => e1 = .returned (.tuple #[]) ∧ Post w0 B mb (Mv mb t r v f) w ({ s.ended fs x with next := some (yx, (x.e.d.t, .mk z.sort z.n z.s z.l z.f) :: x.env) }) w' := by
  obtain ⟨A0, k0, rfl, _⟩ := own_cap h.vr
  obtain ⟨hq1, hq2, hb⟩ := two_boxes w (boxM mb) (boxF eb eo u x.base)
  obtain ⟨f0, f1, f2⟩ := cells3 hq2
  have hdd := (he.1.2.lower hW).lower hb
  obtain ⟨Az, kz, pz, hz, g0, g1, g2, g3, g4, g5⟩ := (hl.below hb).six 0 (z := z) rfl ao (ao + 1) (ao + 2) (ao + 3) (ao + 4) (ao + 5) ⟨by omega, by omega, by omega, by omega, by omega, by omega⟩
  have HSK := Lib.hid (fun (V : World) (hb' : Below ((w.alloc (boxM mb)).alloc (boxF eb eo u x.base)).heap.size ((w.alloc (boxM mb)).alloc (boxF eb eo u x.base)) V) => (show V.cell? ⟨w.heap.size + 1, 0, none⟩ = some (.pointer (some ⟨eb, eo, none⟩)) ∧ V.cell? ⟨ab, ao, none⟩ = some (.int .i64 z.sort) ∧ V.cell? ⟨ab, ao + 1, none⟩ = some (.int .i64 z.n) ∧ V.cell? ⟨ab, ao + 2, none⟩ = some (.string (bstr z.s)) ∧ V.cell? ⟨ab, ao + 3, none⟩ = some (.slice none 0 0) ∧ V.cell? ⟨ab, ao + 4, none⟩ = some (.slice Az z.l.length kz) ∧ V.cell? ⟨ab, ao + 5, none⟩ = some (.pointer pz) from ⟨cell_below hb' f0, cell_below hb' g0, cell_below hb' g1, cell_below hb' g2, cell_below hb' g3, cell_below hb' g4, cell_below hb' g5⟩))
  have HX1 := Lib.hid hq1
  have HX2 := Lib.hid hq2
  have HB := Lib.hid hb
  have HT1 := Lib.hid (two_new ((w.alloc (boxM mb)).alloc (boxF eb eo u x.base)) (w.heap.size + 2) (by rw [World.size_alloc, World.size_alloc]) (boxV z Az kz pz) (boxV z Az kz pz))
  have HT2 := Lib.hid (two_new ((w.alloc (boxM mb)).alloc (boxF eb eo u x.base)) (w.heap.size + 2) (by rw [World.size_alloc, World.size_alloc]) (boxV z Az kz pz) (boxV z Az kz pz))
  have HSO := Lib.hid hs
  have HDC := Lib.hid (fun (wr : World) (hb' : Below ((w.alloc (boxM mb)).alloc (boxF eb eo u x.base)).heap.size ((w.alloc (boxM mb)).alloc (boxF eb eo u x.base)) wr) => hdd.lower hb')
  obtain ⟨pb, po, hpA, hyI⟩ := ex_part he.1 hyx
  have hpn : x.e.d.pn - 1 < x.e.d.pn := by have := (List.getElem?_eq_some_iff.1 hyx).1; rw [he.1.1.len] at this; exact this
  have heb : eb ≠ mb := by have := he.1.2.blt; have := h.base; omega
  have HPN := Lib.hid (And.intro hpn (And.intro he.1.1.cap.2.1.2.2 (And.intro hnn he.1.1.cap.1.2.2)))
  have HPA := Lib.hid hpA
  have HTT := Lib.hid ht
  have HCC := Lib.hid hc
  have HCE := Lib.hid (fun (wr : World) (hb' : Below ((w.alloc (boxM mb)).alloc (boxF eb eo u x.base)).heap.size ((w.alloc (boxM mb)).alloc (boxF eb eo u x.base)) wr) (q1' k1' : Nat) (wr1 : World) (hE : Ended w0 wr B mb s t i r A0 k0 q1' k1' nx nm rcs vcs fcs fs x wr1) => And.intro (hE.cell heb (hdd.lower hb').c3) (hE.cell heb (hdd.lower hb').c5))
  have HMB := Lib.hid h.lt
  have HE := Lib.hid (fun (wr : World) (hb' : Below w.heap.size w wr) => end_any (h.below hb') fs x hx hf hbs hv)
  have HAP := Lib.hid (fun (wr : World) (hb' : Below ((w.alloc (boxM mb)).alloc (boxF eb eo u x.base)).heap.size ((w.alloc (boxM mb)).alloc (boxF eb eo u x.base)) wr) (q1' k1' : Nat) (hff : f = .slice (some ⟨q1', 0, none⟩) (fs.length + 1) k1') (wr1 : World) (hE : Ended w0 wr B mb s t i r A0 k0 q1' k1' nx nm rcs vcs fcs fs x wr1) (wr2 : World) (hdw : Below wr1.heap.size wr1 wr2) => (show Calls Tryz.prog 44 #[.pointer (some ⟨mb, 0, none⟩), .pointer (some ⟨pb, po + (x.e.d.pn - 1) * 6, none⟩), .pointer u, .string (bstr x.e.d.t), .agg #[.int .i64 z.sort, .int .i64 z.n, .string (bstr z.s), .slice none 0 0, .slice Az z.l.length kz, .pointer pz]] wr2 fun e1 w' => e1 = .returned (.tuple #[]) ∧ Post w0 B mb (Mv mb t r (.slice A0 s.vals.length k0) f) w ({ s.ended fs x with next := some (yx, (x.e.d.t, .mk z.sort z.n z.s z.l z.f) :: x.env) }) w' from by
    subst hff
    have hbb := below_then hb hb'
    have hT1 : Tr w (Mv mb t r (.slice A0 s.vals.length k0) (.slice (some ⟨q1', 0, none⟩) (fs.length + 1) k1')) wr1 (Mv mb t r (.slice A0 x.base k0) (.slice (some ⟨q1', 0, none⟩) fs.length k1')) := (Tr.below (P := (Mv mb t r (.slice A0 s.vals.length k0) (.slice (some ⟨q1', 0, none⟩) (fs.length + 1) k1'))) hbb).trans hbb.size hE.tr
    have hB1 : Below B w wr1 := (hbb.mono (Nat.le_of_lt (Nat.lt_of_le_of_lt h.base.2 h.lt))).trans hE.below
    have heE : ER w0 wr2 (Mv mb t r (.slice A0 x.base k0) (.slice (some ⟨q1', 0, none⟩) fs.length k1')) x.env (.pointer u) := (he.2.keep hT1).keep (Tr.below hdw)
    have hzE := (((hz.reN z.n).keep (Tr.below (P := (Mv mb t r (.slice A0 s.vals.length k0) (.slice (some ⟨q1', 0, none⟩) (fs.length + 1) k1'))) hb')).keep hE.tr).keep (Tr.below (P := (Mv mb t r (.slice A0 x.base k0) (.slice (some ⟨q1', 0, none⟩) fs.length k1'))) hdw)
    refine (bind_any (s := s.ended fs x) (hE.rep.below hdw) yx x.env pb (po + (x.e.d.pn - 1) * 6) u ⟨hyI, heE⟩ x.e.d.t _ _ _ _ _ _ _ hzE).mono ?_
    rintro e1 w' ⟨rfl, hp⟩
    exact ⟨rfl, Post.mono hT1 hB1 (hp.mono (Tr.below hdw) (hdw.mono (by have := hE.rep.lt; have := hE.rep.base.2; omega)))⟩))
  clear h hW he hl hA hq1 hq2 hb f0 f1 f2 hdd hz g0 g1 g2 g3 g4 g5  hv hf hx hbs hs hyx hnn ht hc hyI hpn hpA heb
  have t3 : IntKind.i64.wrap (1 - 1) = 0 := by rfl
  have t5 : IntKind.i64.wrap 0 = 0 := by rfl
  go_enter Tryz.func48, Tryz.ntmps48
  go_upto_region 1 with fail
  go_cut [6, 7, 8, 9] (fun u6 u7 u8 u9 wx => ∃ b7 b8 : Nat, u6 = .pointer (some ⟨eb, eo, none⟩) ∧ u7 = .pointer (some ⟨b7, 0, none⟩) ∧ u8 = .pointer (some ⟨b8, 0, none⟩) ∧ u9 = .int .i64 0 ∧ w.heap.size + 1 < b7 ∧ w.heap.size + 1 < b8 ∧ wx.heap[b7]? = some (boxV z Az kz pz) ∧ wx.heap[b8]? = some (boxV z Az kz pz) ∧ Below ((w.alloc (boxM mb)).alloc (boxF eb eo u x.base)).heap.size ((w.alloc (boxM mb)).alloc (boxF eb eo u x.base)) wx)
  case first =>
    go_region_held3 (fun V => V.cell? ⟨w.heap.size + 1, 0, none⟩ = some (.pointer (some ⟨eb, eo, none⟩)) ∧ V.cell? ⟨ab, ao, none⟩ = some (.int .i64 z.sort) ∧ V.cell? ⟨ab, ao + 1, none⟩ = some (.int .i64 z.n) ∧ V.cell? ⟨ab, ao + 2, none⟩ = some (.string (bstr z.s)) ∧ V.cell? ⟨ab, ao + 3, none⟩ = some (.slice none 0 0) ∧ V.cell? ⟨ab, ao + 4, none⟩ = some (.slice Az z.l.length kz) ∧ V.cell? ⟨ab, ao + 5, none⟩ = some (.pointer pz))
      (with_reducible exact HSK.out _ (by go_grown))
      (first | fail)
    all_goals
      clear HSK
      go_wp2_with fail
      go_meet
      first
        | exact ⟨w.heap.size + 2, w.heap.size + 3, rfl, rfl, rfl, rfl, by omega, by omega, HT1.out⟩
        | exact ⟨w.heap.size + 3, w.heap.size + 2, rfl, rfl, rfl, rfl, by omega, by omega, HT2.out.2.1, HT2.out.1, HT2.out.2.2⟩
  case rest =>
    obtain ⟨b7, b8, rfl, rfl, rfl, rfl, hb7, hb8, hq7, hq8, hbq⟩ := hcut
    clear HT1 HT2 HSK
    obtain ⟨z0, z1, z2, z3, z4, z5⟩ := cells6 hq7
    obtain ⟨y0, y1, y2, y3, y4, y5⟩ := cells6 hq8
    have c0 : wc.cell? ⟨w.heap.size, 0, none⟩ = some (.pointer (some ⟨mb, 0, none⟩)) := (by rw [Lib.cell_of_heap ((hbq.block _ (lt_of_heap HX1.out)).trans HX1.out)]; rfl)
    obtain ⟨f0, f1, f2⟩ := cells3 ((hbq.block _ (lt_of_heap HX2.out)).trans HX2.out)
    rw [HSO.out] at z0
    rw [HSO.out] at y0
    have hdx := HDC.out _ hbq
    have k3 := hdx.c3
    have k4 := hdx.c4
    have k5 := hdx.c5
    clear hdx
    have tn : ((bstr x.e.d.t).toList == []) = false := by rw [bstr_toList]; simpa using HTT.out
    have m1 : ¬ ((0 : Int) < (x.e.d.nn : Int)) := by have := HPN.out.2.2.1; omega
    have m1b : decide ((0 : Int) < (x.e.d.nn : Int)) = false := decide_eq_false m1
    have m2 : (x.e.d.pn : Int) ≤ 4000000 := by have := HPN.out.2.1; omega
    obtain ⟨N, hN⟩ : ∃ N : Nat, x.e.d.pn - 1 = N := ⟨_, rfl⟩
    have m6 : IntKind.i64.wrap ((x.e.d.pn : Int) - 1) = (N : Int) := by rw [IntKind.wrap_i64]; have := HPN.out.1; omega
    have m7 : (0 : Int) ≤ (N : Int) := by omega
    have m8 : (N : Int) < (x.e.d.pn : Int) := by have := HPN.out.1; omega
    rw [hN] at HAP
    have hc1 : (1 : Int) ≤ (c : Int) := by have := HCC.out.1; omega
    have hc2 : (1 : Int) ≤ (c : Int) := by have := HCC.out.1; omega
    have hbw := below_then HB.out hbq
    have HBQ := Lib.hid hbq
    have HBW := Lib.hid hbw
    have HC7 := Lib.hid (fun (q1' k1' : Nat) (wr1 : World) (hE : Ended w0 wc B mb s t i r A0 k0 q1' k1' nx nm rcs vcs fcs fs x wr1) => And.intro (hE.cell (Nat.ne_of_gt HMB.out) c0) (And.intro (hE.cell (Nat.ne_of_gt (Nat.lt_succ_of_lt HMB.out)) f1) ((hE.kept b7 (show b7 ≠ mb by have := HMB.out; omega)).trans hq7)))
    clear hq7 hq8 hbq hb7 hb8 hbw hN
    obtain ⟨A3, hA3⟩ : ∃ A3, (if c = 1 then some (⟨ab, ao, none⟩ : Addr) else some ⟨ab, ao + 6, none⟩) = A3 := ⟨_, rfl⟩
    go_upto_region 3 with (go_at_call 49; (with_reducible refine (HE.out _ HBW.out).mono ?_); rintro e1 w1 ⟨rfl, q1', k1', hff, hE⟩; obtain ⟨c0', f1', hq7⟩ := HC7.out _ _ _ hE; obtain ⟨k3, k5⟩ := HCE.out _ HBQ.out _ _ _ hE; rw [HPA.out] at k5; have HA2 := Lib.hid (HAP.out _ HBQ.out _ _ hff _ hE); obtain ⟨z0, z1, z2, z3, z4, z5⟩ := cells6 hq7; have hbx : Below w1.heap.size w1 (w1.alloc (boxV z Az kz pz)) := (Below.refl _ _).alloc (Nat.le_refl _) _; obtain ⟨x0, x1, x2, x3, x4, x5⟩ := cells6 (heap_new (w := w1) (o := boxV z Az kz pz) rfl); have c0'' := cell_below hbx c0'; have f1'' := cell_below hbx f1'; have k3'' := cell_below hbx k3; have k5'' := cell_below hbx k5; have HBX := Lib.hid hbx; clear hE hff hbx hq7)
    clear c0 f0 f1 f2 y0 y1 y2 y3 y4 y5
    go_wp2_with fail
    go_loopw [12, 34] (fun _ i wr => i = .int .i64 0 ∧ wr.heap[w1.heap.size]? = some (boxV z Az kz pz) ∧ Below w1.heap.size w1 wr) (fun _ _ _ => 0)
    case atStart => exact ⟨rfl, heap_new (w := w1) (o := boxV z Az kz pz) rfl, (Below.refl _ _).alloc (Nat.le_refl _) _⟩
    case round =>
      obtain ⟨rfl, hq10, hbr⟩ := hrel
      clear x0 x1 x2 x3 x4 x5 c0'' f1'' k3'' k5''
      obtain ⟨x0, x1, x2, x3, x4, x5⟩ := cells6 hq10
      have c0'' := cell_below hbr c0'
      have f1'' := cell_below hbr f1'
      have k3'' := cell_below hbr k3
      have k5'' := cell_below hbr k5
      have HBR := Lib.hid hbr
      clear hq10 hbr HBX c0' f1' k3 k5
      go_upto_region 10 with fail
      go_still_tail 20, (by kernel_rfl)
      change wpList _ _ _ _ _ _
      go_wp2_with (go_at_call 44; (with_reducible refine (HA2.out _ (Below.drew HBR.out)).mono ?_); rintro e1 w2 ⟨rfl, hp⟩; have HP := Lib.hid hp; clear hp)
      all_goals
        go_returns
        with_reducible exact ⟨rfl, HP.out⟩
set_option maxRecDepth 100000 in
set_option maxHeartbeats 16000000 in
theorem chooseDT (h : Rep w0 B mb s w t i r v f nx nm rcs vcs fcs) (hW : Below w0.heap.size w0 w) (x : Frm) (hv : s.vals.length ≤ 100000000000) (hf : s.frames.length ≤ 100000000000) (fs : List Frm) (hx : s.frames = fs ++ [x]) (hbs : x.base ≤ s.vals.length) (eb eo : Nat) (u : Option Addr) (he : EN w0 w (Mv mb t r v f) x.e x.env eb eo (.pointer u)) (z : Val) (y : Val) (l : List Val) (T : Nat) (hT : 1 ≤ T) (hz0 : l[0]? = some z) (hy0 : l[T]? = some y) (hln : l.length = T + 1) (hTm : T ≤ 90000000000) (css : List (List Value)) (ab ao c : Nat) (hl : Vs w0 w (Mv mb t r v f) l (some ⟨ab, ao, none⟩) css) (hA : ab ≠ mb) (hs : z.sort = 5) (hy1 : y.sort = 1) (hne : ¬ y.n = z.n) (yx : Ex) (hyx : x.e.l[x.e.d.pn - 1]? = some yx) (hnn : ¬ T < x.e.d.nn) (ht : ¬ x.e.d.t = []) (hc : T + 1 ≤ c ∧ c ≤ maxLen) :
    Calls Tryz.prog 48 #[.agg #[.pointer (some ⟨mb, 0, none⟩)], .agg #[.pointer (some ⟨eb, eo, none⟩), .pointer u, .int .i64 x.base], .slice (some ⟨ab, ao, none⟩) (T + 1) c] w fun e1 w' => e1 = .returned (.tuple #[]) ∧ Post w0 B mb (Mv mb t r v f) w ({ s.ended fs x with next := some (yx, (x.e.d.t, .mk z.sort (restN z.n (l.drop 1) z.n) z.s z.l z.f) :: x.env) }) w' := by
  obtain ⟨A0, k0, rfl, _⟩ := own_cap h.vr
  obtain ⟨hq1, hq2, hb⟩ := two_boxes w (boxM mb) (boxF eb eo u x.base)
  obtain ⟨f0, f1, f2⟩ := cells3 hq2
  have hdd := (he.1.2.lower hW).lower hb
  obtain ⟨Az, kz, pz, hz, g0, g1, g2, g3, g4, g5⟩ := (hl.below hb).six 0 (z := z) hz0 ao (ao + 1) (ao + 2) (ao + 3) (ao + 4) (ao + 5) ⟨by omega, by omega, by omega, by omega, by omega, by omega⟩
  obtain ⟨Ay, ky, py, hy, d0, d1, d2, d3, d4, d5⟩ := (hl.below hb).six T (z := y) hy0 (ao + T * 6) (ao + T * 6 + 1) (ao + T * 6 + 2) (ao + T * 6 + 3) (ao + T * 6 + 4) (ao + T * 6 + 5) ⟨rfl, rfl, rfl, rfl, rfl, rfl⟩
  have HSK := Lib.hid (fun (V : World) (hb' : Below ((w.alloc (boxM mb)).alloc (boxF eb eo u x.base)).heap.size ((w.alloc (boxM mb)).alloc (boxF eb eo u x.base)) V) => (show V.cell? ⟨w.heap.size + 1, 0, none⟩ = some (.pointer (some ⟨eb, eo, none⟩)) ∧ V.cell? ⟨ab, ao, none⟩ = some (.int .i64 z.sort) ∧ V.cell? ⟨ab, ao + 1, none⟩ = some (.int .i64 z.n) ∧ V.cell? ⟨ab, ao + 2, none⟩ = some (.string (bstr z.s)) ∧ V.cell? ⟨ab, ao + 3, none⟩ = some (.slice none 0 0) ∧ V.cell? ⟨ab, ao + 4, none⟩ = some (.slice Az z.l.length kz) ∧ V.cell? ⟨ab, ao + 5, none⟩ = some (.pointer pz) ∧ V.cell? ⟨ab, ao + T * 6, none⟩ = some (.int .i64 y.sort) ∧ V.cell? ⟨ab, ao + T * 6 + 1, none⟩ = some (.int .i64 y.n) ∧ V.cell? ⟨ab, ao + T * 6 + 2, none⟩ = some (.string (bstr y.s)) ∧ V.cell? ⟨ab, ao + T * 6 + 3, none⟩ = some (.slice none 0 0) ∧ V.cell? ⟨ab, ao + T * 6 + 4, none⟩ = some (.slice Ay y.l.length ky) ∧ V.cell? ⟨ab, ao + T * 6 + 5, none⟩ = some (.pointer py) from ⟨cell_below hb' f0, cell_below hb' g0, cell_below hb' g1, cell_below hb' g2, cell_below hb' g3, cell_below hb' g4, cell_below hb' g5, cell_below hb' d0, cell_below hb' d1, cell_below hb' d2, cell_below hb' d3, cell_below hb' d4, cell_below hb' d5⟩))
  have HX1 := Lib.hid hq1
  have HX2 := Lib.hid hq2
  have HB := Lib.hid hb
  have HT1 := Lib.hid (two_new ((w.alloc (boxM mb)).alloc (boxF eb eo u x.base)) (w.heap.size + 2) (by rw [World.size_alloc, World.size_alloc]) (boxV z Az kz pz) (boxV y Ay ky py))
  have HT2 := Lib.hid (two_new ((w.alloc (boxM mb)).alloc (boxF eb eo u x.base)) (w.heap.size + 2) (by rw [World.size_alloc, World.size_alloc]) (boxV y Ay ky py) (boxV z Az kz pz))
  have HSO := Lib.hid hs
  have HY1 := Lib.hid hy1
  have HNE := Lib.hid hne
  have HDC := Lib.hid (fun (wr : World) (hb' : Below ((w.alloc (boxM mb)).alloc (boxF eb eo u x.base)).heap.size ((w.alloc (boxM mb)).alloc (boxF eb eo u x.base)) wr) => hdd.lower hb')
  obtain ⟨pb, po, hpA, hyI⟩ := ex_part he.1 hyx
  have hpn : x.e.d.pn - 1 < x.e.d.pn := by have := (List.getElem?_eq_some_iff.1 hyx).1; rw [he.1.1.len] at this; exact this
  have heb : eb ≠ mb := by have := he.1.2.blt; have := h.base; omega
  have HPN := Lib.hid (And.intro hpn (And.intro he.1.1.cap.2.1.2.2 (And.intro hnn he.1.1.cap.1.2.2)))
  have HPA := Lib.hid hpA
  have HTT := Lib.hid ht
  have HCC := Lib.hid hc
  have HCE := Lib.hid (fun (wr : World) (hb' : Below ((w.alloc (boxM mb)).alloc (boxF eb eo u x.base)).heap.size ((w.alloc (boxM mb)).alloc (boxF eb eo u x.base)) wr) (q1' k1' : Nat) (wr1 : World) (hE : Ended w0 wr B mb s t i r A0 k0 q1' k1' nx nm rcs vcs fcs fs x wr1) => And.intro (hE.cell heb (hdd.lower hb').c3) (hE.cell heb (hdd.lower hb').c5))
  have HMB := Lib.hid h.lt
  have HE := Lib.hid (fun (wr : World) (hb' : Below w.heap.size w wr) => end_any (h.below hb') fs x hx hf hbs hv)
  have HEL := Lib.hid (fun (wr : World) (hb' : Below ((w.alloc (boxM mb)).alloc (boxF eb eo u x.base)).heap.size ((w.alloc (boxM mb)).alloc (boxF eb eo u x.base)) wr) (q1' k1' : Nat) (wr1 : World) (hE : Ended w0 wr B mb s t i r A0 k0 q1' k1' nx nm rcs vcs fcs fs x wr1) (k : Nat) (hk : k < T) => (show ∃ (v : Val) (Av : Option Addr) (kv : Nat) (pv : Option Addr), (l.drop 1)[k]? = some v ∧ wr1.cell? ⟨ab, ao + 6 + k * 6, none⟩ = some (.int .i64 v.sort) ∧ wr1.cell? ⟨ab, ao + 6 + k * 6 + 1, none⟩ = some (.int .i64 v.n) ∧ wr1.cell? ⟨ab, ao + 6 + k * 6 + 2, none⟩ = some (.string (bstr v.s)) ∧ wr1.cell? ⟨ab, ao + 6 + k * 6 + 3, none⟩ = some (.slice none 0 0) ∧ wr1.cell? ⟨ab, ao + 6 + k * 6 + 4, none⟩ = some (.slice Av v.l.length kv) ∧ wr1.cell? ⟨ab, ao + 6 + k * 6 + 5, none⟩ = some (.pointer pv) from by
    have hlk : l[k + 1]? = some (l[k + 1]'(by omega)) := List.getElem?_eq_getElem (by omega)
    obtain ⟨Av, kv, pv, hvv, j0, j1, j2, j3, j4, j5⟩ := (hl.below hb).six (k + 1) hlk (ao + 6 + k * 6) (ao + 6 + k * 6 + 1) (ao + 6 + k * 6 + 2) (ao + 6 + k * 6 + 3) (ao + 6 + k * 6 + 4) (ao + 6 + k * 6 + 5) ⟨by omega, by omega, by omega, by omega, by omega, by omega⟩
    exact ⟨_, Av, kv, pv, by rw [List.getElem?_drop, Nat.add_comm]; exact hlk, hE.cell hA (cell_below hb' j0), hE.cell hA (cell_below hb' j1), hE.cell hA (cell_below hb' j2), hE.cell hA (cell_below hb' j3), hE.cell hA (cell_below hb' j4), hE.cell hA (cell_below hb' j5)⟩))
  have HLN := Lib.hid (show (l.drop 1).length = T by rw [List.length_drop, hln]; rfl)
  have HAP := Lib.hid (fun (wr : World) (hb' : Below ((w.alloc (boxM mb)).alloc (boxF eb eo u x.base)).heap.size ((w.alloc (boxM mb)).alloc (boxF eb eo u x.base)) wr) (q1' k1' : Nat) (hff : f = .slice (some ⟨q1', 0, none⟩) (fs.length + 1) k1') (wr1 : World) (hE : Ended w0 wr B mb s t i r A0 k0 q1' k1' nx nm rcs vcs fcs fs x wr1) (wr2 : World) (hdw : Below wr1.heap.size wr1 wr2) => (show Calls Tryz.prog 44 #[.pointer (some ⟨mb, 0, none⟩), .pointer (some ⟨pb, po + (x.e.d.pn - 1) * 6, none⟩), .pointer u, .string (bstr x.e.d.t), .agg #[.int .i64 z.sort, .int .i64 (restN z.n (l.drop 1) z.n), .string (bstr z.s), .slice none 0 0, .slice Az z.l.length kz, .pointer pz]] wr2 fun e1 w' => e1 = .returned (.tuple #[]) ∧ Post w0 B mb (Mv mb t r (.slice A0 s.vals.length k0) f) w ({ s.ended fs x with next := some (yx, (x.e.d.t, .mk z.sort (restN z.n (l.drop 1) z.n) z.s z.l z.f) :: x.env) }) w' from by
    subst hff
    have hbb := below_then hb hb'
    have hT1 : Tr w (Mv mb t r (.slice A0 s.vals.length k0) (.slice (some ⟨q1', 0, none⟩) (fs.length + 1) k1')) wr1 (Mv mb t r (.slice A0 x.base k0) (.slice (some ⟨q1', 0, none⟩) fs.length k1')) := (Tr.below (P := (Mv mb t r (.slice A0 s.vals.length k0) (.slice (some ⟨q1', 0, none⟩) (fs.length + 1) k1'))) hbb).trans hbb.size hE.tr
    have hB1 : Below B w wr1 := (hbb.mono (Nat.le_of_lt (Nat.lt_of_le_of_lt h.base.2 h.lt))).trans hE.below
    have heE : ER w0 wr2 (Mv mb t r (.slice A0 x.base k0) (.slice (some ⟨q1', 0, none⟩) fs.length k1')) x.env (.pointer u) := (he.2.keep hT1).keep (Tr.below hdw)
    have hzE := (((hz.reN (restN z.n (l.drop 1) z.n)).keep (Tr.below (P := (Mv mb t r (.slice A0 s.vals.length k0) (.slice (some ⟨q1', 0, none⟩) (fs.length + 1) k1'))) hb')).keep hE.tr).keep (Tr.below (P := (Mv mb t r (.slice A0 x.base k0) (.slice (some ⟨q1', 0, none⟩) fs.length k1'))) hdw)
    refine (bind_any (s := s.ended fs x) (hE.rep.below hdw) yx x.env pb (po + (x.e.d.pn - 1) * 6) u ⟨hyI, heE⟩ x.e.d.t _ _ _ _ _ _ _ hzE).mono ?_
    rintro e1 w' ⟨rfl, hp⟩
    exact ⟨rfl, Post.mono hT1 hB1 (hp.mono (Tr.below hdw) (hdw.mono (by have := hE.rep.lt; have := hE.rep.base.2; omega)))⟩))
  clear h hW he hl hA hq1 hq2 hb f0 f1 f2 hdd hz g0 g1 g2 g3 g4 g5 hy d0 d1 d2 d3 d4 d5 hz0 hy0 hln hv hf hx hbs hs hyx hnn ht hc hyI hpn hpA heb hy1 hne
  have t0 : (0 : Int) < (T : Int) := by omega
  have t1 : (T : Int) ≤ 90000000000 := by omega
  have t2 : (0 : Int) ≤ (T : Int) := by omega
  have t3 : IntKind.i64.wrap ((T : Int) + 1 - 1) = (T : Int) := by rw [IntKind.wrap_i64]; omega
  have t4 : (T : Int) < (T : Int) + 1 := by omega
  have t5 : IntKind.i64.wrap (T : Int) = (T : Int) := by rw [IntKind.wrap_i64]; omega
  clear hT hTm
  go_enter Tryz.func48, Tryz.ntmps48
  go_upto_region 1 with fail
  go_cut [6, 7, 8, 9] (fun u6 u7 u8 u9 wx => ∃ b7 b8 : Nat, u6 = .pointer (some ⟨eb, eo, none⟩) ∧ u7 = .pointer (some ⟨b7, 0, none⟩) ∧ u8 = .pointer (some ⟨b8, 0, none⟩) ∧ u9 = .int .i64 T ∧ w.heap.size + 1 < b7 ∧ w.heap.size + 1 < b8 ∧ wx.heap[b7]? = some (boxV z Az kz pz) ∧ wx.heap[b8]? = some (boxV y Ay ky py) ∧ Below ((w.alloc (boxM mb)).alloc (boxF eb eo u x.base)).heap.size ((w.alloc (boxM mb)).alloc (boxF eb eo u x.base)) wx)
  case first =>
    go_region_held3 (fun V => V.cell? ⟨w.heap.size + 1, 0, none⟩ = some (.pointer (some ⟨eb, eo, none⟩)) ∧ V.cell? ⟨ab, ao, none⟩ = some (.int .i64 z.sort) ∧ V.cell? ⟨ab, ao + 1, none⟩ = some (.int .i64 z.n) ∧ V.cell? ⟨ab, ao + 2, none⟩ = some (.string (bstr z.s)) ∧ V.cell? ⟨ab, ao + 3, none⟩ = some (.slice none 0 0) ∧ V.cell? ⟨ab, ao + 4, none⟩ = some (.slice Az z.l.length kz) ∧ V.cell? ⟨ab, ao + 5, none⟩ = some (.pointer pz) ∧ V.cell? ⟨ab, ao + T * 6, none⟩ = some (.int .i64 y.sort) ∧ V.cell? ⟨ab, ao + T * 6 + 1, none⟩ = some (.int .i64 y.n) ∧ V.cell? ⟨ab, ao + T * 6 + 2, none⟩ = some (.string (bstr y.s)) ∧ V.cell? ⟨ab, ao + T * 6 + 3, none⟩ = some (.slice none 0 0) ∧ V.cell? ⟨ab, ao + T * 6 + 4, none⟩ = some (.slice Ay y.l.length ky) ∧ V.cell? ⟨ab, ao + T * 6 + 5, none⟩ = some (.pointer py))
      (with_reducible exact HSK.out _ (by go_grown))
      (first | fail)
    all_goals
      clear HSK
      go_wp2_with fail
      go_meet
      first
        | exact ⟨w.heap.size + 2, w.heap.size + 3, rfl, rfl, rfl, rfl, by omega, by omega, HT1.out⟩
        | exact ⟨w.heap.size + 3, w.heap.size + 2, rfl, rfl, rfl, rfl, by omega, by omega, HT2.out.2.1, HT2.out.1, HT2.out.2.2⟩
  case rest =>
    obtain ⟨b7, b8, rfl, rfl, rfl, rfl, hb7, hb8, hq7, hq8, hbq⟩ := hcut
    clear HT1 HT2 HSK
    obtain ⟨z0, z1, z2, z3, z4, z5⟩ := cells6 hq7
    obtain ⟨y0, y1, y2, y3, y4, y5⟩ := cells6 hq8
    have c0 : wc.cell? ⟨w.heap.size, 0, none⟩ = some (.pointer (some ⟨mb, 0, none⟩)) := (by rw [Lib.cell_of_heap ((hbq.block _ (lt_of_heap HX1.out)).trans HX1.out)]; rfl)
    obtain ⟨f0, f1, f2⟩ := cells3 ((hbq.block _ (lt_of_heap HX2.out)).trans HX2.out)
    rw [HSO.out] at z0
    rw [HY1.out] at y0
    have yn : (y.n == z.n) = false := by simpa using HNE.out
    have hdx := HDC.out _ hbq
    have k3 := hdx.c3
    have k4 := hdx.c4
    have k5 := hdx.c5
    clear hdx
    have tn : ((bstr x.e.d.t).toList == []) = false := by rw [bstr_toList]; simpa using HTT.out
    have m1 : ¬ ((T : Int) < (x.e.d.nn : Int)) := by have := HPN.out.2.2.1; omega
    have m1b : decide ((T : Int) < (x.e.d.nn : Int)) = false := decide_eq_false m1
    have m2 : (x.e.d.pn : Int) ≤ 4000000 := by have := HPN.out.2.1; omega
    obtain ⟨N, hN⟩ : ∃ N : Nat, x.e.d.pn - 1 = N := ⟨_, rfl⟩
    have m6 : IntKind.i64.wrap ((x.e.d.pn : Int) - 1) = (N : Int) := by rw [IntKind.wrap_i64]; have := HPN.out.1; omega
    have m7 : (0 : Int) ≤ (N : Int) := by omega
    have m8 : (N : Int) < (x.e.d.pn : Int) := by have := HPN.out.1; omega
    rw [hN] at HAP
    have hc1 : (T : Int) + 1 ≤ (c : Int) := by have := HCC.out.1; omega
    have hc2 : (1 : Int) ≤ (c : Int) := by have := HCC.out.1; omega
    have hc3 : ¬ c = 1 := by have := HCC.out.1; omega
    have hc4 : (1 : Int) ≤ (T : Int) + 1 := by omega
    have hbw := below_then HB.out hbq
    have HBQ := Lib.hid hbq
    have HBW := Lib.hid hbw
    have HC7 := Lib.hid (fun (q1' k1' : Nat) (wr1 : World) (hE : Ended w0 wc B mb s t i r A0 k0 q1' k1' nx nm rcs vcs fcs fs x wr1) => And.intro (hE.cell (Nat.ne_of_gt HMB.out) c0) (And.intro (hE.cell (Nat.ne_of_gt (Nat.lt_succ_of_lt HMB.out)) f1) ((hE.kept b7 (show b7 ≠ mb by have := HMB.out; omega)).trans hq7)))
    clear hq7 hq8 hbq hb7 hb8 hbw hN
    go_upto_region 3 with (go_at_call 49; (with_reducible refine (HE.out _ HBW.out).mono ?_); rintro e1 w1 ⟨rfl, q1', k1', hff, hE⟩; obtain ⟨c0', f1', hq7⟩ := HC7.out _ _ _ hE; obtain ⟨k3, k5⟩ := HCE.out _ HBQ.out _ _ _ hE; rw [HPA.out] at k5; have HA2 := Lib.hid (HAP.out _ HBQ.out _ _ hff _ hE); obtain ⟨z0, z1, z2, z3, z4, z5⟩ := cells6 hq7; have HELW := Lib.hid (fun k hk => HEL.out _ HBQ.out _ _ _ hE k hk); have HQ7 := Lib.hid hq7; have HW1 := Lib.hid (And.intro c0' (And.intro f1' (And.intro k3 k5))); clear hE hff hq7)
    clear c0 f0 f1 f2 y0 y1 y2 y3 y4 y5 HEL HE HC7 HCE HAP
    go_upto_region 4 with fail
    clear z0 z1 z2 z3 z4 z5 c0' f1' k3 k5
    go_wp2_with fail
    go_loopw [12, 34] (fun _ i wr => ∃ k : Nat, i = .int .i64 k ∧ k ≤ T ∧ wr.heap[w1.heap.size]? = some (.cells #[.int .i64 z.sort, .int .i64 (restN z.n ((l.drop 1).take k) z.n), .string (bstr z.s), .slice none 0 0, .slice Az z.l.length kz, .pointer pz] 60) ∧ Below w1.heap.size w1 wr) (fun _ i _ => T - (intOf i).toNat)
    case atStart => exact ⟨0, rfl, by omega, heap_new (w := w1) (o := boxV z Az kz pz) rfl, (Below.refl _ _).alloc (Nat.le_refl _) _⟩
    case round =>
      obtain ⟨k, rfl, hk, hq10, hbr⟩ := hrel
      obtain ⟨x0, x1, x2, x3, x4, x5⟩ := cells6 hq10
      by_cases hlt : k < T
      · obtain ⟨v, Av, kv, pv, hvk, j0, j1, j2, j3, j4, j5⟩ := HELW.out k hlt
        replace j0 := cell_below hbr j0
        replace j1 := cell_below hbr j1
        replace j2 := cell_below hbr j2
        replace j3 := cell_below hbr j3
        replace j4 := cell_below hbr j4
        replace j5 := cell_below hbr j5
        have h7r := (hbr.block _ (lt_of_heap HQ7.out)).trans HQ7.out
        have z1 := (cells6 h7r).2.1
        have hst : restN z.n ((l.drop 1).take (k + 1)) z.n = if v.n < z.n then wrap64 (restN z.n ((l.drop 1).take k) z.n - 1) else restN z.n ((l.drop 1).take k) z.n := by
          rw [List.take_add_one, hvk]
          exact restN_snoc _ _ _ _
        obtain ⟨R, hR⟩ : ∃ R, restN z.n ((l.drop 1).take k) z.n = R := ⟨_, rfl⟩
        rw [hR] at hst hq10 x1
        have hbv : Below wr.heap.size wr (wr.alloc (boxV v Av kv pv)) := (Below.refl _ _).alloc (Nat.le_refl _) _
        have hq10' := (hbv.block _ (lt_of_heap hq10)).trans hq10
        obtain ⟨x0', x1', x2', x3', x4', x5'⟩ := cells6 hq10'
        have xz := frozenN hq10' 1
        have z1' := cell_below hbv z1
        have HST := Lib.hid hst
        have HBV := Lib.hid (below_then hbr hbv)
        have HQ := Lib.hid hq10'
        have HKN := Lib.hid hk
        have i0 : (0 : Int) ≤ (k : Int) := by omega
        have i1 : (k : Int) < (T : Int) := by omega
        have i2 : IntKind.i64.wrap (R - 1) = wrap64 (R - 1) := IntWalk.i64_left _
        clear hst hbv hq10 hq10' hbr hvk h7r hR hk
        by_cases hvz : v.n < z.n
        · have i3 : decide (v.n < z.n) = true := decide_eq_true hvz
          have HS := Lib.hid (HST.out.trans (if_pos hvz))
          clear HST
          go_wp2_with fail
          go_roundw
          case rel => exact ⟨k + 1, by go_num, by omega, by rw [HS.out]; exact set_cells HQ.out 1 _, HBV.out.setCell (p := ⟨w1.heap.size, 1, none⟩) (Nat.le_refl _) _⟩
          case measure => simp [intOf] <;> omega
        · have i3 : decide (v.n < z.n) = false := decide_eq_false hvz
          have HS := Lib.hid (HST.out.trans (if_neg hvz))
          clear HST
          go_wp2_with fail
          go_roundw
          case rel => exact ⟨k + 1, by go_num, by omega, by rw [HS.out]; exact HQ.out, HBV.out⟩
          case measure => simp [intOf] <;> omega
      · have hkk : k = T := by omega
        subst hkk
        rw [List.take_of_length_le (Nat.le_of_eq HLN.out)] at x1
        have c0'' := cell_below hbr HW1.out.1
        have f1'' := cell_below hbr HW1.out.2.1
        have k3'' := cell_below hbr HW1.out.2.2.1
        have k5'' := cell_below hbr HW1.out.2.2.2
        obtain ⟨R, hR⟩ : ∃ R, restN z.n (l.drop 1) z.n = R := ⟨_, rfl⟩
        rw [hR] at x1 HA2
        have HBR := Lib.hid hbr
        have HRR := Lib.hid hR
        clear hq10 hbr hk hlt hR
        go_upto_region 10 with fail
        go_still_tail 20, (by kernel_rfl)
        change wpList _ _ _ _ _ _
        go_wp2_with (go_at_call 44; (with_reducible refine (HA2.out _ (Below.drew HBR.out)).mono ?_); rintro e1 w2 ⟨rfl, hp⟩; have HP := Lib.hid hp; clear hp)
        all_goals
          go_returns
          have HP2 := HP.out
          rw [← HRR.out] at HP2
          with_reducible exact ⟨rfl, HP2⟩
end
def St.choose (s : St) (fs : List Frm) (x : Frm) : List Val → St
  | [] => s
  | z :: ts =>
    if ¬ z.sort = 5 ∨ (1 ≤ ts.length ∧ ¬ (((z :: ts)[ts.length]?).getD z).sort = 1) then { s with err := 11 }
    else if 1 ≤ ts.length ∧ (((z :: ts)[ts.length]?).getD z).n = z.n then
      (match x.e.l[2 * ts.length]?, x.e.d.names[ts.length - 1]?, z.l with
        | some yx, some nme, [p] => { s.ended fs x with next := some (yx, (nme, p) :: x.env) }
        | _, _, _ => s)
    else if ts.length < x.e.d.nn then (match x.e.l[2 * ts.length + 1]? with
        | some yx => { s with next := some (yx, x.env) }
        | none => s)
    else if x.e.d.t = [] then { s with err := 11 }
    else (match x.e.l[x.e.d.pn - 1]? with
        | some yx => { s.ended fs x with next := some (yx, (x.e.d.t, .mk z.sort (restN z.n ts z.n) z.s z.l z.f) :: x.env) }
        | none => s)
theorem get_some {α : Type} {l : List α} {k : Nat} (h : k < l.length) : ∃ y, l[k]? = some y := ⟨_, List.getElem?_eq_getElem h⟩
section
variable {w0 w : World} {B mb : Nat} {s : St} {t i r v f nx nm : Value} {rcs vcs fcs : List (List Value)}
theorem choose_any (h : Rep w0 B mb s w t i r v f nx nm rcs vcs fcs) (hW : Below w0.heap.size w0 w) (hv : s.vals.length ≤ 90000000000) (hf : s.frames.length ≤ 100000000000) (fs : List Frm) (x : Frm) (hx : s.frames = fs ++ [x]) (hbs : x.base ≤ s.vals.length) (hk : partsOk x.e.d = true) (hkd : x.e.d.kind = 14) (eb eo : Nat) (u : Option Addr) (he : EN w0 w (Mv mb t r v f) x.e x.env eb eo (.pointer u)) (l : List Val) (css : List (List Value)) (ab ao c : Nat) (hl : Vs w0 w (Mv mb t r v f) l (some ⟨ab, ao, none⟩) css) (hA : ab ≠ mb) (hc : l.length ≤ c ∧ c ≤ maxLen) (hl0 : 0 < l.length) (hl1 : l.length ≤ x.e.d.nn + 1) (hlv : l.length ≤ s.vals.length) (h5 : ∀ z ∈ l, z.sort = 5 → z.l.length = 1) :
    Calls Tryz.prog 48 #[.agg #[.pointer (some ⟨mb, 0, none⟩)], .agg #[.pointer (some ⟨eb, eo, none⟩), .pointer u, .int .i64 x.base], .slice (some ⟨ab, ao, none⟩) l.length c] w fun e1 w' => e1 = .returned (.tuple #[]) ∧ Post w0 B mb (Mv mb t r v f) w (s.choose fs x l) w' := by
  have hpn := partsC hk hkd
  have hll := he.1.1.len
  have hnl := he.1.1.namLen
  have hv' : s.vals.length ≤ 100000000000 := by omega
  cases l with
  | nil => exact absurd hl0 (Nat.lt_irrefl 0)
  | cons z ts =>
    cases ts with
    | nil =>
      have e0 : s.choose fs x [z] = if ¬ z.sort = 5 then { s with err := 11 } else if 0 < x.e.d.nn then (match x.e.l[1]? with
          | some yx => { s with next := some (yx, x.env) }
          | none => s) else if x.e.d.t = [] then { s with err := 11 } else (match x.e.l[x.e.d.pn - 1]? with
          | some yx => { s.ended fs x with next := some (yx, (x.e.d.t, .mk z.sort z.n z.s z.l z.f) :: x.env) }
          | none => s) := by
        by_cases q : z.sort = 5
        · simp [St.choose, q, restN]
        · simp [St.choose, q]
      rw [e0]
      by_cases hs : z.sort = 5
      · rw [if_neg (fun q => q hs)]
        by_cases hnn : 0 < x.e.d.nn
        · obtain ⟨yx, hyx⟩ := get_some (l := x.e.l) (k := 1) (by omega)
          rw [if_pos hnn, hyx]
          exact chooseN0 h hW x eb eo u he z css ab ao c hl hA hs yx hyx hnn
        · rw [if_neg hnn]
          by_cases ht : x.e.d.t = []
          · rw [if_pos ht]
            exact chooseE0 h hW x eb eo u he z css ab ao c hl hA hs hnn ht
          · obtain ⟨yx, hyx⟩ := get_some (l := x.e.l) (k := x.e.d.pn - 1) (by omega)
            rw [if_neg ht, hyx]
            exact chooseD0 h hW x hv' hf fs hx hbs eb eo u he z css ab ao c hl hA hs yx hyx hnn ht hc
      · rw [if_pos hs]
        exact chooseA0 h hW x eb eo u he z css ab ao c hl hA hs
    | cons a ts =>
      obtain ⟨T, hT⟩ : ∃ T, (a :: ts).length = T := ⟨_, rfl⟩
      have hT1 : 1 ≤ T := by rw [← hT, List.length_cons]; omega
      have hln : (z :: a :: ts).length = T + 1 := by rw [List.length_cons, hT]
      obtain ⟨y, hy0⟩ := get_some (l := z :: a :: ts) (k := T) (by omega)
      have hTm : T ≤ 90000000000 := by omega
      have hym : y ∈ z :: a :: ts := List.mem_of_getElem? hy0
      have e0 : s.choose fs x (z :: a :: ts) = if ¬ z.sort = 5 ∨ (1 ≤ T ∧ ¬ y.sort = 1) then { s with err := 11 }
          else if 1 ≤ T ∧ y.n = z.n then
            (match x.e.l[2 * T]?, x.e.d.names[T - 1]?, z.l with
              | some yx, some nme, [p] => { s.ended fs x with next := some (yx, (nme, p) :: x.env) }
              | _, _, _ => s)
          else if T < x.e.d.nn then (match x.e.l[2 * T + 1]? with
              | some yx => { s with next := some (yx, x.env) }
              | none => s)
          else if x.e.d.t = [] then { s with err := 11 }
          else (match x.e.l[x.e.d.pn - 1]? with
              | some yx => { s.ended fs x with next := some (yx, (x.e.d.t, .mk z.sort (restN z.n ((z :: a :: ts).drop 1) z.n) z.s z.l z.f) :: x.env) }
              | none => s) := by
        have q : s.choose fs x (z :: a :: ts) = _ := St.choose.eq_2 s fs x z (a :: ts)
        rw [q, hT, hy0, Option.getD_some]
        rfl
      rw [e0]
      clear e0
      have hln' : (z :: a :: ts).length = T + 1 := hln
      obtain ⟨l, hll2⟩ : ∃ l, z :: a :: ts = l := ⟨_, rfl⟩
      have hz0 : l[0]? = some z := by rw [← hll2]; rfl
      have hzm : z ∈ l := by rw [← hll2]; exact List.mem_cons_self ..
      rw [hll2] at hl hc hl1 hlv h5 hln hy0 hym ⊢
      rw [hln] at hc hl1 ⊢
      by_cases hs : z.sort = 5
      · by_cases hy1 : y.sort = 1
        · rw [if_neg (by rintro (q | q); exact q hs; exact q.2 hy1)]
          by_cases heq : y.n = z.n
          · rw [if_pos ⟨hT1, heq⟩]
            obtain ⟨yx, hyx⟩ := get_some (l := x.e.l) (k := 2 * T) (by split at hpn <;> omega)
            obtain ⟨nme, hnm⟩ := get_some (l := x.e.d.names) (k := T - 1) (by omega)
            obtain ⟨p, hp⟩ := len1 (h5 z hzm hs)
            rw [hyx, hnm, hp]
            exact chooseH h hW x hv' hf fs hx hbs eb eo u he z y l T hT1 hz0 hy0 hln hTm css ab ao c hl hA hs hy1 heq p hp yx hyx nme hnm
          · rw [if_neg (fun q => heq q.2)]
            by_cases hnn : T < x.e.d.nn
            · obtain ⟨yx, hyx⟩ := get_some (l := x.e.l) (k := 2 * T + 1) (by split at hpn <;> omega)
              rw [if_pos hnn, hyx]
              exact chooseNT h hW x eb eo u he z y l T hT1 hz0 hy0 hln hTm css ab ao c hl hA hs hy1 heq yx hyx hnn
            · rw [if_neg hnn]
              by_cases ht : x.e.d.t = []
              · rw [if_pos ht]
                exact chooseET h hW x eb eo u he z y l T hT1 hz0 hy0 hln hTm css ab ao c hl hA hs hy1 heq hnn ht
              · obtain ⟨yx, hyx⟩ := get_some (l := x.e.l) (k := x.e.d.pn - 1) (by omega)
                rw [if_neg ht, hyx]
                exact chooseDT h hW x hv' hf fs hx hbs eb eo u he z y l T hT1 hz0 hy0 hln hTm css ab ao c hl hA hs hy1 heq yx hyx hnn ht hc
        · rw [if_pos (.inr ⟨hT1, hy1⟩)]
          exact chooseBT h hW x eb eo u he z y l T hT1 hz0 hy0 hln hTm css ab ao c hl hA hs hy1
      · rw [if_pos (.inl hs)]
        exact chooseAT h hW x eb eo u he z y l T hT1 hz0 hy0 hln hTm css ab ao c hl hA hs
end
end Go.Proofs.YtpdfjdomjklkbaaGreatDoor

namespace Go.Proofs.YtpdfjdomjklkbaaGreatDoor
open Go.ChangeShapes Go.WideShapes Go.ChangeAt Go.RowKit Go.Sort
set_option linter.unusedVariables false
set_option linter.unusedSimpArgs false

section
variable {w0 w : World} {B mb : Nat} {s : St} {t i r v f nx nm : Value} {rcs vcs fcs : List (List Value)}
set_option maxRecDepth 100000 in
set_option maxHeartbeats 8000000 in
theorem goChoose_any (h : Rep w0 B mb s w t i r v f nx nm rcs vcs fcs) (hW : Below w0.heap.size w0 w) (hv : s.vals.length ≤ 90000000000) (hf : s.frames.length ≤ 100000000000) (fs : List Frm) (x : Frm) (hx : s.frames = fs ++ [x]) (hbs : x.base ≤ s.vals.length) (hk : partsOk x.e.d = true) (hkd : x.e.d.kind = 14) (eb eo : Nat) (u : Option Addr) (he : EN w0 w (Mv mb t r v f) x.e x.env eb eo (.pointer u)) (l : List Val) (css : List (List Value)) (ab ao c : Nat) (hl : Vs w0 w (Mv mb t r v f) l (some ⟨ab, ao, none⟩) css) (hA : ab ≠ mb) (hc : l.length ≤ c ∧ c ≤ maxLen) (hl0 : 0 < l.length) (hl1 : l.length ≤ x.e.d.nn + 1) (hlv : l.length ≤ s.vals.length) (h5 : ∀ z ∈ l, z.sort = 5 → z.l.length = 1) :
    Calls Tryz.prog 28 #[.agg #[.pointer (some ⟨mb, 0, none⟩)], .agg #[.pointer (some ⟨eb, eo, none⟩), .pointer u, .int .i64 x.base], .slice (some ⟨ab, ao, none⟩) l.length c] w fun e1 w' => e1 = .returned (.tuple #[]) ∧ Post w0 B mb (Mv mb t r v f) w (s.choose fs x l) w' := by
  obtain ⟨hq1, hq2, hb⟩ := two_boxes w (boxM mb) (boxF eb eo u x.base)
  obtain ⟨f0, f1, f2⟩ := cells3 hq2
  have c0 : ((w.alloc (boxM mb)).alloc (boxF eb eo u x.base)).cell? ⟨w.heap.size, 0, none⟩ = some (.pointer (some ⟨mb, 0, none⟩)) := (by rw [Lib.cell_of_heap hq1]; rfl)
  have hdd := (he.1.2.lower hW).lower hb
  have kd := hdd.c0
  rw [hkd] at kd
  have hbB := hb.mono (Nat.le_of_lt (Nat.lt_of_le_of_lt h.base.2 h.lt))
  have HC := Lib.hid (choose_any (h.below hb) (below_w0 hW h.base.1 hbB) hv hf fs x hx hbs hk hkd eb eo u ⟨he.1, he.2.keep (Tr.below hb)⟩ l css ab ao c (hl.below hb) hA hc hl0 hl1 hlv h5)
  have HT := Lib.hid (And.intro (Tr.below (P := Mv mb t r v f) hb) hbB)
  have n1 : (0 : Int) < (l.length : Int) := by omega
  obtain ⟨G, hG⟩ : ∃ G, l.length = G := ⟨_, rfl⟩
  rw [hG] at HC n1 ⊢
  clear h hW hv hf hx hbs hk hkd he hl hA hc hl0 hl1 hlv h5 hq1 hq2 hb hbB hdd hG
  go_enter Tryz.func28, Tryz.ntmps28
  go_wp2_with (go_at_call 48; (with_reducible refine HC.out.mono ?_); rintro e1 w2 ⟨rfl, hp⟩; have HP := Lib.hid hp; clear hp)
  go_returns
  with_reducible exact ⟨rfl, HP.out.mono HT.out.1 HT.out.2⟩
/-- What may wait for its parts. -/
structure GoodF (x : Frm) : Prop where
  parts : partsOk x.e.d = true
  kind : ¬ (x.e.d.kind = 1 ∨ x.e.d.kind = 2 ∨ x.e.d.kind = 3 ∨ x.e.d.kind = 4 ∨ x.e.d.kind = 7 ∨ x.e.d.kind = 22)
/-- How many values an expression waits for. -/
def limOf (d : ExD) : Nat := if d.kind = 6 ∨ d.kind = 15 then 1 else if d.kind = 14 then d.nn + 1 else d.pn
def St.goOn (s : St) (fs : List Frm) (x : Frm) (l : List Val) : St :=
  if x.e.d.kind = 14 ∧ 0 < l.length then s.choose fs x l
  else if x.e.d.kind = 6 ∧ l.length = 1 then (match x.e.l[1]?, l with
    | some y1, [z] => { s.ended fs x with next := some (y1, (x.e.d.s, z) :: x.env) }
    | _, _ => s)
  else if x.e.d.kind = 15 ∧ l.length = 1 then (match x.e.l[1]?, x.e.l[2]?, l with
    | some y1, some y2, [z] => (s.ended fs x).ifd z y1 y2 x.env
    | _, _, _ => s)
  else (match x.e.l[l.length]? with
    | some y => { s with next := some (y, x.env) }
    | none => (s.ended fs x).apply x.e.d l)
theorem goOn_any (h : Rep w0 B mb s w t i r v f nx nm rcs vcs fcs) (hW : Below w0.heap.size w0 w) (hT : Tab w0) (hv : s.vals.length ≤ 90000000000) (hr : s.refs.length ≤ 90000000000) (ht : s.trace.length ≤ 90000000000) (hf : s.frames.length ≤ 90000000000)
    (fs : List Frm) (x : Frm) (hx : s.frames = fs ++ [x]) (hbs : x.base ≤ s.vals.length) (hgf : GoodF x) (eb eo : Nat) (u : Option Addr) (he : EN w0 w (Mv mb t r v f) x.e x.env eb eo (.pointer u)) (l : List Val) (A : Option Addr) (css : List (List Value)) (c : Nat) (hl : Vs w0 w (Mv mb t r v f) l A css) (hA : 0 < l.length → ∀ a, A = some a → a.block ≠ mb) (hc : l.length ≤ c ∧ c ≤ maxLen) (hn : l.length ≤ limOf x.e.d) (hlv : l.length ≤ s.vals.length) (hg : ∀ z ∈ l, GoodV s z) (h5 : ∀ z ∈ l, z.sort = 5 → z.l.length = 1) :
    Calls Tryz.prog 28 #[.agg #[.pointer (some ⟨mb, 0, none⟩)], .agg #[.pointer (some ⟨eb, eo, none⟩), .pointer u, .int .i64 x.base], .slice A l.length c] w fun e1 w' => e1 = .returned (.tuple #[]) ∧ Post w0 B mb (Mv mb t r v f) w (s.goOn fs x l) w' := by
  have hll := he.1.1.len
  have hv' : s.vals.length ≤ 100000000000 := by omega
  have hf' : s.frames.length ≤ 100000000000 := by omega
  have hkind := hgf.kind
  by_cases k14 : x.e.d.kind = 14
  · have hpn := partsC hgf.parts k14
    have hlim : limOf x.e.d = x.e.d.nn + 1 := by unfold limOf; rw [if_neg (by omega), if_pos k14]
    rw [hlim] at hn
    rcases Nat.eq_zero_or_pos l.length with h0 | h0
    · have e0 : s.goOn fs x l = (match x.e.l[0]? with
          | some y => { s with next := some (y, x.env) }
          | none => (s.ended fs x).apply x.e.d l) := by
        unfold St.goOn
        rw [if_neg (by omega), if_neg (by omega), if_neg (by omega), h0]
      obtain ⟨y, hy⟩ := get_some (l := x.e.l) (k := 0) (by omega)
      rw [e0, hy, h0]
      exact goNext14 h hW x eb eo u he A c y hy k14
    · rw [show s.goOn fs x l = s.choose fs x l from if_pos ⟨k14, h0⟩]
      obtain ⟨ab, ao, rfl⟩ := hl.addr h0
      exact goChoose_any h hW hv hf' fs x hx hbs hgf.parts k14 eb eo u he l css ab ao c hl (hA h0 _ rfl) hc h0 hn hlv h5
  by_cases k6 : x.e.d.kind = 6
  · have hpn := parts2 hgf.parts (.inr (.inl k6))
    have hlim : limOf x.e.d = 1 := by unfold limOf; rw [if_pos (.inl k6)]
    rw [hlim] at hn
    rcases Nat.eq_zero_or_pos l.length with h0 | h0
    · have e0 : s.goOn fs x l = (match x.e.l[0]? with
          | some y => { s with next := some (y, x.env) }
          | none => (s.ended fs x).apply x.e.d l) := by
        unfold St.goOn
        rw [if_neg (by omega), if_neg (by omega), if_neg (by omega), h0]
      obtain ⟨y, hy⟩ := get_some (l := x.e.l) (k := 0) (by omega)
      rw [e0, hy, h0]
      exact goNext6 h hW x eb eo u he A c y hy k6
    · obtain ⟨ab, ao, rfl⟩ := hl.addr h0
      have hA' := hA h0 _ rfl
      obtain ⟨z, rfl⟩ := len1 (show l.length = 1 by omega)
      obtain ⟨y, hy⟩ := get_some (l := x.e.l) (k := 1) (by omega)
      have e0 : s.goOn fs x [z] = { s.ended fs x with next := some (y, (x.e.d.s, z) :: x.env) } := by
        unfold St.goOn
        rw [if_neg (by omega), if_pos ⟨k6, rfl⟩, hy]
      rw [e0]
      exact goLet_any h hW hv' hf' fs x hx hbs eb eo u he z css ab ao c hl hA' y hy k6
  by_cases k15 : x.e.d.kind = 15
  · have hpn := parts3 hgf.parts (.inr (.inr k15))
    have hlim : limOf x.e.d = 1 := by unfold limOf; rw [if_pos (.inr k15)]
    rw [hlim] at hn
    rcases Nat.eq_zero_or_pos l.length with h0 | h0
    · have e0 : s.goOn fs x l = (match x.e.l[0]? with
          | some y => { s with next := some (y, x.env) }
          | none => (s.ended fs x).apply x.e.d l) := by
        unfold St.goOn
        rw [if_neg (by omega), if_neg (by omega), if_neg (by omega), h0]
      obtain ⟨y, hy⟩ := get_some (l := x.e.l) (k := 0) (by omega)
      rw [e0, hy, h0]
      exact goNext15 h hW x eb eo u he A c y hy k15
    · obtain ⟨ab, ao, rfl⟩ := hl.addr h0
      have hA' := hA h0 _ rfl
      obtain ⟨z, rfl⟩ := len1 (show l.length = 1 by omega)
      obtain ⟨y, hy⟩ := get_some (l := x.e.l) (k := 1) (by omega)
      obtain ⟨y2, hy2⟩ := get_some (l := x.e.l) (k := 2) (by omega)
      have e0 : s.goOn fs x [z] = (s.ended fs x).ifd z y y2 x.env := by
        unfold St.goOn
        rw [if_neg (by omega), if_neg (by omega), if_pos ⟨k15, rfl⟩, hy, hy2]
      rw [e0]
      exact goIf_any h hW hv' hf' fs x hx hbs eb eo u he z css ab ao c hl hA' y hy y2 hy2 k15
  have hlim : limOf x.e.d = x.e.d.pn := by unfold limOf; rw [if_neg (by omega), if_neg k14]
  rw [hlim] at hn
  have e0 : s.goOn fs x l = (match x.e.l[l.length]? with
      | some y => { s with next := some (y, x.env) }
      | none => (s.ended fs x).apply x.e.d l) := by
    unfold St.goOn
    rw [if_neg (by omega), if_neg (by omega), if_neg (by omega)]
  rw [e0]
  by_cases hlt : l.length < x.e.d.pn
  · obtain ⟨y, hy⟩ := get_some (l := x.e.l) (k := l.length) (by omega)
    rw [hy]
    exact goNextA h hW x eb eo u he l A c y hy (by omega)
  · rw [List.getElem?_eq_none (by omega)]
    exact goApply_any h hW hT hv' (by omega) (by omega) hf' fs x hx hbs hgf.parts eb eo u he l A css c hl hA (by omega) hc hg (by omega)
end
end Go.Proofs.YtpdfjdomjklkbaaGreatDoor

namespace Go.Proofs.YtpdfjdomjklkbaaGreatDoor
open Go.ChangeShapes Go.WideShapes Go.ChangeAt Go.RowKit Go.Sort
set_option linter.unusedVariables false
set_option linter.unusedSimpArgs false

def St.done (s : St) : Prop := s.err ≠ 0 ∨ (s.next = none ∧ s.frames = [])
def St.step (s : St) : St :=
  if s.err ≠ 0 then s else
  match s.next with
  | some (e, env) => if s.fuel ≤ 0 then { s with err := 8 } else St.begin { s with fuel := s.fuel - 1, next := none } e env
  | none => match s.frames.reverse with
    | [] => s
    | x :: fr => s.goOn fr.reverse x (s.vals.drop x.base)
/-- Expressions as they come. -/
inductive ExG : Ex → Prop
  | mk (d : ExD) (l : List Ex) (n : -9223372036854775808 ≤ d.n ∧ d.n ≤ 9223372036854775807) (s : d.s.length ≤ 4000000) (pl : l.length = d.pn) (pm : d.pn ≤ 4000000) (nl : d.names.length = d.nn) (sub : ∀ x ∈ l, ExG x) : ExG (.mk d l)
theorem ExG.sub_ {e : Ex} (h : ExG e) : ∀ x ∈ e.l, ExG x := by cases h; assumption
theorem ExG.get {e x : Ex} {k : Nat} (h : ExG e) (hk : e.l[k]? = some x) : ExG x := h.sub_ x (List.mem_of_getElem? hk)
theorem ExG.len {e : Ex} (h : ExG e) : e.l.length = e.d.pn := by cases h; assumption
theorem ExG.pm_ {e : Ex} (h : ExG e) : e.d.pn ≤ 4000000 := by cases h; assumption
theorem ExG.nam {e : Ex} (h : ExG e) : e.d.names.length = e.d.nn := by cases h; assumption
theorem ExG.num {e : Ex} (h : ExG e) : -9223372036854775808 ≤ e.d.n ∧ e.d.n ≤ 9223372036854775807 := by cases h; assumption
theorem ExG.txt {e : Ex} (h : ExG e) : e.d.s.length ≤ 4000000 := by cases h; assumption
/-- Values as they run: R references, no row longer than A, no deeper than the number. -/
inductive VG (R A : Nat) : Nat → Val → Prop
  | mk (D : Nat) (sort n : Int) (s : Str) (l : List Val) (f : Option Fnc) (h0 : 1 ≤ sort ∧ sort ≤ 6) (h3 : sort = 3 → f ≠ none) (h5 : sort = 5 → l.length = 1) (h6 : sort = 6 → ∃ k : Nat, n = k ∧ k < R) (hs : s.length ≤ 4000000) (hn : -9223372036854775808 ≤ n ∧ n ≤ 9223372036854775807) (hl : l.length ≤ A)
      (sub : ∀ v ∈ l, VG R A D v) (fe : ∀ self isRec a part env, f = some (.mk self isRec a part env) → ExG part) (fn : ∀ self isRec a part env, f = some (.mk self isRec a part env) → ∀ p ∈ env, VG R A (D + 1) p.2) : VG R A (D + 1) (.mk sort n s l f)
theorem VG.mono {R A R' A' : Nat} (hR : R ≤ R') (hA : A ≤ A') {D : Nat} {z : Val} (h : VG R A D z) : ∀ D', D ≤ D' → VG R' A' D' z := by
  induction h with
  | mk D sort n s l f h0 h3 h5 h6 hs hn hl sub fe fn ih1 ih2 =>
    intro D' hD
    obtain ⟨D'', rfl⟩ : ∃ D'', D' = D'' + 1 := ⟨D' - 1, by omega⟩
    exact .mk D'' sort n s l f h0 h3 h5 (fun q => by obtain ⟨k, k1, k2⟩ := h6 q; exact ⟨k, k1, by omega⟩) hs hn (by omega) (fun v hv => ih1 v hv D'' (by omega)) fe (fun self isRec a part env hf p hp => ih2 self isRec a part env hf p hp (D'' + 1) (by omega))
theorem VG.zero {R A : Nat} {z : Val} (h : VG R A 0 z) : False := by cases h
section
variable {R A D : Nat} {z : Val}
theorem VG.sort_ (h : VG R A D z) : 1 ≤ z.sort ∧ z.sort ≤ 6 := by cases h; assumption
theorem VG.fn_ (h : VG R A D z) : z.sort = 3 → z.f ≠ none := by cases h; assumption
theorem VG.tag_ (h : VG R A D z) : z.sort = 5 → z.l.length = 1 := by cases h; assumption
theorem VG.ref_ (h : VG R A D z) : z.sort = 6 → ∃ k : Nat, z.n = k ∧ k < R := by cases h; assumption
theorem VG.txt_ (h : VG R A D z) : z.s.length ≤ 4000000 := by cases h; assumption
theorem VG.num_ (h : VG R A D z) : -9223372036854775808 ≤ z.n ∧ z.n ≤ 9223372036854775807 := by cases h; assumption
theorem VG.len_ (h : VG R A D z) : z.l.length ≤ A := by cases h; assumption
theorem VG.subs (h : VG R A (D + 1) z) : ∀ v ∈ z.l, VG R A D v := by cases h; assumption
theorem VG.subs' (h : VG R A D z) : ∀ v ∈ z.l, VG R A D v := by
  intro v hv
  cases h with
  | mk D sort n s l f h0 h3 h5 h6 hs hn hl sub fe fn => exact (sub v hv).mono (Nat.le_refl _) (Nat.le_refl _) _ (Nat.le_succ D)
theorem VG.clo (h : VG R A D z) {self : Str} {isRec : Bool} {a : Str} {part : Ex} {env : Env} (hf : z.f = some (.mk self isRec a part env)) : ExG part ∧ ∀ p ∈ env, VG R A D p.2 := by
  cases h with
  | mk D sort n s l f h0 h3 h5 h6 hs hn hl sub fe fn => exact ⟨fe self isRec a part env hf, fn self isRec a part env hf⟩
end
/-- A value without parts. -/
theorem VG.plain {R A : Nat} (D : Nat) (sort n : Int) (s : Str) (h0 : 1 ≤ sort ∧ sort ≤ 6) (h3 : sort ≠ 3 ∧ sort ≠ 5) (h6 : sort = 6 → ∃ k : Nat, n = k ∧ k < R) (hs : s.length ≤ 4000000) (hn : -9223372036854775808 ≤ n ∧ n ≤ 9223372036854775807) : VG R A (D + 1) (.mk sort n s [] none) :=
  .mk D sort n s [] none h0 (fun q => absurd q h3.1) (fun q => absurd q h3.2) h6 hs hn (Nat.zero_le _) (fun v hv => by cases hv) (fun self isRec a part env hf => by cases hf) (fun self isRec a part env hf => by cases hf)
/-- What the values, and the expressions, are: T steps behind the start. -/
structure Dat (T : Nat) (s : St) : Prop where
  vals : ∀ z ∈ s.vals, VG s.refs.length (4000000 + T) (T + 1) z
  refs : ∀ z ∈ s.refs, VG s.refs.length (4000000 + T) (T + 1) z
  frames : ∀ x ∈ s.frames, GoodF x ∧ ExG x.e ∧ ∀ p ∈ x.env, VG s.refs.length (4000000 + T) (T + 1) p.2
  next : ∀ e env, s.next = some (e, env) → ExG e ∧ ∀ p ∈ env, VG s.refs.length (4000000 + T) (T + 1) p.2
  nv : s.vals.length ≤ T
  nr : s.refs.length ≤ T
  nf : s.frames.length ≤ T
  nt : s.trace.length ≤ T
  ni : s.input.length ≤ 90000000000
theorem VG.up {R A T T' : Nat} {z : Val} (h : VG R A (T + 1) z) (hT : T ≤ T') : VG R A (T' + 1) z := h.mono (Nat.le_refl _) (Nat.le_refl _) _ (by omega)
theorem vg_next {R T : Nat} {z : Val} (h : VG R (4000000 + T) (T + 1) z) : VG R (4000000 + (T + 1)) (T + 1 + 1) z := h.mono (Nat.le_refl _) (by omega) _ (by omega)
theorem vg_next' {R R' T : Nat} {z : Val} (h : VG R (4000000 + T) (T + 1) z) (hR : R ≤ R') : VG R' (4000000 + (T + 1)) (T + 1 + 1) z := h.mono hR (by omega) _ (by omega)
theorem Dat.up {T : Nat} {s : St} (h : Dat T s) : Dat (T + 1) s :=
  ⟨fun z hz => vg_next (h.vals z hz), fun z hz => vg_next (h.refs z hz), fun x hx => ⟨(h.frames x hx).1, (h.frames x hx).2.1, fun p hp => vg_next ((h.frames x hx).2.2 p hp)⟩, fun e env hn => ⟨(h.next e env hn).1, fun p hp => vg_next ((h.next e env hn).2 p hp)⟩, Nat.le_succ_of_le h.nv, Nat.le_succ_of_le h.nr, Nat.le_succ_of_le h.nf, Nat.le_succ_of_le h.nt, h.ni⟩
/-- What a step that ends no expression that waits leaves: a value more, or what is begun next, or an end. -/
structure Out (T : Nat) (s s' : St) : Prop where
  dat : Dat (T + 1) s'
  frames : s'.frames = s.frames
  fuel : s'.fuel = s.fuel
  out : s'.err ≠ 0 ∨ (s'.err = 0 ∧ s'.next = none ∧ s'.vals.length = s.vals.length + 1) ∨ (s'.err = 0 ∧ s'.next ≠ none ∧ s'.vals.length = s.vals.length)
section
variable {T : Nat} {s : St}
theorem Dat.stuck (h : Dat T s) (k : Int) (hk : k ≠ 0) : Out T s { s with err := k } :=
  ⟨⟨h.up.vals, h.up.refs, h.up.frames, h.up.next, h.up.nv, h.up.nr, h.up.nf, h.up.nt, h.up.ni⟩, rfl, rfl, .inl hk⟩
theorem Dat.fault (h : Dat T s) (k m : Int) (hk : k ≠ 0) : Out T s { s with err := k, fault := m } :=
  ⟨⟨h.up.vals, h.up.refs, h.up.frames, h.up.next, h.up.nv, h.up.nr, h.up.nf, h.up.nt, h.up.ni⟩, rfl, rfl, .inl hk⟩
theorem Dat.told (h : Dat T s) (h0 : s.err = 0) (hn : s.next = none) {z : Val} (hz : VG s.refs.length (4000000 + (T + 1)) (T + 1 + 1) z) : Out T s { s with vals := s.vals ++ [z] } :=
  ⟨⟨fun y hy => by
      rcases List.mem_append.1 hy with q | q
      · exact h.up.vals y q
      · rw [List.mem_singleton.1 q]; exact hz, h.up.refs, h.up.frames, h.up.next, by show (s.vals ++ [z]).length ≤ _; rw [List.length_append]; exact Nat.succ_le_succ h.nv, h.up.nr, h.up.nf, h.up.nt, h.up.ni⟩, rfl, rfl, .inr (.inl ⟨h0, hn, by show (s.vals ++ [z]).length = _; rw [List.length_append]; rfl⟩)⟩
theorem Dat.nexted (h : Dat T s) (h0 : s.err = 0) {e : Ex} {env : Env} (he : ExG e) (hv : ∀ p ∈ env, VG s.refs.length (4000000 + (T + 1)) (T + 1 + 1) p.2) : Out T s { s with next := some (e, env) } :=
  ⟨⟨h.up.vals, h.up.refs, h.up.frames, fun e' env' q => by injection q with q; injection q with q1 q2; subst q1 q2; exact ⟨he, hv⟩, h.up.nv, h.up.nr, h.up.nf, h.up.nt, h.up.ni⟩, rfl, rfl, .inr (.inr ⟨h0, by simp, rfl⟩)⟩
theorem env_cons {R A D : Nat} {env : Env} {x : Str} {z : Val} (hz : VG R A D z) (h : ∀ p ∈ env, VG R A D p.2) : ∀ p ∈ (x, z) :: env, VG R A D p.2 := by
  intro p hp
  rcases List.mem_cons.1 hp with rfl | q
  · exact hz
  · exact h p q
theorem env_next {R T : Nat} {env : Env} (h : ∀ p ∈ env, VG R (4000000 + T) (T + 1) p.2) : ∀ p ∈ env, VG R (4000000 + (T + 1)) (T + 1 + 1) p.2 := fun p hp => vg_next (h p hp)
theorem Dat.tell (h : Dat T s) (h0 : s.err = 0) (hn : s.next = none) {z : Val} (k : Int) (is : Bool) (hz : is = true → k = 0 → VG s.refs.length (4000000 + (T + 1)) (T + 1 + 1) z) : Out T s (s.tell z k is) := by
  unfold St.tell
  split
  · rename_i hi
    split
    · rename_i hk
      exact h.told h0 hn (hz hi hk)
    · exact h.fault 9 _ (by decide)
  · exact h.stuck 11 (by decide)
theorem Dat.name (h : Dat T s) (h0 : s.err = 0) (hn : s.next = none) (x : Str) (env : Env) (hv : ∀ p ∈ env, VG s.refs.length (4000000 + T) (T + 1) p.2) : Out T s (s.name x env) := by
  induction env with
  | nil => exact h.stuck 11 (by decide)
  | cons p env ih =>
    obtain ⟨y, z⟩ := p
    unfold St.name
    split
    · exact h.told h0 hn (vg_next (hv (y, z) (List.mem_cons_self ..)))
    · exact ih (fun p hp => hv p (List.mem_cons_of_mem _ hp))
theorem Dat.ifd (h : Dat T s) (h0 : s.err = 0) (z : Val) {e1 e2 : Ex} {env : Env} (h1 : ExG e1) (h2 : ExG e2) (hv : ∀ p ∈ env, VG s.refs.length (4000000 + T) (T + 1) p.2) : Out T s (s.ifd z e1 e2 env) := by
  unfold St.ifd
  split
  · split
    · exact h.nexted h0 h2 (env_next hv)
    · exact h.nexted h0 h1 (env_next hv)
  · exact h.stuck 11 (by decide)
theorem Dat.call (h : Dat T s) (h0 : s.err = 0) {z y : Val} (hz : VG s.refs.length (4000000 + T) (T + 1) z) (hy : VG s.refs.length (4000000 + T) (T + 1) y) : Out T s (s.call z y) := by
  unfold St.call
  split
  · rename_i hs
    split
    · rename_i self isRec x part env hf
      obtain ⟨g1, g2⟩ := hz.clo hf
      refine h.nexted h0 g1 (env_cons (vg_next hy) ?_)
      cases isRec with
      | true => exact env_cons (vg_next hz) (env_next g2)
      | false => exact env_next g2
    · rename_i hf
      exact absurd hf (hz.fn_ hs)
  · exact h.stuck 11 (by decide)
theorem lineOf_len (l : List Str) : (lineOf l).1.length ≤ 2000 ∧ (lineOf l).2.1.length ≤ l.length := by
  cases l with
  | nil => exact ⟨by decide, Nat.le_refl _⟩
  | cons x l =>
    by_cases hx : 2000 < x.length
    · rw [show lineOf (x :: l) = ([], [], 2) from if_pos hx]
      exact ⟨by decide, Nat.zero_le _⟩
    · rw [show lineOf (x :: l) = (x, l, 0) from if_neg hx]
      exact ⟨Nat.le_of_not_lt hx, Nat.le_succ _⟩
theorem Dat.read (h : Dat T s) (h0 : s.err = 0) (hn : s.next = none) : Out T s s.read := by
  have hl := lineOf_len s.input
  have h' : Dat T { s with input := (lineOf s.input).2.1 } := ⟨h.vals, h.refs, h.frames, h.next, h.nv, h.nr, h.nf, h.nt, Nat.le_trans hl.2 h.ni⟩
  have := h'.tell h0 hn (z := .mk 2 0 (lineOf s.input).1 [] none) (lineOf s.input).2.2 true (fun _ _ => VG.plain _ 2 0 _ (by decide) (by decide) (fun q => by cases q) (by omega) (by decide))
  exact ⟨this.dat, this.frames, this.fuel, this.out⟩
theorem Dat.print (h : Dat T s) (h0 : s.err = 0) (hn : s.next = none) (z : Val) : Out T s (s.print z) := by
  unfold St.print
  split
  · have := h.told h0 hn (z := .mk 4 0 [] [] none) (VG.plain _ 4 0 [] (by decide) (by decide) (fun q => by cases q) (by decide) (by decide))
    exact ⟨⟨this.dat.vals, this.dat.refs, this.dat.frames, this.dat.next, this.dat.nv, this.dat.nr, this.dat.nf, by show (s.trace ++ [z.s]).length ≤ _; rw [List.length_append]; exact Nat.succ_le_succ h.nt, this.dat.ni⟩, rfl, rfl, this.out⟩
  · exact h.stuck 11 (by decide)
theorem Dat.ref (h : Dat T s) (h0 : s.err = 0) (hn : s.next = none) {z : Val} (hz : VG s.refs.length (4000000 + T) (T + 1) z) (hT : T ≤ 90000000000) : Out T s { s with refs := s.refs ++ [z], vals := s.vals ++ [.mk 6 s.refs.length [] [] none] } := by
  have hR : (s.refs ++ [z]).length = s.refs.length + 1 := by rw [List.length_append]; rfl
  have hnr := h.nr
  refine ⟨⟨fun y hy => ?_, fun y hy => ?_, fun x hx => ⟨(h.frames x hx).1, (h.frames x hx).2.1, fun p hp => ?_⟩, fun e env q => ⟨(h.next e env q).1, fun p hp => ?_⟩, ?_, ?_, Nat.le_succ_of_le h.nf, Nat.le_succ_of_le h.nt, h.ni⟩, rfl, rfl, .inr (.inl ⟨h0, hn, by show (s.vals ++ [_]).length = _; rw [List.length_append]; rfl⟩)⟩
  · show VG (s.refs ++ [z]).length _ _ y
    rw [hR]
    rcases List.mem_append.1 hy with q | q
    · exact vg_next' (h.vals y q) (Nat.le_succ _)
    · rw [List.mem_singleton.1 q]
      exact VG.plain _ 6 _ [] (by decide) (by decide) (fun _ => ⟨s.refs.length, rfl, Nat.lt_succ_self _⟩) (by decide) (by omega)
  · show VG (s.refs ++ [z]).length _ _ y
    rw [hR]
    rcases List.mem_append.1 hy with q | q
    · exact vg_next' (h.refs y q) (Nat.le_succ _)
    · rw [List.mem_singleton.1 q]; exact vg_next' hz (Nat.le_succ _)
  · show VG (s.refs ++ [z]).length _ _ p.2
    rw [hR]; exact vg_next' ((h.frames x hx).2.2 p hp) (Nat.le_succ _)
  · show VG (s.refs ++ [z]).length _ _ p.2
    rw [hR]; exact vg_next' ((h.next e env q).2 p hp) (Nat.le_succ _)
  · show (s.vals ++ [_]).length ≤ _; rw [List.length_append]; exact Nat.succ_le_succ h.nv
  · show (s.refs ++ [_]).length ≤ _; rw [List.length_append]; exact Nat.succ_le_succ h.nr
theorem Dat.get (h : Dat T s) (h0 : s.err = 0) (hn : s.next = none) {z : Val} (hz : VG s.refs.length (4000000 + T) (T + 1) z) : Out T s (s.get z) := by
  unfold St.get
  split
  · rename_i hs
    obtain ⟨k, k1, k2⟩ := hz.ref_ hs
    split
    · rename_i y hy
      exact h.told h0 hn (vg_next (h.refs y (List.mem_of_getElem? hy)))
    · rename_i hy
      rw [k1, Int.toNat_natCast, List.getElem?_eq_getElem k2] at hy
      cases hy
  · exact h.stuck 11 (by decide)
theorem Dat.set (h : Dat T s) (h0 : s.err = 0) (hn : s.next = none) (z : Val) {y : Val} (hy : VG s.refs.length (4000000 + T) (T + 1) y) : Out T s (s.set z y) := by
  unfold St.set
  split
  · have hR : (s.refs.set z.n.toNat y).length = s.refs.length := List.length_set
    have ht := h.told h0 hn (z := .mk 4 0 [] [] none) (VG.plain _ 4 0 [] (by decide) (by decide) (fun q => by cases q) (by decide) (by decide))
    refine ⟨⟨fun a ha => ?_, fun a ha => ?_, fun x hx => ⟨(h.frames x hx).1, (h.frames x hx).2.1, fun p hp => ?_⟩, fun e env q => ⟨(h.next e env q).1, fun p hp => ?_⟩, ht.dat.nv, ?_, Nat.le_succ_of_le h.nf, Nat.le_succ_of_le h.nt, h.ni⟩, rfl, rfl, ht.out⟩
    · show VG (s.refs.set z.n.toNat y).length _ _ a
      rw [hR]; exact ht.dat.vals a ha
    · show VG (s.refs.set z.n.toNat y).length _ _ a
      rw [hR]
      rcases List.mem_or_eq_of_mem_set ha with q | q
      · exact vg_next (h.refs a q)
      · rw [q]; exact vg_next hy
    · show VG (s.refs.set z.n.toNat y).length _ _ p.2
      rw [hR]; exact vg_next ((h.frames x hx).2.2 p hp)
    · show VG (s.refs.set z.n.toNat y).length _ _ p.2
      rw [hR]; exact vg_next ((h.next e env q).2 p hp)
    · show (s.refs.set z.n.toNat y).length ≤ _; rw [hR]; exact Nat.le_succ_of_le h.nr
  · exact h.stuck 11 (by decide)
theorem Dat.shw (h : Dat T s) (h0 : s.err = 0) (hn : s.next = none) {z : Val} (hz : VG s.refs.length (4000000 + T) (T + 1) z) : Out T s (s.shw z) :=
  h.tell h0 hn 0 _ (fun _ _ => VG.plain _ 2 0 _ (by decide) (by decide) (fun q => by cases q) (by have := itoa_len z.n hz.num_; omega) (by decide))
theorem joinOf_len (a b : Str) : (joinOf a b).1.length ≤ 2000 := by
  unfold joinOf
  split
  · decide
  · rename_i h; simp; omega
theorem byteOf_in (a : Str) (n : Int) : -9223372036854775808 ≤ (byteOf a n).1 ∧ (byteOf a n).1 ≤ 9223372036854775807 := by
  unfold byteOf
  split
  · decide
  · have := (a[n.toNat]?.getD 0).toNat_lt
    constructor <;> simp <;> omega
theorem wrap64_bounds (n : Int) : -9223372036854775808 ≤ wrap64 n ∧ wrap64 n ≤ 9223372036854775807 := by unfold wrap64; omega
theorem intsOf_in (s : Str) (a b : Int) : -9223372036854775808 ≤ (intsOf s a b).1 ∧ (intsOf s a b).1 ≤ 9223372036854775807 := by
  unfold intsOf
  repeat' split
  all_goals first
    | exact wrap64_bounds _
    | exact ⟨by decide, by decide⟩
theorem Dat.oper (h : Dat T s) (h0 : s.err = 0) (hn : s.next = none) (o : Str) (x y : Val) : Out T s (s.oper o x y) := by
  unfold St.oper
  split
  · exact h.tell h0 hn _ _ (fun _ _ => VG.plain _ 2 0 _ (by decide) (by decide) (fun q => by cases q) (by have := joinOf_len x.s y.s; omega) (by decide))
  split
  · exact h.tell h0 hn _ _ (fun _ _ => VG.plain _ 1 _ _ (by decide) (by decide) (fun q => by cases q) (by decide) (byteOf_in _ _))
  split
  · exact h.tell h0 hn _ _ (fun _ _ => VG.plain _ 1 _ _ (by decide) (by decide) (fun q => by cases q) (by decide) (intsOf_in _ _ _))
  · exact h.tell h0 hn _ _ (fun q => by cases q)
theorem Dat.tuple (h : Dat T s) (h0 : s.err = 0) (hn : s.next = none) (l : List Val) (hl : ∀ z ∈ l, VG s.refs.length (4000000 + T) (T + 1) z) (hll : l.length ≤ 4000000 + T + 1) : Out T s { s with vals := s.vals ++ [.mk 4 0 [] l none] } :=
  h.told h0 hn (.mk (T + 1) 4 0 [] l none (by decide) (fun q => by cases q) (fun q => by cases q) (fun q => by cases q) (by decide) (by decide) hll (fun v hv => (hl v hv).mono (Nat.le_refl _) (by omega) _ (Nat.le_refl _)) (fun self isRec a part env hf => by cases hf) (fun self isRec a part env hf => by cases hf))
theorem Dat.tag (h : Dat T s) (h0 : s.err = 0) (hn : s.next = none) {x y : Val} (hx : VG s.refs.length (4000000 + T) (T + 1) x) (hy : VG s.refs.length (4000000 + T) (T + 1) y) : Out T s (s.tag x y) := by
  unfold St.tag
  split
  · exact h.told h0 hn (.mk (T + 1) 5 y.n [] [x] none (by decide) (fun q => by cases q) (fun _ => rfl) (fun q => by cases q) (by decide) hy.num_ (by show 1 ≤ _; omega) (fun v hv => by rw [List.mem_singleton.1 hv]; exact hx.mono (Nat.le_refl _) (by omega) _ (Nat.le_refl _)) (fun self isRec a part env hf => by cases hf) (fun self isRec a part env hf => by cases hf))
  · exact h.stuck 11 (by decide)
theorem tupOf_mem {k : Int} {x f v : Val} {i : Nat} (h : v ∈ tupOf k x f i) : v = x ∨ v ∈ f.l := by
  unfold tupOf at h
  split at h
  · rcases List.mem_append.1 h with q | q
    · exact .inr (List.mem_of_mem_take q)
    · exact .inr (List.mem_of_mem_drop q)
  split at h
  all_goals
    rcases List.mem_append.1 h with q | q
    · exact .inr (List.mem_of_mem_take q)
    · rcases List.mem_append.1 q with q | q
      · exact .inl (List.mem_singleton.1 q)
      · exact .inr (List.mem_of_mem_drop q)
theorem tupOf_len (k : Int) (x f : Val) (i : Nat) : (tupOf k x f i).length ≤ f.l.length + 1 := by
  unfold tupOf
  repeat' split
  all_goals simp only [List.length_append, List.length_take, List.length_drop, List.length_cons, List.length_nil]; omega
end
end Go.Proofs.YtpdfjdomjklkbaaGreatDoor

namespace Go.Proofs.YtpdfjdomjklkbaaGreatDoor
open Go.ChangeShapes Go.WideShapes Go.ChangeAt Go.RowKit Go.Sort
set_option linter.unusedVariables false
set_option linter.unusedSimpArgs false

section
variable {T : Nat} {s : St}
theorem Dat.inTup (h : Dat T s) (h0 : s.err = 0) (hn : s.next = none) (k : Int) {x y f : Val} (hx : VG s.refs.length (4000000 + T) (T + 1) x) (hf : VG s.refs.length (4000000 + T) (T + 1) f) (hk : k = 9 ∨ k = 10 ∨ k = 11 ∨ k = 12) : Out T s (s.inTup k x y f) := by
  unfold St.inTup
  by_cases ht : isTup f y (if k = 10 then 1 else 0) = true
  · rw [if_pos ht]
    obtain ⟨t4, t1, i, hi, hi2⟩ := isTup_iff ht
    split
    · rename_i hk9
      subst hk9
      rw [if_neg (by decide)] at hi2
      have hlt : i < f.l.length := by omega
      rw [hi, Int.toNat_natCast, List.getElem?_eq_getElem hlt, Option.getD_some]
      exact h.told h0 hn (vg_next (hf.subs' _ (List.getElem_mem hlt)))
    · have hl := tupOf_len k x f y.n.toNat
      have hfl := hf.len_
      refine h.told h0 hn (.mk (T + 1) 4 0 [] _ none (by decide) (fun q => by cases q) (fun q => by cases q) (fun q => by cases q) (by decide) (by decide) (by omega) (fun v hv => ?_) (fun self isRec a part env hf => by cases hf) (fun self isRec a part env hf => by cases hf))
      rcases tupOf_mem hv with rfl | q
      · exact hx.mono (Nat.le_refl _) (by omega) _ (Nat.le_refl _)
      · exact (hf.subs' v q).mono (Nat.le_refl _) (by omega) _ (Nat.le_refl _)
  · rw [if_neg ht]; exact h.stuck 11 (by decide)
theorem Dat.apply (h : Dat T s) (h0 : s.err = 0) (hn : s.next = none) (hT : T ≤ 90000000000) {d : ExD} (hk : partsOk d = true) (hp : d.pn ≤ 4000000) {l : List Val} (hll : l.length = d.pn) (hl : ∀ z ∈ l, VG s.refs.length (4000000 + T) (T + 1) z)
    (q1 : ¬ (d.kind = 1 ∨ d.kind = 2 ∨ d.kind = 3 ∨ d.kind = 4 ∨ d.kind = 6 ∨ d.kind = 7 ∨ d.kind = 14 ∨ d.kind = 15 ∨ d.kind = 22)) : Out T s (s.apply d l) := by
  have hkk := partsKind hk
  unfold St.apply
  split
  · exact h.tuple h0 hn l hl (by omega)
  rename_i k8
  by_cases p1 : d.kind = 17 ∨ d.kind = 18 ∨ d.kind = 20 ∨ d.kind = 21
  · obtain ⟨x, rfl⟩ := len1 (hll.trans (parts1 hk (.inr p1)))
    have gx := hl x (List.mem_cons_self ..)
    show Out T s (s.apply1 d.kind x)
    unfold St.apply1
    split
    · exact h.ref h0 hn gx hT
    split
    · exact h.get h0 hn gx
    split
    · exact h.print h0 hn x
    · exact h.shw h0 hn gx
  by_cases p2 : d.kind = 5 ∨ d.kind = 9 ∨ d.kind = 11 ∨ d.kind = 13 ∨ d.kind = 16 ∨ d.kind = 19
  · obtain ⟨x, y, rfl⟩ := len2 (hll.trans (parts2 hk (by omega)))
    have gx := hl x (List.mem_cons_self ..)
    have gy := hl y (List.mem_cons_of_mem _ (List.mem_cons_self ..))
    show Out T s (s.apply2 d x y)
    unfold St.apply2
    split
    · exact h.call h0 gx gy
    split
    · exact h.tag h0 hn gx gy
    split
    · exact h.oper h0 hn _ x y
    split
    · exact h.set h0 hn x gy
    · exact h.inTup h0 hn _ gx gx (by omega)
  · obtain ⟨x, y, z, rfl⟩ := len3 (hll.trans (parts3 hk (by omega)))
    exact h.inTup h0 hn _ (hl x (List.mem_cons_self ..)) (hl z (List.mem_cons_of_mem _ (List.mem_cons_of_mem _ (List.mem_cons_self ..)))) (by omega)
/-- How many values stand, where something is begun next: the frames, the last one first. -/
def Wt : List Frm → Nat → Prop
  | [], n => n = 0
  | x :: fr, n => x.base ≤ n ∧ n < x.base + limOf x.e.d ∧ Wt fr x.base
/-- How many values stand. -/
def Wf (fr : List Frm) (n : Nat) : Option (Ex × Env) → Prop
  | some _ => Wt fr n
  | none => match fr with
    | [] => n = 1
    | x :: fr => x.base ≤ n ∧ n ≤ x.base + limOf x.e.d ∧ Wt fr x.base
theorem wf_told {fr : List Frm} {n : Nat} (h : Wt fr n) : Wf fr (n + 1) none := by
  cases fr with
  | nil => show n + 1 = 1; have : n = 0 := h; omega
  | cons x fr => exact ⟨Nat.le_succ_of_le h.1, h.2.1, h.2.2⟩
structure Inv (T : Nat) (s : St) : Prop where
  dat : Dat T s
  wf : s.err = 0 → Wf s.frames.reverse s.vals.length s.next
theorem Out.inv {s' : St} (h : Out T s s') (hw : Wt s.frames.reverse s.vals.length) : Inv (T + 1) s' := by
  refine ⟨h.dat, fun he => ?_⟩
  rw [h.frames]
  rcases h.out with q | ⟨_, q1, q2⟩ | ⟨_, q1, q2⟩
  · exact absurd he q
  · rw [q1, q2]; exact wf_told hw
  · rw [q2]
    cases hn : s'.next with
    | none => exact absurd hn q1
    | some p => exact hw
/-- What is left to do. -/
def mu (s : St) : Nat := 3 * s.fuel.toNat + s.frames.length + (match s.next with | none => 2 | some _ => 1) + (if s.err = 0 then 1 else 0)
theorem mu_none {s : St} (h : s.next = none) (h0 : s.err = 0) : mu s = 3 * s.fuel.toNat + s.frames.length + 3 := by unfold mu; rw [h, if_pos h0]
theorem mu_some {s : St} (h : s.next ≠ none) (h0 : s.err = 0) : mu s = 3 * s.fuel.toNat + s.frames.length + 2 := by
  unfold mu
  rw [if_pos h0]
  cases hn : s.next with
  | none => exact absurd hn h
  | some p => rfl
theorem mu_err {s : St} (h0 : s.err ≠ 0) : mu s ≤ 3 * s.fuel.toNat + s.frames.length + 2 := by
  unfold mu
  rw [if_neg h0]
  cases s.next <;> simp
theorem mu_le (s : St) : mu s ≤ 3 * s.fuel.toNat + s.frames.length + 3 := by
  unfold mu
  have h1 : (match s.next with | none => 2 | some _ => 1) ≤ 2 := by cases s.next with | none => exact Nat.le_refl 2 | some p => exact Nat.le_succ 1
  have h2 : (if s.err = 0 then 1 else 0) ≤ 1 := by split <;> decide
  omega
structure Go (T : Nat) (s s' : St) : Prop where
  inv : Inv (T + 1) s'
  mu : mu s' < mu s
theorem Out.go1 {s1 s' : St} (h : Out T s1 s') (hw : Wt s1.frames.reverse s1.vals.length) (hlt : s1.frames.length < s.frames.length) (hf : s1.fuel = s.fuel) (h0 : s.err = 0) (hn : s.next = none) : Go T s s' := by
  refine ⟨h.inv hw, ?_⟩
  have h1 := mu_le s'
  rw [mu_none hn h0]
  rw [h.frames, h.fuel, hf] at h1
  omega
theorem Out.go2 {s' : St} (h : Out T s s') (hw : Wt s.frames.reverse s.vals.length) (hn' : s'.next ≠ none) (he : s'.err = 0) (h0 : s.err = 0) (hn : s.next = none) : Go T s s' := by
  refine ⟨h.inv hw, ?_⟩
  rw [mu_none hn h0, mu_some hn' he, h.frames, h.fuel]
  omega
theorem lim_pos {x : Frm} (h : GoodF x) (hk : x.e.d.kind ≠ 8) : 1 ≤ limOf x.e.d := by
  have h1 := partsKind h.parts
  have h2 := h.kind
  unfold limOf
  split
  · exact Nat.le_refl _
  split
  · omega
  · by_cases p1 : x.e.d.kind = 17 ∨ x.e.d.kind = 18 ∨ x.e.d.kind = 20 ∨ x.e.d.kind = 21
    · have := parts1 h.parts (.inr p1); omega
    by_cases p2 : x.e.d.kind = 5 ∨ x.e.d.kind = 9 ∨ x.e.d.kind = 11 ∨ x.e.d.kind = 13 ∨ x.e.d.kind = 16 ∨ x.e.d.kind = 19
    · have := parts2 h.parts (by omega); omega
    · have := parts3 h.parts (by omega); omega
theorem Out.inv3 {s' : St} (h : Out T s s') (hw : Wt s.frames.reverse s.vals.length) : Inv (T + 1) s' ∧ s'.fuel = s.fuel ∧ s'.frames.length ≤ s.frames.length + 1 := ⟨h.inv hw, h.fuel, by rw [h.frames]; exact Nat.le_succ _⟩
theorem Dat.begin (h : Dat T s) (h0 : s.err = 0) (hn : s.next = none) (hw : Wt s.frames.reverse s.vals.length) {e : Ex} {env : Env} (he : ExG e) (hv : ∀ p ∈ env, VG s.refs.length (4000000 + T) (T + 1) p.2) : Inv (T + 1) (s.begin e env) ∧ (s.begin e env).fuel = s.fuel ∧ (s.begin e env).frames.length ≤ s.frames.length + 1 := by
  unfold St.begin
  split
  · exact (h.stuck 11 (by decide)).inv3 hw
  rename_i hk
  have hk' : partsOk e.d = true := by simpa using hk
  split
  · exact (h.told h0 hn (VG.plain _ 1 _ [] (by decide) (by decide) (fun q => by cases q) (by decide) he.num)).inv3 hw
  split
  · exact (h.told h0 hn (VG.plain _ 2 0 _ (by decide) (by decide) (fun q => by cases q) he.txt (by decide))).inv3 hw
  split
  · exact (h.name h0 hn _ env hv).inv3 hw
  split
  · rename_i k4
    obtain ⟨x, hx⟩ := len1 (he.len.trans (parts1 hk' (.inl k4)))
    rw [hx]
    refine (h.told h0 hn (.mk (T + 1) 3 0 [] [] _ (by decide) (fun _ q => by cases q) (fun q => by cases q) (fun q => by cases q) (by decide) (by decide) (Nat.zero_le _) (fun v hv => by cases hv) (fun self isRec a part env' hf => ?_) (fun self isRec a part env' hf p hp => ?_))).inv3 hw
    · cases hf; exact he.sub_ x (by rw [hx]; exact List.mem_singleton_self x)
    · cases hf; exact vg_next (hv p hp)
  split
  · rename_i k7
    obtain ⟨x, y, hx⟩ := len2 (he.len.trans (parts2 hk' (.inr (.inr (.inl k7)))))
    rw [hx]
    refine (h.nexted h0 (he.sub_ y (by rw [hx]; simp)) (env_cons (.mk (T + 1) 3 0 [] [] _ (by decide) (fun _ q => by cases q) (fun q => by cases q) (fun q => by cases q) (by decide) (by decide) (Nat.zero_le _) (fun v hv => by cases hv) (fun self isRec a part env' hf => ?_) (fun self isRec a part env' hf p hp => ?_)) (env_next hv))).inv3 hw
    · cases hf; exact he.sub_ x (by rw [hx]; simp)
    · cases hf; exact vg_next (hv p hp)
  split
  · exact (h.read h0 hn).inv3 hw
  rename_i q1 q2 q3 q4 q7 q22
  have hg : GoodF ⟨e, env, s.vals.length⟩ := ⟨hk', by intro q; rcases q with q | q | q | q | q | q <;> exact absurd q (by assumption)⟩
  refine ⟨⟨⟨h.up.vals, h.up.refs, fun x hx => ?_, h.up.next, h.up.nv, h.up.nr, ?_, h.up.nt, h.up.ni⟩, fun _ => ?_⟩, rfl, by show (s.frames ++ [_]).length ≤ _; rw [List.length_append]; exact Nat.le_refl _⟩
  · rcases List.mem_append.1 hx with q | q
    · exact h.up.frames x q
    · rw [List.mem_singleton.1 q]; exact ⟨hg, he, env_next hv⟩
  · show (s.frames ++ [_]).length ≤ _; rw [List.length_append]; exact Nat.succ_le_succ h.nf
  · show Wf (s.frames ++ [_]).reverse s.vals.length s.next
    rw [hn, List.reverse_append]
    exact ⟨Nat.le_refl _, Nat.le_add_right _ _, hw⟩
theorem restN_in (m : Int) (l : List Val) (n : Int) (hn : -9223372036854775808 ≤ n ∧ n ≤ 9223372036854775807) : -9223372036854775808 ≤ restN m l n ∧ restN m l n ≤ 9223372036854775807 := by
  induction l generalizing n with
  | nil => exact hn
  | cons v l ih =>
    unfold restN
    split
    · exact ih _ (wrap64_bounds _)
    · exact ih _ hn
theorem VG.reN {R A D : Nat} {z : Val} (h : VG R A D z) (hs : z.sort = 5) (n : Int) (hn : -9223372036854775808 ≤ n ∧ n ≤ 9223372036854775807) : VG R A D (.mk z.sort n z.s z.l z.f) := by
  cases h with
  | mk D sort n0 s l f h0 h3 h5 h6 hs' hn0 hl sub fe fn =>
    exact .mk D sort n s l f h0 h3 h5 (fun q => by rw [show sort = 5 from hs] at q; cases q) hs' hn hl sub fe fn
theorem Dat.ended (h : Dat T s) {fs : List Frm} {x : Frm} (hx : s.frames = fs ++ [x]) : Dat T (s.ended fs x) :=
  ⟨fun z hz => h.vals z (List.mem_of_mem_take hz), h.refs, fun y hy => h.frames y (by rw [hx]; exact List.mem_append_left _ hy), h.next, by show (s.vals.take x.base).length ≤ _; rw [List.length_take]; have := h.nv; omega, h.nr, by show fs.length ≤ _; have := h.nf; rw [hx, List.length_append] at this; omega, h.nt, h.ni⟩
theorem Dat.choose (h : Dat T s) (h0 : s.err = 0) (hn : s.next = none) {fs : List Frm} {x : Frm} (hx : s.frames = fs ++ [x]) (hk : partsOk x.e.d = true) (hkd : x.e.d.kind = 14) (he : ExG x.e) (hv : ∀ p ∈ x.env, VG s.refs.length (4000000 + T) (T + 1) p.2) (hbs : x.base ≤ s.vals.length) (hw : Wt fs.reverse x.base) {l : List Val} (hll : s.vals.length = x.base + l.length) (hl : ∀ z ∈ l, VG s.refs.length (4000000 + T) (T + 1) z) (hl0 : 0 < l.length) (hl1 : l.length ≤ x.e.d.nn + 1) :
    Go T s (s.choose fs x l) := by
  have hpn := partsC hk hkd
  have hel := he.len
  have hnl := he.nam
  have hend : (s.ended fs x).vals.length = x.base := by show (s.vals.take x.base).length = _; rw [List.length_take]; omega
  have hwE : Wt (s.ended fs x).frames.reverse (s.ended fs x).vals.length := by rw [hend]; exact hw
  have hlim : limOf x.e.d = x.e.d.nn + 1 := by unfold limOf; rw [if_neg (by omega), if_pos hkd]
  have hstk : Go T s { s with err := 11 } := ⟨⟨(h.stuck 11 (by decide)).dat, fun q => by cases q⟩, by rw [mu_none hn h0]; exact Nat.lt_of_le_of_lt (mu_err (show (11 : Int) ≠ 0 by decide)) (Nat.lt_succ_self _)⟩
  have hfl : (s.ended fs x).frames.length < s.frames.length := by show fs.length < _; rw [hx, List.length_append]; exact Nat.lt_succ_self _
  cases l with
  | nil => exact absurd hl0 (Nat.lt_irrefl 0)
  | cons z ts =>
    have gz := hl z (List.mem_cons_self ..)
    rw [List.length_cons] at hll hl1
    rw [St.choose.eq_2]
    split
    · exact hstk
    rename_i hc
    have hs : z.sort = 5 := by
      by_cases q : z.sort = 5
      · exact q
      · exact absurd (.inl q) hc
    split
    · rename_i hh
      obtain ⟨yx, hyx⟩ := get_some (l := x.e.l) (k := 2 * ts.length) (by split at hpn <;> omega)
      obtain ⟨nme, hnm⟩ := get_some (l := x.e.d.names) (k := ts.length - 1) (by omega)
      obtain ⟨p, hp⟩ := len1 (gz.tag_ hs)
      rw [hyx, hnm, hp]
      exact ((h.ended hx).nexted h0 (he.get hyx) (env_cons (vg_next (gz.subs' p (by rw [hp]; exact List.mem_singleton_self p))) (env_next hv))).go1 hwE hfl rfl h0 hn
    split
    · rename_i hnn
      obtain ⟨yx, hyx⟩ := get_some (l := x.e.l) (k := 2 * ts.length + 1) (by split at hpn <;> omega)
      rw [hyx]
      refine (h.nexted h0 (he.get hyx) (env_next hv)).go2 ?_ (by simp) h0 h0 hn
      rw [hx, List.reverse_append]
      exact ⟨by omega, by rw [hlim]; omega, hw⟩
    split
    · exact hstk
    · rename_i ht
      obtain ⟨yx, hyx⟩ := get_some (l := x.e.l) (k := x.e.d.pn - 1) (by split at hpn <;> omega)
      rw [hyx]
      exact ((h.ended hx).nexted h0 (he.get hyx) (env_cons (vg_next (gz.reN hs _ (restN_in _ _ _ gz.num_))) (env_next hv))).go1 hwE hfl rfl h0 hn
theorem Dat.goOn (h : Dat T s) (h0 : s.err = 0) (hn : s.next = none) (hT : T ≤ 90000000000) {fs : List Frm} {x : Frm} (hx : s.frames = fs ++ [x]) (hbs : x.base ≤ s.vals.length) (hlim : s.vals.length ≤ x.base + limOf x.e.d) (hw : Wt fs.reverse x.base) : Go T s (s.goOn fs x (s.vals.drop x.base)) := by
  have hfl : (s.ended fs x).frames.length < s.frames.length := by show fs.length < _; rw [hx, List.length_append]; exact Nat.lt_succ_self _
  obtain ⟨hg, he, hv⟩ := h.frames x (by rw [hx]; simp)
  have hkind := hg.kind
  have hel := he.len
  have hend : (s.ended fs x).vals.length = x.base := by show (s.vals.take x.base).length = _; rw [List.length_take]; omega
  have hwE : Wt (s.ended fs x).frames.reverse (s.ended fs x).vals.length := by rw [hend]; exact hw
  have hll : (s.vals.drop x.base).length = s.vals.length - x.base := List.length_drop
  have hl : ∀ z ∈ s.vals.drop x.base, VG s.refs.length (4000000 + T) (T + 1) z := fun z hz => h.vals z (List.mem_of_mem_drop hz)
  generalize s.vals.drop x.base = l at hll hl
  unfold St.goOn
  split
  · rename_i q
    have hlim' : limOf x.e.d = x.e.d.nn + 1 := by unfold limOf; rw [if_neg (by omega), if_pos q.1]
    exact h.choose h0 hn hx hg.parts q.1 he hv hbs hw (by omega) hl q.2 (by omega)
  rename_i q14
  split
  · rename_i q
    obtain ⟨z, rfl⟩ := len1 q.2
    have hpn := parts2 hg.parts (.inr (.inl q.1))
    obtain ⟨y, hy⟩ := get_some (l := x.e.l) (k := 1) (by omega)
    rw [hy]
    exact ((h.ended hx).nexted h0 (he.get hy) (env_cons (vg_next (hl z (List.mem_singleton_self z))) (env_next hv))).go1 hwE hfl rfl h0 hn
  rename_i q6
  split
  · rename_i q
    obtain ⟨z, rfl⟩ := len1 q.2
    have hpn := parts3 hg.parts (.inr (.inr q.1))
    obtain ⟨y, hy⟩ := get_some (l := x.e.l) (k := 1) (by omega)
    obtain ⟨y2, hy2⟩ := get_some (l := x.e.l) (k := 2) (by omega)
    rw [hy, hy2]
    exact ((h.ended hx).ifd h0 z (he.get hy) (he.get hy2) hv).go1 hwE hfl rfl h0 hn
  rename_i q15
  split
  · rename_i y hy
    refine (h.nexted h0 (he.get hy) (env_next hv)).go2 ?_ (by simp) h0 h0 hn
    rw [hx, List.reverse_append]
    have hlt := (List.getElem?_eq_some_iff.1 hy).1
    refine ⟨hbs, ?_, hw⟩
    unfold limOf at hlim ⊢
    split
    · rename_i k
      rw [if_pos k] at hlim
      by_cases k6 : x.e.d.kind = 6
      · have : ¬ l.length = 1 := fun q => q6 ⟨k6, q⟩
        show s.vals.length < _
        omega
      · have : ¬ l.length = 1 := fun q => q15 ⟨by omega, q⟩
        show s.vals.length < _
        omega
    · rename_i k
      rw [if_neg k] at hlim
      split
      · rename_i k14
        have : ¬ 0 < l.length := fun q => q14 ⟨k14, q⟩
        show s.vals.length < _
        omega
      · show s.vals.length < _
        omega
  · rename_i hy
    have hge : x.e.l.length ≤ l.length := by
      rcases Nat.lt_or_ge l.length x.e.l.length with q | q
      · rw [List.getElem?_eq_getElem q] at hy; cases hy
      · exact q
    have hkk := partsKind hg.parts
    have hk2 : ¬ (x.e.d.kind = 6 ∨ x.e.d.kind = 15) := by
      intro q
      have hl1 : limOf x.e.d = 1 := by unfold limOf; rw [if_pos q]
      rcases q with q | q
      · have := parts2 hg.parts (.inr (.inl q)); omega
      · have := parts3 hg.parts (.inr (.inr q)); omega
    have hk14 : ¬ x.e.d.kind = 14 := by
      intro q
      have := partsC hg.parts q
      have hl0 : 0 < l.length := by split at this <;> omega
      exact q14 ⟨q, hl0⟩
    have hlim' : limOf x.e.d = x.e.d.pn := by unfold limOf; rw [if_neg hk2, if_neg hk14]
    exact ((h.ended hx).apply h0 hn hT hg.parts he.pm_ (by omega) hl (by omega)).go1 hwE hfl rfl h0 hn
theorem Inv.step (h : Inv T s) (hd : ¬ s.done) (hT : T ≤ 90000000000) : Go T s s.step := by
  have h0 : s.err = 0 := by
    by_cases q : s.err = 0
    · exact q
    · exact absurd (.inl q) hd
  have hw := h.wf h0
  unfold St.step
  rw [if_neg (fun q => q h0)]
  cases hn : s.next with
  | some p =>
    obtain ⟨e, env⟩ := p
    rw [hn] at hw
    have hm := mu_some (s := s) (by rw [hn]; simp) h0
    simp only
    split
    · rw [← hn]
      refine ⟨⟨(h.dat.stuck 8 (by decide)).dat, fun q => absurd (show (8 : Int) = 0 from q) (by decide)⟩, ?_⟩

      show mu { s with err := 8 } < mu s
      unfold mu
      rw [if_pos h0, if_neg (show ¬ (8 : Int) = 0 by decide)]
      exact Nat.lt_succ_self _
    · rename_i hf
      obtain ⟨he, hv⟩ := h.dat.next e env hn
      obtain ⟨g1, g2, g3⟩ := Dat.begin (s := { s with fuel := s.fuel - 1, next := none }) ⟨h.dat.vals, h.dat.refs, h.dat.frames, (fun e env q => nomatch q), h.dat.nv, h.dat.nr, h.dat.nf, h.dat.nt, h.dat.ni⟩ h0 rfl hw he hv
      refine ⟨g1, ?_⟩
      have h1 := mu_le (St.begin { s with fuel := s.fuel - 1, next := none } e env)
      rw [g2] at h1
      have g3' : (St.begin { s with fuel := s.fuel - 1, next := none } e env).frames.length ≤ s.frames.length + 1 := g3
      have h2 : ({ s with fuel := s.fuel - 1, next := none } : St).fuel.toNat = s.fuel.toNat - 1 := by show (s.fuel - 1).toNat = _; omega
      rw [h2] at h1
      have h3 : 1 ≤ s.fuel.toNat := by omega
      rw [hm]
      omega
  | none =>
    rw [hn] at hw
    simp only
    cases hr : s.frames.reverse with
    | nil => exact absurd (.inr ⟨hn, List.reverse_eq_nil_iff.1 hr⟩) hd
    | cons x fr =>
      rw [hr] at hw
      have hx : s.frames = fr.reverse ++ [x] := by rw [← List.reverse_reverse s.frames, hr, List.reverse_cons]
      exact h.dat.goOn h0 hn hT hx hw.1 hw.2.1 (by rw [List.reverse_reverse]; exact hw.2.2)
end
end Go.Proofs.YtpdfjdomjklkbaaGreatDoor

namespace Go.Proofs.YtpdfjdomjklkbaaGreatDoor
open Go.ChangeShapes Go.WideShapes Go.ChangeAt Go.RowKit Go.Sort
set_option linter.unusedVariables false
set_option linter.unusedSimpArgs false

def St.fu (s : St) (k : Int) : St := { s with fuel := k }
/-- The same but for the fuel, which is touched in neither; what is printed is kept. -/
structure Fu (k : Int) (s s' s2' : St) : Prop where
  eq : s2' = s'.fu k
  tr : ∃ l, s'.trace = s.trace ++ l
section
variable {s : St} {k : Int}
theorem fu_same (s' : St) (h : s'.trace = s.trace) : Fu k s s' (s'.fu k) := ⟨rfl, [], by rw [h, List.append_nil]⟩
theorem fu_tell (z : Val) (f : Int) (is : Bool) : Fu k s (s.tell z f is) ((s.fu k).tell z f is) := by
  unfold St.tell
  by_cases h : is = true
  · rw [if_pos h, if_pos h]
    by_cases h2 : f = 0
    · rw [if_pos h2, if_pos h2]; exact fu_same _ rfl
    · rw [if_neg h2, if_neg h2]; exact fu_same _ rfl
  · rw [if_neg h, if_neg h]; exact fu_same _ rfl
theorem fu_name (x : Str) (env : Env) : Fu k s (s.name x env) ((s.fu k).name x env) := by
  induction env with
  | nil => exact fu_same _ rfl
  | cons p env ih =>
    obtain ⟨y, z⟩ := p
    unfold St.name
    by_cases h : y = x
    · rw [if_pos h, if_pos h]; exact fu_same _ rfl
    · rw [if_neg h, if_neg h]; exact ih
theorem fu_ifd (z : Val) (e1 e2 : Ex) (env : Env) : Fu k s (s.ifd z e1 e2 env) ((s.fu k).ifd z e1 e2 env) := by
  unfold St.ifd
  by_cases h : z.sort = 1
  · rw [if_pos h, if_pos h]
    by_cases h2 : z.n = 0
    · rw [if_pos h2, if_pos h2]; exact fu_same _ rfl
    · rw [if_neg h2, if_neg h2]; exact fu_same _ rfl
  · rw [if_neg h, if_neg h]; exact fu_same _ rfl
theorem fu_call (z y : Val) : Fu k s (s.call z y) ((s.fu k).call z y) := by
  unfold St.call
  by_cases h : z.sort = 3
  · rw [if_pos h, if_pos h]
    cases z.f with
    | none => exact fu_same _ rfl
    | some g =>
      cases g with
      | mk self isRec x part env => exact fu_same _ rfl
  · rw [if_neg h, if_neg h]; exact fu_same _ rfl
theorem fu_read : Fu k s s.read (s.fu k).read := by
  have := fu_tell (s := { s with input := (lineOf s.input).2.1 }) (k := k) (.mk 2 0 (lineOf s.input).1 [] none) (lineOf s.input).2.2 true
  exact ⟨this.eq, this.tr⟩
theorem fu_print (z : Val) : Fu k s (s.print z) ((s.fu k).print z) := by
  unfold St.print
  by_cases h : z.sort = 2
  · rw [if_pos h, if_pos h]; exact ⟨rfl, [z.s], rfl⟩
  · rw [if_neg h, if_neg h]; exact fu_same _ rfl
theorem fu_get (z : Val) : Fu k s (s.get z) ((s.fu k).get z) := by
  unfold St.get
  by_cases h : z.sort = 6
  · rw [if_pos h, if_pos h, show (s.fu k).refs = s.refs from rfl]
    cases s.refs[z.n.toNat]? with
    | none => exact fu_same _ rfl
    | some y => exact fu_same _ rfl
  · rw [if_neg h, if_neg h]; exact fu_same _ rfl
theorem fu_set (z y : Val) : Fu k s (s.set z y) ((s.fu k).set z y) := by
  unfold St.set
  by_cases h : z.sort = 6
  · rw [if_pos h, if_pos h]; exact fu_same _ rfl
  · rw [if_neg h, if_neg h]; exact fu_same _ rfl
theorem fu_oper (o : Str) (x y : Val) : Fu k s (s.oper o x y) ((s.fu k).oper o x y) := by
  unfold St.oper
  by_cases h1 : o = [94] ∧ x.sort = 2 ∧ y.sort = 2
  · rw [if_pos h1, if_pos h1]; exact fu_tell _ _ _
  rw [if_neg h1, if_neg h1]
  by_cases h2 : o = [35] ∧ x.sort = 2 ∧ y.sort = 1
  · rw [if_pos h2, if_pos h2]; exact fu_tell _ _ _
  rw [if_neg h2, if_neg h2]
  by_cases h3 : x.sort = 1 ∧ y.sort = 1
  · rw [if_pos h3, if_pos h3]; exact fu_tell _ _ _
  · rw [if_neg h3, if_neg h3]; exact fu_tell _ _ _
theorem fu_tag (x y : Val) : Fu k s (s.tag x y) ((s.fu k).tag x y) := by
  unfold St.tag
  by_cases h : y.sort = 1
  · rw [if_pos h, if_pos h]; exact fu_same _ rfl
  · rw [if_neg h, if_neg h]; exact fu_same _ rfl
theorem fu_inTup (kd : Int) (x y f : Val) : Fu k s (s.inTup kd x y f) ((s.fu k).inTup kd x y f) := by
  unfold St.inTup
  by_cases h : isTup f y (if kd = 10 then 1 else 0) = true
  · rw [if_pos h, if_pos h]
    by_cases h2 : kd = 9
    · rw [if_pos h2, if_pos h2]; exact fu_same _ rfl
    · rw [if_neg h2, if_neg h2]; exact fu_same _ rfl
  · rw [if_neg h, if_neg h]; exact fu_same _ rfl
theorem fu_apply1 (kd : Int) (x : Val) : Fu k s (s.apply1 kd x) ((s.fu k).apply1 kd x) := by
  unfold St.apply1
  by_cases h1 : kd = 17
  · rw [if_pos h1, if_pos h1]; exact fu_same _ rfl
  rw [if_neg h1, if_neg h1]
  by_cases h2 : kd = 18
  · rw [if_pos h2, if_pos h2]; exact fu_get _
  rw [if_neg h2, if_neg h2]
  by_cases h3 : kd = 20
  · rw [if_pos h3, if_pos h3]; exact fu_print _
  · rw [if_neg h3, if_neg h3]; exact fu_tell _ _ _
theorem fu_apply2 (d : ExD) (x y : Val) : Fu k s (s.apply2 d x y) ((s.fu k).apply2 d x y) := by
  unfold St.apply2
  by_cases h1 : d.kind = 5
  · rw [if_pos h1, if_pos h1]; exact fu_call _ _
  rw [if_neg h1, if_neg h1]
  by_cases h2 : d.kind = 13
  · rw [if_pos h2, if_pos h2]; exact fu_tag _ _
  rw [if_neg h2, if_neg h2]
  by_cases h3 : d.kind = 16
  · rw [if_pos h3, if_pos h3]; exact fu_oper _ _ _
  rw [if_neg h3, if_neg h3]
  by_cases h4 : d.kind = 19
  · rw [if_pos h4, if_pos h4]; exact fu_set _ _
  · rw [if_neg h4, if_neg h4]; exact fu_inTup _ _ _ _
theorem fu_apply (d : ExD) (l : List Val) : Fu k s (s.apply d l) ((s.fu k).apply d l) := by
  unfold St.apply
  by_cases h : d.kind = 8
  · rw [if_pos h, if_pos h]; exact fu_same _ rfl
  rw [if_neg h, if_neg h]
  match l with
  | [] => exact fu_same _ rfl
  | [x] => exact fu_apply1 _ _
  | [x, y] => exact fu_apply2 _ _ _
  | [x, y, z] => exact fu_inTup _ _ _ _
  | _ :: _ :: _ :: _ :: _ => exact fu_same _ rfl
theorem fu_begin (e : Ex) (env : Env) : Fu k s (s.begin e env) ((s.fu k).begin e env) := by
  unfold St.begin
  by_cases h0 : partsOk e.d = false
  · rw [if_pos h0, if_pos h0]; exact fu_same _ rfl
  rw [if_neg h0, if_neg h0]
  by_cases h1 : e.d.kind = 1
  · rw [if_pos h1, if_pos h1]; exact fu_same _ rfl
  rw [if_neg h1, if_neg h1]
  by_cases h2 : e.d.kind = 2
  · rw [if_pos h2, if_pos h2]; exact fu_same _ rfl
  rw [if_neg h2, if_neg h2]
  by_cases h3 : e.d.kind = 3
  · rw [if_pos h3, if_pos h3]; exact fu_name _ _
  rw [if_neg h3, if_neg h3]
  by_cases h4 : e.d.kind = 4
  · rw [if_pos h4, if_pos h4]
    match e.l with
    | [] => exact fu_same _ rfl
    | [x] => exact fu_same _ rfl
    | _ :: _ :: _ => exact fu_same _ rfl
  rw [if_neg h4, if_neg h4]
  by_cases h7 : e.d.kind = 7
  · rw [if_pos h7, if_pos h7]
    match e.l with
    | [] => exact fu_same _ rfl
    | [x] => exact fu_same _ rfl
    | [x, y] => exact fu_same _ rfl
    | _ :: _ :: _ :: _ => exact fu_same _ rfl
  rw [if_neg h7, if_neg h7]
  by_cases h22 : e.d.kind = 22
  · rw [if_pos h22, if_pos h22]; exact fu_read
  · rw [if_neg h22, if_neg h22]; exact fu_same _ rfl
theorem fu_choose (fs : List Frm) (x : Frm) (l : List Val) : Fu k s (s.choose fs x l) ((s.fu k).choose fs x l) := by
  cases l with
  | nil => exact fu_same _ rfl
  | cons z ts =>
    rw [St.choose.eq_2, St.choose.eq_2]
    by_cases h1 : ¬ z.sort = 5 ∨ (1 ≤ ts.length ∧ ¬ (((z :: ts)[ts.length]?).getD z).sort = 1)
    · rw [if_pos h1, if_pos h1]; exact fu_same _ rfl
    rw [if_neg h1, if_neg h1]
    by_cases h2 : 1 ≤ ts.length ∧ (((z :: ts)[ts.length]?).getD z).n = z.n
    · rw [if_pos h2, if_pos h2]
      cases x.e.l[2 * ts.length]? with
      | none => exact fu_same _ rfl
      | some yx =>
        cases x.e.d.names[ts.length - 1]? with
        | none => exact fu_same _ rfl
        | some nme =>
          match z.l with
          | [] => exact fu_same _ rfl
          | [p] => exact fu_same _ rfl
          | _ :: _ :: _ => exact fu_same _ rfl
    rw [if_neg h2, if_neg h2]
    by_cases h3 : ts.length < x.e.d.nn
    · rw [if_pos h3, if_pos h3]
      cases x.e.l[2 * ts.length + 1]? with
      | none => exact fu_same _ rfl
      | some yx => exact fu_same _ rfl
    rw [if_neg h3, if_neg h3]
    by_cases h4 : x.e.d.t = []
    · rw [if_pos h4, if_pos h4]; exact fu_same _ rfl
    rw [if_neg h4, if_neg h4]
    cases x.e.l[x.e.d.pn - 1]? with
    | none => exact fu_same _ rfl
    | some yx => exact fu_same _ rfl
theorem fu_ended (fs : List Frm) (x : Frm) : (s.fu k).ended fs x = (s.ended fs x).fu k := rfl
theorem fu_goOn (fs : List Frm) (x : Frm) (l : List Val) : Fu k s (s.goOn fs x l) ((s.fu k).goOn fs x l) := by
  unfold St.goOn
  by_cases h1 : x.e.d.kind = 14 ∧ 0 < l.length
  · rw [if_pos h1, if_pos h1]; exact fu_choose _ _ _
  rw [if_neg h1, if_neg h1]
  by_cases h2 : x.e.d.kind = 6 ∧ l.length = 1
  · rw [if_pos h2, if_pos h2]
    cases x.e.l[1]? with
    | none => exact fu_same _ rfl
    | some y =>
      match l with
      | [] => exact fu_same _ rfl
      | [z] => exact fu_same _ rfl
      | _ :: _ :: _ => exact fu_same _ rfl
  rw [if_neg h2, if_neg h2]
  by_cases h3 : x.e.d.kind = 15 ∧ l.length = 1
  · rw [if_pos h3, if_pos h3]
    cases x.e.l[1]? with
    | none => exact fu_same _ rfl
    | some y =>
      cases x.e.l[2]? with
      | none => exact fu_same _ rfl
      | some y2 =>
        match l with
        | [] => exact fu_same _ rfl
        | [z] =>
          have := fu_ifd (s := s.ended fs x) (k := k) z y y2 x.env
          exact ⟨this.eq, this.tr⟩
        | _ :: _ :: _ => exact fu_same _ rfl
  rw [if_neg h3, if_neg h3]
  cases x.e.l[l.length]? with
  | some y => exact fu_same _ rfl
  | none =>
    have := fu_apply (s := s.ended fs x) (k := k) x.e.d l
    exact ⟨this.eq, this.tr⟩
/-- Where a step wants fuel. -/
def St.hungry (s : St) : Prop := s.err = 0 ∧ s.next ≠ none ∧ s.fuel ≤ 0
theorem Fu.fuel {s' : St} (h : Fu s.fuel s s' s') : s'.fuel = s.fuel := (congrArg St.fuel h.eq).trans rfl
theorem step_fu (d : Nat) (hd : ¬ s.done) (hh : ¬ s.hungry) : (s.fu (s.fuel + d)).step = s.step.fu (s.step.fuel + d) ∧ ∃ l, s.step.trace = s.trace ++ l := by
  have h0 : s.err = 0 := by
    by_cases q : s.err = 0
    · exact q
    · exact absurd (.inl q) hd
  have e1 : s.step = _ := if_neg (fun q => q h0)
  have e2 : (s.fu (s.fuel + d)).step = _ := if_neg (fun q => q h0)
  rw [e1, e2]
  show (match s.next with
    | some (e, env) => if s.fuel + d ≤ 0 then { s.fu (s.fuel + d) with err := 8 } else St.begin { s.fu (s.fuel + d) with fuel := s.fuel + d - 1, next := none } e env
    | none => match s.frames.reverse with
      | [] => s.fu (s.fuel + d)
      | x :: fr => (s.fu (s.fuel + d)).goOn fr.reverse x (s.vals.drop x.base)) = _ ∧ _
  cases hn : s.next with
  | some p =>
    obtain ⟨e, env⟩ := p
    have hf : ¬ s.fuel ≤ 0 := fun q => hh ⟨h0, by rw [hn]; simp, q⟩
    simp only
    rw [if_neg hf, if_neg (show ¬ s.fuel + d ≤ 0 by omega)]
    obtain ⟨s1, hs1⟩ : ∃ s1 : St, s1 = { s with fuel := s.fuel - 1, next := none } := ⟨_, rfl⟩
    have h1 := fu_begin (s := s1) (k := s.fuel + d - 1) e env
    have h2 := (fu_begin (s := s1) (k := s1.fuel) e env).fuel
    have e3 : ({ s.fu (s.fuel + d) with fuel := s.fuel + d - 1, next := none } : St) = s1.fu (s.fuel + d - 1) := by rw [hs1]; rfl
    rw [e3, ← hs1, h1.eq, h2, show s1.fuel = s.fuel - 1 by rw [hs1], show s.fuel - 1 + (d : Int) = s.fuel + d - 1 by omega]
    obtain ⟨l, hl⟩ := h1.tr
    exact ⟨rfl, l, by rw [hl, hs1]⟩
  | none =>
    simp only
    cases hr : s.frames.reverse with
    | nil => exact absurd (.inr ⟨hn, List.reverse_eq_nil_iff.1 hr⟩) hd
    | cons x fr =>
      simp only
      have h1 := fu_goOn (s := s) (k := s.fuel + d) fr.reverse x (s.vals.drop x.base)
      have h2 := (fu_goOn (s := s) (k := s.fuel) fr.reverse x (s.vals.drop x.base)).fuel
      rw [h1.eq, h2]
      exact ⟨rfl, h1.tr⟩
theorem step_hungry (h : s.hungry) : s.step = { s with err := 8 } := by
  unfold St.step
  rw [if_neg (fun q => q h.1)]
  cases hn : s.next with
  | none => exact absurd hn h.2.1
  | some p =>
    simp only
    rw [if_pos h.2.2]
theorem step_done (h : s.done) : s.step = s := by
  unfold St.step
  rcases h with h | ⟨h1, h2⟩
  · rw [if_pos h]
  · by_cases q : s.err ≠ 0
    · rw [if_pos q]
    · rw [if_neg q, h1, h2]; rfl
end
def St.run : Nat → St → St
  | 0, s => s
  | n + 1, s => St.run n s.step
theorem run_done {s : St} (h : s.done) (n : Nat) : St.run n s = s := by
  induction n with
  | zero => rfl
  | succ n ih => show St.run n s.step = s; rw [step_done h, ih]
theorem run_succ (n : Nat) (s : St) : St.run (n + 1) s = (St.run n s).step := by
  induction n generalizing s with
  | zero => rfl
  | succ n ih => exact ih s.step
theorem step_trace (s : St) : ∃ l, s.step.trace = s.trace ++ l := by
  by_cases hd : s.done
  · exact ⟨[], by rw [step_done hd, List.append_nil]⟩
  by_cases hh : s.hungry
  · exact ⟨[], by rw [step_hungry hh, List.append_nil]⟩
  · exact (step_fu 0 hd hh).2
theorem run_trace (n : Nat) (s : St) : ∃ l, (St.run n s).trace = s.trace ++ l := by
  induction n generalizing s with
  | zero => exact ⟨[], (List.append_nil _).symm⟩
  | succ n ih =>
    obtain ⟨l1, h1⟩ := step_trace s
    obtain ⟨l2, h2⟩ := ih s.step
    exact ⟨l1 ++ l2, by show (St.run n s.step).trace = _; rw [h2, h1, List.append_assoc]⟩
/-- With more fuel: what ended ends so; else what was printed goes on. -/
theorem run_more (d : Nat) (n m : Nat) (s : St) (ha : (St.run n s).done) (hb : (St.run m (s.fu (s.fuel + d))).done) :
    ((St.run n s).err ≠ 8 → St.run m (s.fu (s.fuel + d)) = (St.run n s).fu ((St.run n s).fuel + d)) ∧ ((St.run n s).err = 8 → ∃ l, (St.run m (s.fu (s.fuel + d))).trace = (St.run n s).trace ++ l) := by
  have hdone : ∀ s : St, s.done → (s.fu (s.fuel + d)).done := fun s h => h
  have hsame : ∀ (s : St) (m : Nat), s.done → (s.err ≠ 8 → St.run m (s.fu (s.fuel + d)) = s.fu (s.fuel + d)) ∧ (s.err = 8 → ∃ l, (St.run m (s.fu (s.fuel + d))).trace = s.trace ++ l) := fun s m h =>
    ⟨fun _ => run_done (hdone s h) m, fun _ => run_trace m (s.fu (s.fuel + d))⟩
  induction n generalizing s m with
  | zero => exact hsame s m ha
  | succ n ih =>
    by_cases hd : s.done
    · rw [run_done hd] at ha ⊢
      exact hsame s m hd
    by_cases hh : s.hungry
    · have e : St.run (n + 1) s = { s with err := 8 } := by
        show St.run n s.step = _
        rw [step_hungry hh]
        exact run_done (.inl (show (8 : Int) ≠ 0 by decide)) n
      rw [e]
      exact ⟨fun q => absurd rfl q, fun _ => run_trace m (s.fu (s.fuel + d))⟩
    · obtain ⟨e, _⟩ := step_fu d hd hh
      cases m with
      | zero => exact absurd hb hd
      | succ m =>
        have e2 : St.run (m + 1) (s.fu (s.fuel + d)) = St.run m (s.step.fu (s.step.fuel + d)) := by show St.run m (s.fu (s.fuel + d)).step = _; rw [e]
        rw [e2] at hb ⊢
        exact ih m s.step ha hb
end Go.Proofs.YtpdfjdomjklkbaaGreatDoor
