/-
  The law, walked: whatever its argument holds.
-/
import Derived.Test.YtaglmmcjhlehjaaGreatDoorExG
import Derived.Test.YtaglmmcjhlehjaaGreatDoorExK
import Derived.Test.YtaglmmcjhlehjaaGreatDoorExL
import Derived.Deep.RegionHeld3
import Derived.Deep.CutRange
namespace Go.Proofs.YtaglmmcjhlehjaaGreatDoor
open Go.ChangeShapes Go.WideShapes Go.ChangeAt Go.RowKit Go.Sort Go.Maps
set_option linter.unusedVariables false
set_option linter.unusedSimpArgs false
attribute [local irreducible] Go.wpQuiet

set_option maxRecDepth 100000 in
set_option maxHeartbeats 4000000 in
theorem synParts_any (hup : ∀ W : World, Lay W → Calls Tryz.prog 7 #[] W fun e w' => e = .returned (.bool true) ∧ Below W.heap.size W w') (d : ExD) (l : List Ex) (w : World) (hI : (Ex.mk d l).In w) (hL : Lay w) :
    Calls Tryz.prog 3 #[.agg d.arr] w fun e w' => e = .returned (.bool true) ∧ Below w.heap.size w w' := by
  have hb1 : Below w.heap.size w (w.alloc (.cells d.arr 25)) := (Below.refl _ _).alloc (Nat.le_refl _) _
  have hE1 := ex_box w d
  have HUP := Lib.hid hup
  have HI := Lib.hid (And.intro hI hL)
  clear hup hI hL
  go_enter Tryz.func3, Tryz.ntmps3
  go_wp2_with fail
  generalize (w.alloc (.cells d.arr 25)) = w1 at *
  have HE := Lib.hid (fun W (h : Below w1.heap.size w1 W) => hE1.lower h)
  have HB1 := Lib.hid hb1
  clear hb1 hE1
  refine (HUP.out w1 (HI.out.2.below HB1.out)).mono ?_
  rintro e w2 ⟨rfl, hb2⟩
  have HB2 := Lib.hid hb2
  obtain ⟨a0, a1, a2, a3, a4, a5, a6, a7⟩ := HE.out w2 hb2
  clear hb2
  go_wp2_with fail
  refine (Few_any w (Ex.mk d l) HI.out.1 w2 (below_then HB1.out HB2.out)).mono ?_
  rintro e w3 ⟨⟨v, rfl⟩, hb3⟩
  have HB3 := Lib.hid (below_then HB2.out hb3)
  clear hb3 HB2 a0 a1 a2 a3 a4 a5 a6 a7
  obtain ⟨a0, a1, a2, a3, a4, a5, a6, a7⟩ := HE.out w3 HB3.out
  cases v with
  | false =>
    go_wp2_with fail
    go_returns
    exact ⟨rfl, below_then HB1.out HB3.out⟩
  | true =>
  go_wp2_with fail
  refine (may_any (Ex.mk d l) w3 (HI.out.2.below (below_then HB1.out HB3.out)) (HI.out.1.lower (below_then HB1.out HB3.out))).mono ?_
  rintro e w4 ⟨rfl, hb4⟩
  have HB4 := Lib.hid (below_then HB3.out hb4)
  clear hb4 HB3 a0 a1 a2 a3 a4 a5 a6 a7
  obtain ⟨a0, a1, a2, a3, a4, a5, a6, a7⟩ := HE.out w4 HB4.out
  cases hm : (mayE (Ex.mk d l) 1 0).isSome with
  | false =>
    go_wp2_with fail
    go_returns
    exact ⟨rfl, below_then HB1.out HB4.out⟩
  | true =>
  have HM := Lib.hid (And.intro hm (may_le hm))
  clear hm
  go_wp2_with fail
  refine (Free_any (Ex.mk d l) w4 (HI.out.1.lower (below_then HB1.out HB4.out)) (by have := HM.out.2.2; omega)).mono ?_
  rintro e w5 ⟨A1, n1, c1, ss1, rfl, hr1, hn1, hin1, hout1, hb5, _⟩
  have HF := Lib.hid (And.intro hr1 (And.intro hn1 (And.intro hin1 (And.intro hout1 (rd_len hr1)))))
  have HB5 := Lib.hid (below_then HB4.out hb5)
  have HI5 := Lib.hid (And.intro (HI.out.1.lower (below_then HB1.out HB5.out)) (HI.out.2.below (below_then HB1.out HB5.out)))
  have HE5 := Lib.hid (fun W (h : Below w5.heap.size w5 W) => HE.out W (below_then HB5.out h))
  have HBW := Lib.hid (below_then HB1.out HB5.out)
  have HLEN := Lib.hid (show l.length = d.pn from HI5.out.1.len)
  have HCAP := Lib.hid (show _ from HI5.out.1.cap)
  clear hr1 hn1 hin1 hout1 hb5 HB4 HB5 HE HB1 HUP HI a0 a1 a2 a3 a4 a5 a6 a7
  obtain ⟨bx, hbx⟩ : ∃ bx, w.heap.size = bx := ⟨_, rfl⟩
  rw [hbx] at HE5 ⊢
  go_wp2_with fail
  try go_frame
  go_loopw [6] (fun i wr => ∃ m : Nat, i = .int .i64 m ∧ m ≤ d.pn ∧ Below w5.heap.size w5 wr) (fun i _ => d.pn - (intOf i).toNat)
  case atStart => exact ⟨0, rfl, Nat.zero_le _, Below.refl _ _⟩
  case round =>
    obtain ⟨m, rfl, hm, hbr⟩ := hrel
    have HBR := Lib.hid hbr
    have c7 := (HE5.out wr hbr).c7
    clear hbr
    by_cases hlt : m < d.pn
    · have hml : m < l.length := by rw [HLEN.out]; exact hlt
      obtain ⟨pb, po, hpA, hAtP⟩ := HI5.out.1.part (k := m) hml
      have hpA' : d.pA = some ⟨pb, po, none⟩ := hpA
      have hAtM : (l[m]).d.At w5 pb (po + m * 8) := hAtP m hml
      rw [hpA'] at c7
      have hlti : (m : Int) < (d.pn : Int) := by omega
      have hmi : (m : Int) ≤ 9223372036854775806 := by have h := HCAP.out.2.2.1.2.2; simp only [Ex.d] at h; omega
      obtain ⟨x, hx⟩ : ∃ x, l[m] = x := ⟨_, rfl⟩
      rw [hx] at hAtM
      have hxm : x ∈ l := by rw [← hx]; exact List.getElem_mem hml
      have hxI : x.In w5 := HI5.out.1.sub x hxm
      have hxM := may_part HM.out.1 hxm
      have HX := Lib.hid (And.intro hxI (And.intro hxM (And.intro (may_le hxM) (And.intro hAtM (And.intro hlt hml)))))
      have hdd : x.depth < (Ex.mk d l).depth := by have := depthL_mem l x hxm; simp only [Ex.depth]; omega
      have hnn : x.nodes < (Ex.mk d l).nodes := by have := enodesL_mem l x hxm; simp only [Ex.nodes]; omega
      have HFP := Lib.hid (fun (s : Str) (h : x.freeB s = true) => free_part (d := d) (l := l) (k := m) (x := s) hml (by rw [hx]; exact h))
      have HPA := Lib.hid hpA'
      clear hpA hpA' hAtP hx hxm hxI hxM hml hAtM
      go_upto_region 9 with fail
      go_cut [60] from 32 to 60 (fun s60 wx => s60 = .bool false ∧ Below wr.heap.size wr wx)
      case first =>
        have HP := Lib.hid (HX.out.2.2.2.1.lower HBR.out)
        have HS := Lib.hid (fun (W : World) (hW : Below wr.heap.size wr W) => (show W.cell? ⟨bx, 0 + 7, none⟩ = some (.slice (some ⟨pb, po, none⟩) d.pn d.pc) ∧ (x.d.At W pb (po + m * 8)) ∧ d.At W bx 0 from ⟨cell_below hW c7, HP.out.lower hW, (HE5.out _ (below_then HBR.out hW))⟩))
        have B0 := Lib.hid (show Below wr.heap.size wr wr.drew from below_drewN (Below.refl _ _) 1)
        have HC1 := Lib.hid (fun (W : World) (hW : Below wr.heap.size wr W) => (show Calls Tryz.prog 9 #[.agg x.d.arr] W fun e w' => e = .returned (.bool true) ∧ Below wr.heap.size wr w' from (may_any x W ((HI5.out.2.below HBR.out).below hW) (HX.out.1.lower (below_then HBR.out hW))).mono fun e w' h => ⟨by rw [h.1, HX.out.2.1], below_then hW h.2⟩))
        have HC2 := Lib.hid (fun (W : World) (hW : Below wr.heap.size wr W) => (show Calls Tryz.prog 11 #[.agg x.d.arr] W fun e w' => e = .returned (.int .i64 (x.depth : Int)) ∧ Below wr.heap.size wr w' from (Depth_any x W (HX.out.1.lower (below_then HBR.out hW)) (by have := HX.out.2.2.1.2; omega)).mono fun e w' h => ⟨h.1, below_then hW h.2⟩))
        have HC3 := Lib.hid (fun (W : World) (hW : Below wr.heap.size wr W) => (show Calls Tryz.prog 11 #[.agg d.arr] W fun e w' => e = .returned (.int .i64 ((Ex.mk d l).depth : Int)) ∧ Below wr.heap.size wr w' from (Depth_any (Ex.mk d l) W (HI5.out.1.lower (below_then HBR.out hW)) (by have := HM.out.2.2; omega)).mono fun e w' h => ⟨h.1, below_then hW h.2⟩))
        have HC4 := Lib.hid (fun (W : World) (hW : Below wr.heap.size wr W) => (show Calls Tryz.prog 12 #[.agg x.d.arr] W fun e w' => e = .returned (.int .i64 (x.nodes : Int)) ∧ Below wr.heap.size wr w' from (Nodes_any x W (HX.out.1.lower (below_then HBR.out hW)) (by have := HX.out.2.2.1.2; omega)).mono fun e w' h => ⟨h.1, below_then hW h.2⟩))
        have HC5 := Lib.hid (fun (W : World) (hW : Below wr.heap.size wr W) => (show Calls Tryz.prog 12 #[.agg d.arr] W fun e w' => e = .returned (.int .i64 ((Ex.mk d l).nodes : Int)) ∧ Below wr.heap.size wr w' from (Nodes_any (Ex.mk d l) W (HI5.out.1.lower (below_then HBR.out hW)) (by have := HM.out.2.2; omega)).mono fun e w' h => ⟨h.1, below_then hW h.2⟩))
        obtain ⟨dx, hdx⟩ : ∃ dx, x.depth = dx := ⟨_, rfl⟩
        obtain ⟨dt, hdt⟩ : ∃ dt, (Ex.mk d l).depth = dt := ⟨_, rfl⟩
        obtain ⟨nx, hnx⟩ : ∃ nx, x.nodes = nx := ⟨_, rfl⟩
        obtain ⟨nt, hnt⟩ : ∃ nt, (Ex.mk d l).nodes = nt := ⟨_, rfl⟩
        rw [hdx] at HC2 hdd
        rw [hdt] at HC3 hdd
        rw [hnx] at HC4 hnn
        rw [hnt] at HC5 hnn
        have hd1 : ¬ (dt : Int) ≤ (dx : Int) := by omega
        have hn1 : ¬ (nt : Int) ≤ (nx : Int) := by omega
        have hd2 : decide (dt ≤ dx) = false := decide_eq_false (by omega)
        have hn2 : decide (nt ≤ nx) = false := decide_eq_false (by omega)
        have hm0 : (0 : Int) ≤ (m : Int) := Int.natCast_nonneg _
        have earr : d.arr = #[.int .i64 d.kind, .int .i64 d.at_, .int .i64 d.n, .string (bstr d.s), .string (bstr d.t), .slice d.lA d.ln d.lc, .slice d.nA d.nn d.nc, .slice (some ⟨pb, po, none⟩) d.pn d.pc] := by rw [← HPA.out]
        rw [earr] at HC3 HC5
        clear earr
        obtain ⟨xd, hxd⟩ : ∃ xd, x.d = xd := ⟨_, rfl⟩
        rw [hxd] at HS HC1 HC2 HC4
        clear hdd hnn hdx hdt hnx hnt hxd
        go_region_held3 (fun W => W.cell? ⟨pb, po + m * 8, none⟩ = some (.int .i64 xd.kind) ∧ W.cell? ⟨pb, po + m * 8 + 1, none⟩ = some (.int .i64 xd.at_) ∧ W.cell? ⟨pb, po + m * 8 + 2, none⟩ = some (.int .i64 xd.n) ∧ W.cell? ⟨pb, po + m * 8 + 3, none⟩ = some (.string (bstr xd.s)) ∧ W.cell? ⟨pb, po + m * 8 + 4, none⟩ = some (.string (bstr xd.t)) ∧ W.cell? ⟨pb, po + m * 8 + 5, none⟩ = some (.slice xd.lA xd.ln xd.lc) ∧ W.cell? ⟨pb, po + m * 8 + 6, none⟩ = some (.slice xd.nA xd.nn xd.nc) ∧ W.cell? ⟨pb, po + m * 8 + 7, none⟩ = some (.slice xd.pA xd.pn xd.pc) ∧ W.cell? ⟨bx, 0, none⟩ = some (.int .i64 d.kind) ∧ W.cell? ⟨bx, 0 + 1, none⟩ = some (.int .i64 d.at_) ∧ W.cell? ⟨bx, 0 + 2, none⟩ = some (.int .i64 d.n) ∧ W.cell? ⟨bx, 0 + 3, none⟩ = some (.string (bstr d.s)) ∧ W.cell? ⟨bx, 0 + 4, none⟩ = some (.string (bstr d.t)) ∧ W.cell? ⟨bx, 0 + 5, none⟩ = some (.slice d.lA d.ln d.lc) ∧ W.cell? ⟨bx, 0 + 6, none⟩ = some (.slice d.nA d.nn d.nc) ∧ W.cell? ⟨bx, 0 + 7, none⟩ = some (.slice (some ⟨pb, po, none⟩) d.pn d.pc))
          (first | exact (let h := HS.out _ B0.out; ⟨h.2.1.c0, h.2.1.c1, h.2.1.c2, h.2.1.c3, h.2.1.c4, h.2.1.c5, h.2.1.c6, h.2.1.c7, h.2.2.c0, h.2.2.c1, h.2.2.c2, h.2.2.c3, h.2.2.c4, h.2.2.c5, h.2.2.c6, h.1⟩) | exact (let h := HS.out _ h1; ⟨h.2.1.c0, h.2.1.c1, h.2.1.c2, h.2.1.c3, h.2.1.c4, h.2.1.c5, h.2.1.c6, h.2.1.c7, h.2.2.c0, h.2.2.c1, h.2.2.c2, h.2.2.c3, h.2.2.c4, h.2.2.c5, h.2.2.c6, h.1⟩) | exact (let h := HS.out _ h2; ⟨h.2.1.c0, h.2.1.c1, h.2.1.c2, h.2.1.c3, h.2.1.c4, h.2.1.c5, h.2.1.c6, h.2.1.c7, h.2.2.c0, h.2.2.c1, h.2.2.c2, h.2.2.c3, h.2.2.c4, h.2.2.c5, h.2.2.c6, h.1⟩) | exact (let h := HS.out _ h3; ⟨h.2.1.c0, h.2.1.c1, h.2.1.c2, h.2.1.c3, h.2.1.c4, h.2.1.c5, h.2.1.c6, h.2.1.c7, h.2.2.c0, h.2.2.c1, h.2.2.c2, h.2.2.c3, h.2.2.c4, h.2.2.c5, h.2.2.c6, h.1⟩) | exact (let h := HS.out _ h4; ⟨h.2.1.c0, h.2.1.c1, h.2.1.c2, h.2.1.c3, h.2.1.c4, h.2.1.c5, h.2.1.c6, h.2.1.c7, h.2.2.c0, h.2.2.c1, h.2.2.c2, h.2.2.c3, h.2.2.c4, h.2.2.c5, h.2.2.c6, h.1⟩) | exact (let h := HS.out _ h5; ⟨h.2.1.c0, h.2.1.c1, h.2.1.c2, h.2.1.c3, h.2.1.c4, h.2.1.c5, h.2.1.c6, h.2.1.c7, h.2.2.c0, h.2.2.c1, h.2.2.c2, h.2.2.c3, h.2.2.c4, h.2.2.c5, h.2.2.c6, h.1⟩) | fail)
          (first
            | (go_at_call 9; (with_reducible refine (HC1.out _ B0.out).mono ?_); rintro e v1 ⟨rfl, h1⟩)
            | (go_at_call 11; (with_reducible refine (HC2.out _ h1).mono ?_); rintro e v2 ⟨rfl, h2⟩)
            | (go_at_call 11; (with_reducible refine (HC3.out _ h2).mono ?_); rintro e v3 ⟨rfl, h3⟩)
            | (go_at_call 12; (with_reducible refine (HC4.out _ h3).mono ?_); rintro e v4 ⟨rfl, h4⟩)
            | (go_at_call 12; (with_reducible refine (HC5.out _ h4).mono ?_); rintro e v5 ⟨rfl, h5⟩)
            | fail)
        all_goals
          go_wp2_with fail
          go_meet
          exact ⟨rfl, by first | exact h5 | exact below_drewN h5 1⟩
      case rest =>
      obtain ⟨rfl, hbx2⟩ := hcut
      have HBX := Lib.hid (below_then HBR.out hbx2)
      clear hbx2 c7 HBR
      have c7 := (HE5.out _ HBX.out).c7
      rw [HPA.out] at c7
      obtain ⟨p0, p1, p2, p3, p4, p5, p6, p7⟩ := HX.out.2.2.2.1.lower HBX.out
      have HFX := Lib.hid (Free_any x _ (HX.out.1.lower HBX.out) (by have := HX.out.2.2.1.2; omega))
      clear hdd hnn
      go_wp2_with fail
      refine HFX.out.mono ?_
      rintro e w7 ⟨A2, n2, c2, ss2, rfl, hr2, hn2, hin2, hout2, hb7, _⟩
      have HF2 := Lib.hid (And.intro hr2 (And.intro hn2 (And.intro hin2 (rd_len hr2))))
      have HB7 := Lib.hid (below_then HBX.out hb7)
      clear HFX hr2 hn2 hin2 hout2 hb7 HBX c7 p0 p1 p2 p3 p4 p5 p6 p7
      go_wp2_with fail
      try go_frame
      go_loopw [8] (fun i wq => ∃ k : Nat, i = .int .i64 k ∧ k ≤ n2 ∧ Below w7.heap.size w7 wq) (fun i _ => n2 - (intOf i).toNat)
      case atStart => exact ⟨0, rfl, Nat.zero_le _, Below.refl _ _⟩
      case round =>
        obtain ⟨k, rfl, hk, hbk⟩ := hrel
        have HBK := Lib.hid hbk
        by_cases hkn : k < n2
        · have hkl : k < ss2.length := by rw [HF2.out.2.2.2]; exact hkn
          obtain ⟨ab, ao, rfl, hcs⟩ := (HF2.out.1.below hbk).str hkl
          have hc := hcs k hkl
          have hkni : (k : Int) < (n2 : Int) := by omega
          have hki : (k : Int) ≤ 4000000 := by have := HF2.out.2.1; omega
          have hk0 : (0 : Int) ≤ (k : Int) := Int.natCast_nonneg _
          obtain ⟨y, hy⟩ : ∃ y, ss2[k] = y := ⟨_, rfl⟩
          rw [hy] at hc
          have hym : x.freeB y = true ∧ y.length ≤ maxLen := HF2.out.2.2.1 y (by rw [← hy]; exact List.getElem_mem hkl)
          have HB8 := Lib.hid (below_then HB7.out hbk)
          have HY := Lib.hid (And.intro hym (And.intro (HFP.out y hym.1) (And.intro hc hkn)))
          have c3 := (HE5.out _ HB8.out).c3
          have c4 := (HE5.out _ HB8.out).c4
          have HC34 := Lib.hid (And.intro c3 c4)
          clear hcs hkl hy hym hbk
          go_upto_region 15 with fail
          go_cut [9] from 73 to 88 (fun s9 wx => s9 = .bool (decide (y = d.s) || decide (y = d.t)) ∧ Below wr.heap.size wr wx)
          case first =>
            by_cases e1 : y = d.s
            · have g1 : ((bstr y).toList == (bstr d.s).toList) = true := by rw [beq_bstr]; simpa using e1
              have E1 := Lib.hid e1
              clear e1
              go_quiet (fail)
              go_wp2_with fail
              go_meet
              exact ⟨by rw [decide_eq_true E1.out]; rfl, below_drewN (Below.refl _ _) _⟩
            · have g1 : ((bstr y).toList == (bstr d.s).toList) = false := by rw [beq_bstr]; simpa using e1
              have E1 := Lib.hid e1
              clear e1
              by_cases e2 : y = d.t
              · have g2 : ((bstr y).toList == (bstr d.t).toList) = true := by rw [beq_bstr]; simpa using e2
                have E2 := Lib.hid e2
                clear e2
                go_quiet (fail)
                go_wp2_with fail
                go_meet
                exact ⟨by rw [decide_eq_true E2.out, decide_eq_false E1.out]; rfl, below_drewN (Below.refl _ _) _⟩
              · have g2 : ((bstr y).toList == (bstr d.t).toList) = false := by rw [beq_bstr]; simpa using e2
                have E2 := Lib.hid e2
                clear e2
                go_quiet (fail)
                go_wp2_with fail
                go_meet
                exact ⟨by rw [decide_eq_false E2.out, decide_eq_false E1.out]; rfl, below_drewN (Below.refl _ _) _⟩
          case rest =>
          obtain ⟨rfl, hb9⟩ := hcut
          have HB9 := Lib.hid (below_then HBK.out hb9)
          have hc := cell_below hb9 hc
          clear hb9 HB8 c3 c4 HC34
          have HC9 := Lib.hid hc
          clear hc
          obtain ⟨v0, hv0⟩ : ∃ v0, (decide (y = d.s) || decide (y = d.t)) = v0 := ⟨_, rfl⟩
          have HV0 := Lib.hid hv0
          rw [hv0]
          clear hv0
          go_wp2_with fail
          try go_frame
          go_loopw [9, 10] (fun v i wz => ∃ k2 : Nat, v = .bool (v0 || decide (y ∈ ss1.take k2)) ∧ i = .int .i64 k2 ∧ k2 ≤ n1 ∧ Below w7.heap.size w7 wz ∧ wz.cell? ⟨ab, ao + k, none⟩ = some (.string (bstr y))) (fun _ i _ => n1 - (intOf i).toNat)
          case atStart => exact ⟨0, by simp, rfl, Nat.zero_le _, HB9.out, HC9.out⟩
          case round =>
            clear HB9 HC9
            obtain ⟨k2, rfl, rfl, hk2, hbz, hc⟩ := hrel
            have HBZ := Lib.hid hbz
            have HCZ := Lib.hid hc
            have HB5Z := Lib.hid (HB7.out.trans (hbz.mono HB7.out.size))
            clear hbz
            obtain ⟨v, hv⟩ : ∃ v, (v0 || decide (y ∈ ss1.take k2)) = v := ⟨_, rfl⟩
            have HV := Lib.hid hv
            rw [hv]
            clear hv
            by_cases hkn2 : k2 < n1
            · have hk2l : k2 < ss1.length := by rw [HF.out.2.2.2.2]; exact hkn2
              obtain ⟨eb, eo, heA, hds⟩ := (HF.out.1.below HB5Z.out).str hk2l
              subst heA
              have hz := hds k2 hk2l
              have hki2 : (k2 : Int) < (n1 : Int) := by omega
              have hki4 : (k2 : Int) ≤ 4000000 := by have := HF.out.2.1; omega
              have hk20 : (0 : Int) ≤ (k2 : Int) := Int.natCast_nonneg _
              obtain ⟨z, hzz⟩ : ∃ z, ss1[k2] = z := ⟨_, rfl⟩
              rw [hzz] at hz
              have HTK := Lib.hid (show ss1.take (k2 + 1) = ss1.take k2 ++ [z] by rw [List.take_succ_eq_append_getElem hk2l, hzz])
              clear hds hzz hk2l
              cases v with
              | true =>
                go_wp2_with fail
                go_quiet (fail)
                clear hc hz hk20
                go_wp2_with fail
                go_roundw
                case rel => exact ⟨k2 + 1, by rw [HTK.out]; have h := HV.out; simp only [Bool.or_eq_true, decide_eq_true_eq, List.mem_append] at h ⊢; congr 1; symm; simp only [Bool.or_eq_true, decide_eq_true_eq, List.mem_append]; exact h.imp id .inl, by go_num, hkn2, below_drewN HBZ.out _, HCZ.out⟩
                case measure => simp [intOf] <;> omega
              | false =>
                by_cases e : z = y
                · have g1 : ((bstr z).toList == (bstr y).toList) = true := by rw [beq_bstr]; simpa using e
                  have E1 := Lib.hid e
                  clear e
                  go_wp2_with fail
                  go_quiet (fail)
                  clear hc hz hk20 g1
                  go_wp2_with fail
                  go_roundw
                  case rel => exact ⟨k2 + 1, by rw [HTK.out, E1.out]; simp, by go_num, hkn2, below_drewN HBZ.out _, HCZ.out⟩
                  case measure => simp [intOf] <;> omega
                · have g1 : ((bstr z).toList == (bstr y).toList) = false := by rw [beq_bstr]; simpa using e
                  have E1 := Lib.hid e
                  clear e
                  go_wp2_with fail
                  go_quiet (fail)
                  clear hc hz hk20 g1
                  go_wp2_with fail
                  go_roundw
                  case rel => exact ⟨k2 + 1, by rw [HTK.out]; have h := HV.out; have e2 : ¬ y = z := fun h => E1.out h.symm; simp only [Bool.or_eq_false_iff, decide_eq_false_iff_not] at h; simp [h.1, h.2, e2], by go_num, hkn2, below_drewN HBZ.out _, HCZ.out⟩
                  case measure => simp [intOf] <;> omega
            · have hki2 : ¬ (k2 : Int) < (n1 : Int) := by omega
              have HV1 := Lib.hid (show (v0 || decide (y ∈ ss1)) = v by rw [← HV.out, List.take_of_length_le (by rw [HF.out.2.2.2.2]; omega)])
              clear HV hc
              go_wp2_with fail
              try go_frame
              clear hki2
              go_loopw [9, 11] (fun v' i wz => ∃ k3 : Nat, v' = .bool (v || decide (y ∈ d.names.take k3)) ∧ i = .int .i64 k3 ∧ k3 ≤ d.nn ∧ Below w7.heap.size w7 wz ∧ wz.cell? ⟨ab, ao + k, none⟩ = some (.string (bstr y))) (fun _ i _ => d.nn - (intOf i).toNat)
              case atStart => exact ⟨0, by simp, rfl, Nat.zero_le _, HBZ.out, HCZ.out⟩
              case round =>
                clear HBZ HCZ HB5Z
                obtain ⟨k3, rfl, rfl, hk3, hbz, hc⟩ := hrel
                have HBZ := Lib.hid hbz
                have HCZ := Lib.hid hc
                have HB5Z := Lib.hid (HB7.out.trans (hbz.mono HB7.out.size))
                clear hbz
                obtain ⟨v2, hv2⟩ : ∃ v2, (v || decide (y ∈ d.names.take k3)) = v2 := ⟨_, rfl⟩
                have HV := Lib.hid hv2
                rw [hv2]
                clear hv2
                have c6 := (HE5.out _ HB5Z.out).c6
                have hnl : d.names.length = d.nn := HI5.out.1.namLen
                have HNL := Lib.hid hnl
                clear hnl
                by_cases hkn3 : k3 < d.nn
                · have hk3l : k3 < d.names.length := by rw [HNL.out]; exact hkn3
                  obtain ⟨eb, eo, heA, hds⟩ := (HI5.out.1.nam.below HB5Z.out).str hk3l
                  have heA' : d.nA = some ⟨eb, eo, none⟩ := heA
                  rw [heA'] at c6
                  have hz := hds k3 hk3l
                  have hki2 : (k3 : Int) < (d.nn : Int) := by omega
                  have hki4 : (k3 : Int) ≤ 9223372036854775806 := by have h := HCAP.out.2.1.2.2; simp only [Ex.d] at h; omega
                  have hk20 : (0 : Int) ≤ (k3 : Int) := Int.natCast_nonneg _
                  simp only [Ex.d] at hz
                  obtain ⟨z, hzz⟩ : ∃ z, d.names[k3] = z := ⟨_, rfl⟩
                  rw [hzz] at hz
                  have HTK := Lib.hid (show d.names.take (k3 + 1) = d.names.take k3 ++ [z] by rw [List.take_succ_eq_append_getElem hk3l, hzz])
                  clear hds hzz hk3l heA heA'
                  cases v2 with
                  | true =>
                    go_wp2_with fail
                    go_quiet (fail)
                    clear hc hz hk20 c6
                    go_wp2_with fail
                    go_roundw
                    case rel => exact ⟨k3 + 1, by rw [HTK.out]; have h := HV.out; simp only [Bool.or_eq_true, decide_eq_true_eq, List.mem_append] at h ⊢; congr 1; symm; simp only [Bool.or_eq_true, decide_eq_true_eq, List.mem_append]; exact h.imp id .inl, by go_num, hkn3, below_drewN HBZ.out _, HCZ.out⟩
                    case measure => simp [intOf] <;> omega
                  | false =>
                    by_cases e : z = y
                    · have g1 : ((bstr z).toList == (bstr y).toList) = true := by rw [beq_bstr]; simpa using e
                      have E1 := Lib.hid e
                      clear e
                      go_wp2_with fail
                      go_quiet (fail)
                      clear hc hz hk20 g1 c6
                      go_wp2_with fail
                      go_roundw
                      case rel => exact ⟨k3 + 1, by rw [HTK.out, E1.out]; simp, by go_num, hkn3, below_drewN HBZ.out _, HCZ.out⟩
                      case measure => simp [intOf] <;> omega
                    · have g1 : ((bstr z).toList == (bstr y).toList) = false := by rw [beq_bstr]; simpa using e
                      have E1 := Lib.hid e
                      clear e
                      go_wp2_with fail
                      go_quiet (fail)
                      clear hc hz hk20 g1 c6
                      go_wp2_with fail
                      go_roundw
                      case rel => exact ⟨k3 + 1, by rw [HTK.out]; have h := HV.out; have e2 : ¬ y = z := fun h => E1.out h.symm; simp only [Bool.or_eq_false_iff, decide_eq_false_iff_not] at h; simp [h.1, h.2, e2], by go_num, hkn3, below_drewN HBZ.out _, HCZ.out⟩
                      case measure => simp [intOf] <;> omega
                · have hki2 : ¬ (k3 : Int) < (d.nn : Int) := by omega
                  have htk : d.names.take k3 = d.names := List.take_of_length_le (by rw [HNL.out]; omega)
                  have hv2 : v2 = true := by
                    rw [← HV.out, htk, ← HV1.out, ← HV0.out]
                    rcases HY.out.2.1 with h | h | h | h
                    · simp [h]
                    · simp [h]
                    · have := HF.out.2.2.2.1 y HY.out.1.2 h; simp [this]
                    · simp [h]
                  subst hv2
                  clear htk hc
                  go_wp2_with fail
                  go_roundw
                  case rel => exact ⟨k + 1, by go_num, HY.out.2.2.2, HBZ.out⟩
                  case measure => have := HY.out.2.2.2; simp [intOf] <;> omega
        · have hkni : ¬ (k : Int) < (n2 : Int) := by omega
          go_wp2_with fail
          go_roundw
          case rel => exact ⟨m + 1, by go_num, HX.out.2.2.2.2.1, HB7.out.trans (HBK.out.mono HB7.out.size)⟩
          case measure => have := HX.out.2.2.2.2.1; simp [intOf] <;> omega
    · have hlti : ¬ (m : Int) < (d.pn : Int) := by omega
      go_wp2_with fail
      go_returns
      rw [← hbx]; exact ⟨rfl, below_then HBW.out HBR.out⟩
end Go.Proofs.YtaglmmcjhlehjaaGreatDoor
