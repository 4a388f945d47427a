/-
  Numbers for the binders of an expression and its parts, by the code: the walk.
-/
import Derived.Test.YtaglmmcjhlehjaaGreatDoorK19
import Derived.Deep.CutRange
import Derived.Deep.CutBlock
namespace Go.Proofs.YtaglmmcjhlehjaaGreatDoor
open Go.ChangeShapes Go.WideShapes Go.ChangeAt Go.RowKit Go.Sort
set_option linter.unusedVariables false
set_option linter.unusedSimpArgs false

set_option maxRecDepth 100000 in
set_option maxHeartbeats 8000000 in
theorem of_one (w0 : World) (d : ExD) (l : List Ex) (hI : (Ex.mk d l).In w0) (N : Nat) (hK : KidsO w0 N l) (hN : w0.heap.size ≤ N) (env : List Bd) (A : Option Addr) (cA : Nat) (ol : List Str) (v : Value) (w : World) (b o : Nat) (hb : Below w0.heap.size w0 w) (hO : NO w N ol v) (hT : TB N w)
    (hE : w.ownsRow (N + 1) 115 2 (.slice A env.length cA) env.length (bds env)) (hEv : ∀ k, (Value.slice A env.length cA).ownBlock = some k → some k ≠ v.ownBlock) (hEL : ∀ p ∈ env, p.2.length ≤ 9223372036854775807) (hA : d.At w0 b o) (hf : (Ex.mk d l).fineE = true) (hm : ol.length + (Ex.mk d l).bsN ≤ 4000000) (hd : env.length + 2 * (depthL l + 1) ≤ 4000000) :
    Calls Tryz.prog 48 #[.pointer (some ⟨N, 0, none⟩), .pointer (some ⟨b, o, none⟩), .slice A env.length cA] w fun e w' => OfR N ol v (.slice A env.length cA) env (.mk d l) w e w' := by
  have HI := Lib.hid hI
  have HK := Lib.hid hK
  have HN := Lib.hid hN
  have HB := Lib.hid hb
  have HO := Lib.hid hO
  have HT := Lib.hid hT
  have HE := Lib.hid hE
  have HEV := Lib.hid hEv
  have HEL := Lib.hid hEL
  have HA := Lib.hid hA
  have HF := Lib.hid hf
  have HM := Lib.hid (show ol.length + (d.bs.length + bsNL l) ≤ 4000000 from by simpa [Ex.bsN] using hm)
  have HD := Lib.hid hd
  have HZ := Lib.hid (show Cl (w.alloc (.cells #[.int .i64 0, .int .i64 0, .int .i64 0, .string ⟨#[]⟩, .string ⟨#[]⟩, .slice none 0 0, .slice none 0 0, .slice none 0 0] 25)) w.heap.size dZ from Cl.new w dZ)
  have HB1 := Lib.hid (show Below w.heap.size w (w.alloc (.cells #[.int .i64 0, .int .i64 0, .int .i64 0, .string ⟨#[]⟩, .string ⟨#[]⟩, .slice none 0 0, .slice none 0 0, .slice none 0 0] 25)) from (Below.refl _ _).alloc (Nat.le_refl _) _)
  have hs1 : (w.alloc (.cells #[.int .i64 0, .int .i64 0, .int .i64 0, .string ⟨#[]⟩, .string ⟨#[]⟩, .slice none 0 0, .slice none 0 0, .slice none 0 0] 25)).heap.size = w.heap.size + 1 := by simp
  have HS1 := Lib.hid hs1
  clear hI hK hN hb hO hT hE hEv hEL hA hf hm hd hs1
  go_enter Tryz.func48, Tryz.ntmps48
  go_upto_region 1 with fail
  generalize w.alloc (.cells #[.int .i64 0, .int .i64 0, .int .i64 0, .string ⟨#[]⟩, .string ⟨#[]⟩, .slice none 0 0, .slice none 0 0, .slice none 0 0] 25) = w1 at *
  obtain ⟨r, hr⟩ : ∃ r, w.heap.size = r := ⟨_, rfl⟩
  have HR := Lib.hid hr
  rw [hr] at HZ HS1 ⊢
  clear hr
  have HBIN := Lib.hid (binders_any w0 d l HI.out b o HA.out N HN.out ol v w1 (HB.out.trans (HB1.out.mono HB.out.size)) (HO.out.below HB1.out) (HT.out.keep (HB1.out.mono (Nat.le_of_lt HO.out.lt))) (by have := HM.out; omega) (fine_ln HF.out HI.out))
  go_wp2_with fail
  refine HBIN.out.mono ?_
  rintro e w2 ⟨dB, v1, rfl, hnum, hin, hbl, hno, hwo, hp⟩
  have HB3 := Lib.hid (show Below w2.heap.size w2 (w2.alloc (.cells #[.int .i64 dB.kind, .int .i64 dB.at_, .int .i64 dB.n, .string (bstr dB.s), .string (bstr dB.t), .slice dB.lA dB.ln dB.lc, .slice dB.nA dB.nn dB.nc, .slice dB.pA dB.pn dB.pc] 25)) from (Below.refl _ _).alloc (Nat.le_refl _) _)
  have hcl3 : Cl (w2.alloc (.cells #[.int .i64 dB.kind, .int .i64 dB.at_, .int .i64 dB.n, .string (bstr dB.s), .string (bstr dB.t), .slice dB.lA dB.ln dB.lc, .slice dB.nA dB.nn dB.nc, .slice dB.pA dB.pn dB.pc] 25)) w2.heap.size dB := Cl.new w2 dB
  have HOS := Lib.hid (OS.start HO.out HE.out HEV.out HR.out HB1.out HS1.out ⟨_, HZ.out⟩ hin hbl hno hwo hp HB3.out rfl hcl3)
  have HNUM := Lib.hid (And.intro hnum hp)
  clear hnum hin hbl hno hwo hp hcl3 HBIN
  go_upto_region 2 with fail
  generalize w2.alloc (.cells #[.int .i64 dB.kind, .int .i64 dB.at_, .int .i64 dB.n, .string (bstr dB.s), .string (bstr dB.t), .slice dB.lA dB.ln dB.lc, .slice dB.nA dB.nn dB.nc, .slice dB.pA dB.pn dB.pc] 25) = w3 at *
  obtain ⟨gt, hgt⟩ : ∃ gt, w2.heap.size = gt := ⟨_, rfl⟩
  rw [hgt] at HOS ⊢
  clear hgt
  have HEX := Lib.hid (fun (W : World) (h : Below N w W) => HA.out.lower (HB.out.trans (h.mono HN.out)))
  obtain ⟨c0, _, _, c3, _, _, _, _⟩ := HEX.out _ HOS.out.b
  go_upto_if 20 with fail
  go_cut [] from 16 to 27 (fun wx => ∃ dV, VD d ol.length env dV ∧ OS N w v (.slice A env.length cA) env gt r dV [] (ol ++ d.bs) v1 wx)
  case first =>
    by_cases h3 : d.kind = 3
    · have q3 : (d.kind == 3) = true := by simpa using h3
      have HNW := Lib.hid (now_any d.s A env env.length cA w3 (Rd.of_own HOS.out.env) (by have := HD.out; omega))
      have HV := Lib.hid (vd_var HNUM.out.1 h3 (env := env))
      have HL := Lib.hid (nowF_len d.s env HI.out.cap.2.2.2.1 HEL.out)
      clear h3
      go_wp2_with fail
      refine HNW.out.mono ?_
      rintro e w4 ⟨rfl, hb4⟩
      have HOS4 := Lib.hid (HOS.out.below hb4)
      have k3 := HOS4.out.cl.load.2.2.2.1
      have z3 := HOS4.out.cl.fz 3
      clear c0 c3 hb4 HNW
      go_wp2_with fail
      go_meet
      exact ⟨_, HV.out, HOS4.out.setS _ HL.out⟩
    · have q3 : (d.kind == 3) = false := by simpa using h3
      have HV := Lib.hid (vd_other HNUM.out.1 HOS.out.x0.namLen h3 (env := env))
      clear h3
      go_wp2_with fail
      go_meet
      exact ⟨_, HV.out, HOS.out⟩
  case rest =>
  obtain ⟨dV, hvd, hos⟩ := hcut
  have HVD := Lib.hid hvd
  have HOV := Lib.hid hos
  have HPN := Lib.hid (show l.length = d.pn from HI.out.len)
  have HP4 := Lib.hid (show d.pn ≤ 9223372036854775807 from HI.out.cap.2.2.1.2.2)
  have HNL := Lib.hid (show d.names.length = d.nn from HI.out.namLen)
  clear c0 c3
  obtain ⟨c0, _, _, _, _, _, _, c7⟩ := HEX.out _ hos.b
  clear hvd hos HOS HNUM
  go_wp2_with fail
  clear c0 c7
  go_loopw [33] (fun i wr => ∃ (k : Nat) (dck : ExD) (ts : List Ex) (olk : List Str) (vk : Value), i = .int .i64 k ∧ k ≤ d.pn ∧ dck.noL = dV.noL ∧ lkL ts (numL d (d.numD ol.length) (l.take k) 0 env (ol ++ d.bs)).1 ∧ olk = (numL d (d.numD ol.length) (l.take k) 0 env (ol ++ d.bs)).2 ∧ OS N w v (.slice A env.length cA) env gt r dck ts olk vk wr) (fun i _ => d.pn - (intOf i).toNat)
  case atStart => exact ⟨0, dV, [], ol ++ d.bs, v1, rfl, Nat.zero_le _, rfl, by rw [List.take_zero]; simp [numL, lkL], by rw [List.take_zero]; simp [numL], HOV.out⟩
  case round =>
    obtain ⟨k, dck, ts, olk, vk, rfl, hk, hnol, hlk, holk, hos⟩ := hrel
    obtain ⟨wk, rfl⟩ : ∃ wk, wk = wr := ⟨wr, rfl⟩
    have HOSk := Lib.hid hos
    have HLK := Lib.hid (And.intro hnol (And.intro hlk holk))
    clear hos hnol hlk holk
    by_cases hlt : k < d.pn
    · have hki : (k : Int) < (d.pn : Int) := by omega
      have hk0 : (0 : Int) ≤ (k : Int) := by omega
      have hk9 : (k : Int) ≤ 9223372036854775806 := by have := HP4.out; omega
      go_upto_block 1 with fail
      go_cut [8, 9, 10, 11, 12] from 34 to 74 (fun x8 x9 x10 x11 x12 wx => ∃ (dck' : ExD) (ts' : List Ex) (ol' : List Str) (v' : Value), dck'.noL = dV.noL ∧ lkL ts' (numL d (d.numD ol.length) (l.take (k + 1)) 0 env (ol ++ d.bs)).1 ∧ ol' = (numL d (d.numD ol.length) (l.take (k + 1)) 0 env (ol ++ d.bs)).2 ∧ OS N w v (.slice A env.length cA) env gt r dck' ts' ol' v' wx)
      case first =>
        have hjl : k < l.length := by rw [HPN.out]; exact hlt
        obtain ⟨pb, po, hpA, hAtP⟩ := HI.out.part (k := k) hjl
        have hpA' : d.pA = some ⟨pb, po, none⟩ := hpA
        have hAt0 : (l[k]).d.At w0 pb (po + k * 8) := hAtP k hjl
        have hbt := bsN_take l k hjl
        have htl : (l.take k).length = k := by rw [List.length_take]; omega
        have htk : l.take (k + 1) = l.take k ++ [l[k]] := by rw [List.take_succ_eq_append_getElem hjl]
        obtain ⟨x, hx⟩ : ∃ x, l[k] = x := ⟨_, rfl⟩
        have hxm : x ∈ l := by rw [← hx]; exact List.getElem_mem hjl
        rw [hx] at hAt0 hbt htk
        have hfx := fine_sub HF.out x hxm
        have hdx := depthL_mem l x hxm
        have e1 : dck.boundC k = (d.numD ol.length).boundC k := by
          rw [← HVD.out.2 k]
          exact (boundC_noL dck k).symm.trans ((congrArg (fun q => ExD.boundC q k) HLK.out.1).trans (boundC_noL dV k))
        have e2 := boundC_numLen d ol.length k HNL.out
        have hb2 := d.boundC_le k
        have HBT := Lib.hid (fun (W : World) (h : Below wk.heap.size wk W) => boundC_any dck ts gt 0 k (by have := HP4.out; omega) W (HOSk.out.cl.at_.lower h) (HOSk.out.inn.lower h))
        have HBE := Lib.hid (fun (W : World) (h : Below wk.heap.size wk W) => boundC_any d l b o k (by have := HP4.out; omega) W ((HEX.out _ HOSk.out.b).lower h) (HI.out.lower (HB.out.trans ((HOSk.out.b.mono HN.out).trans (h.mono (by have := HOSk.out.gtN; have := HOSk.out.b.size; have := HN.out; omega))))))
        rw [e1] at HBT
        obtain ⟨bs1, hbs1⟩ : ∃ bs, d.boundC k = bs := ⟨_, rfl⟩
        obtain ⟨bs2, hbs2⟩ : ∃ bs, (d.numD ol.length).boundC k = bs := ⟨_, rfl⟩
        rw [hbs2] at HBT e1 e2
        rw [hbs1] at HBE e2 hb2
        have HX := Lib.hid (And.intro hAt0 (And.intro hbt (And.intro htk (And.intro hxm (And.intro hfx (And.intro hdx (And.intro e1 (And.intro e2 (And.intro hb2 (And.intro hbs1 (And.intro hbs2 (And.intro hpA' htl))))))))))))
        clear hjl hpA hAtP hpA' hAt0 hbt htk hx hxm hfx hdx e1 e2 hb2 hbs1 hbs2 htl
        go_wp2_with fail
        refine (HBT.out wk (Below.refl _ _)).mono ?_
        rintro e w5 ⟨A5, n5, c5, rfl, hr5, hn5, hb5, ha5⟩
        have H5 := Lib.hid (And.intro hr5 (And.intro hb5 ha5))
        have hl5 := rd_len hr5
        subst hl5
        clear hr5 hb5 ha5 hn5
        go_wp2_with fail
        refine (HBE.out w5 H5.out.2.1).mono ?_
        rintro e w6 ⟨A6, n6, c6, rfl, hr6, hn6, hb6, ha6⟩
        have hl6 := rd_len hr6
        subst hl6
        have H6 := Lib.hid (And.intro hr6 (And.intro hb6 (And.intro ha6 (And.intro (H5.out.1.below hb6) (below_then H5.out.2.1 hb6)))))
        clear hr6 hb6 ha6 HBT HBE
        have HUP0 := Lib.hid (UP.refl (own_below HOSk.out.env H6.out.2.2.2.2) (show N + 1 ≤ w6.heap.size by have := HOSk.out.gtN; have := HOSk.out.b.size; have := H6.out.2.2.2.2.size; omega))
        go_wp2_with fail
        go_loopw [43, 9] (fun j z wx => ∃ jj : Nat, j = .int .i64 jj ∧ jj ≤ bs1.length ∧ UP N w6 (.slice A env.length cA) env wx z (env ++ (bs1.zip bs2).take jj)) (fun j _ _ => bs1.length - (intOf j).toNat)
        case atStart => exact ⟨0, rfl, Nat.zero_le _, by rw [List.take_zero, List.append_nil]; exact HUP0.out⟩
        case round =>
          obtain ⟨jj, rfl, hjj, hup⟩ := hrel
          have HUP := Lib.hid hup
          clear hup
          have e2 : bs2.length = bs1.length := HX.out.2.2.2.2.2.2.2.1
          by_cases hjl : jj < bs1.length
          · have hj2 : jj < bs2.length := by omega
            obtain ⟨q1, o1, rfl, hc1⟩ := H6.out.1.str (k := jj) hjl
            obtain ⟨q2, o2, rfl, hc2⟩ := H5.out.1.str (k := jj) hj2
            have hs5 : wk.heap.size ≤ w5.heap.size := H5.out.2.1.size
            have hs6 : w5.heap.size ≤ w6.heap.size := H6.out.2.1.size
            have hen : ∀ q, wk.heap.size ≤ q → some q ≠ (Value.slice A env.length cA).ownBlock := fun q hq e => by have := (HOSk.out.env.lt q e.symm).2; omega
            have hb1 : wk.heap.size ≤ q1 := Nat.le_trans hs5 (H6.out.2.2.1 _ rfl)
            have hb2 : wk.heap.size ≤ q2 := H5.out.2.2 _ rfl
            have hl1 : q1 < w6.heap.size := World.block_lt_of_cell? w6 _ (hc1 jj hjl)
            have hl2 : q2 < w6.heap.size := Nat.lt_of_lt_of_le (World.block_lt_of_cell? w5 _ (hc2 jj hj2)) hs6
            have h1 := (World.cell?_of_block (a := ⟨q1, o1 + jj, none⟩) (HUP.out.oth q1 hl1 (hen q1 hb1))).trans (hc1 jj hjl)
            have h2 := (World.cell?_of_block (a := ⟨q2, o2 + jj, none⟩) (HUP.out.oth q2 hl2 (hen q2 hb2))).trans (cell_below H6.out.2.1 (hc2 jj hj2))
            have hz : (bs1.zip bs2).take (jj + 1) = (bs1.zip bs2).take jj ++ [(bs1[jj], bs2[jj])] := by
              rw [List.take_succ_eq_append_getElem (by rw [List.length_zip]; omega), List.getElem_zip]
            obtain ⟨y1, hy1⟩ : ∃ y, bs1[jj] = y := ⟨_, rfl⟩
            obtain ⟨y2, hy2⟩ : ∃ y, bs2[jj] = y := ⟨_, rfl⟩
            rw [hy1, hy2] at hz
            rw [hy1] at h1
            rw [hy2] at h2
            have HZJ := Lib.hid hz
            have hlen : (env ++ (bs1.zip bs2).take jj).length ≤ env.length + 2 := by
              rw [List.length_append, List.length_take, List.length_zip]
              have := HX.out.2.2.2.2.2.2.2.2.1
              omega
            have HLE := Lib.hid (show ((env ++ (bs1.zip bs2).take jj).length + 1) * 32 ≤ 140737488355328 by have := HD.out; omega)
            have HS := Lib.hid (show N + 1 ≤ wr.heap.size from Nat.le_trans HUP.out.sz HUP.out.b.size)
            have z1 : (0 : Int) ≤ (jj : Int) := by omega
            have z2 : (jj : Int) < (bs1.length : Int) := by omega
            have z3 : (jj : Int) < (bs2.length : Int) := by omega
            have z4 : (jj : Int) ≤ 9223372036854775806 := by have := HX.out.2.2.2.2.2.2.2.2.1; omega
            clear hs5 hs6 hen hb1 hb2 hl1 hl2 hc1 hc2 hz hy1 hy2 hlen hj2 e2
            go_wp2_with (at_builtin; refine wpList_app2 elBg _ rfl (.tmp 48) (.tmp 55) rfl (N + 1) u9 _ _ rfl (HUP.out.own.alloc _) (some ⟨wr.heap.size, 0, none⟩) 1 1 (bd2 (y1, y2)) rfl (Rd.lit wr #[.string (bstr y1), .string (bstr y2)] _ rfl) (bd_one (y1, y2)) HLE.out (by have := HS.out; simp; omega) ?_; intro v7 w7 hown7 hg7 ha7)
            have H7 := Lib.hid ((HUP.out.below ((Below.refl _ _).alloc (Nat.le_refl _) _)).app hown7 hg7 ha7)
            clear hown7 hg7 ha7
            go_roundw
            case rel => exact ⟨jj + 1, by go_num, hjl, by rw [HZJ.out, ← List.append_assoc]; exact H7.out⟩
            case measure => simp [intOf] <;> omega
          · have z2 : ¬ (jj : Int) < (bs1.length : Int) := by omega
            have hzl : (bs1.zip bs2).take jj = bs1.zip bs2 := List.take_of_length_le (by rw [List.length_zip]; omega)
            have hup := HUP.out
            rw [hzl] at hup
            have HU := Lib.hid hup
            have hel : (env ++ bs1.zip bs2).length ≤ env.length + 2 := by
              rw [List.length_append, List.length_zip]
              have := HX.out.2.2.2.2.2.2.2.2.1
              omega
            have HO6 := Lib.hid (HOSk.out.below H6.out.2.2.2.2)
            have HOW := Lib.hid (HO6.out.upd HU.out)
            have hkx : ∀ W, Below wr.heap.size wr W → Calls Tryz.prog 48 #[.pointer (some ⟨N, 0, none⟩), .pointer (some ⟨pb, po + k * 8, none⟩), u9] W fun e w' => OfR N olk vk u9 (env ++ bs1.zip bs2) x W e w' := by
              intro W hW
              obtain ⟨hAt0, hbt, htk, hxm, hfx, hdx, e1, e2, hb2, hbs1, hbs2, hpA', htl⟩ := HX.out
              have hwN : N ≤ wr.heap.size := by have := HU.out.sz; have := HU.out.b.size; omega
              refine HK.out x hxm (env ++ bs1.zip bs2) u9 olk vk W pb (po + k * 8) ?_ (HOW.out.no.below hW) (HT.out.keep (HOW.out.b.trans (hW.mono hwN))) (own_below HU.out.own hW) (HO6.out.upn HU.out) ?_ hAt0 hfx ?_ ?_
              · exact HB.out.trans ((HOW.out.b.trans (hW.mono hwN)).mono HN.out)
              · intro p hp
                rcases List.mem_append.1 hp with hp | hp
                · exact HEL.out p hp
                · have h2 : p.2 ∈ bs2 := (List.of_mem_zip hp).2
                  rw [← e1] at h2
                  exact boundC_str HOSk.out.inn k p.2 h2
              · rw [HLK.out.2.2, numL_len, List.length_append]
                have := HM.out; omega
              · have := HD.out; omega
            have hkx2 : ∀ W, Below wr.heap.size wr W → Calls Tryz.prog 48 #[.pointer (some ⟨N, 0, none⟩), .pointer (some ⟨pb, po + k * 8, none⟩), u9] W fun e w4 => ∃ (t' : Ex) (v4 : Value), e = .returned (.agg t'.d.arr) ∧
                (OS N w v (.slice A env.length cA) env gt r dck ts (x.num (env ++ bs1.zip bs2) olk).2 v4 w4 ∧ t'.Bl (PL N w.heap.size gt r v4 dck.lV)) ∧ t'.In w4 ∧ t'.lk (x.num (env ++ bs1.zip bs2) olk).1 ∧ N + 1 ≤ w4.heap.size ∧ w4.cell? ⟨gt, 7, none⟩ = some (.slice dck.pA dck.pn dck.pc) ∧ w4.cell? ⟨b, o + 7, none⟩ = some (.slice (some ⟨pb, po, none⟩) d.pn d.pc) ∧
                (∀ (size n q : Nat) (cs : List Value), Rd W size (some ⟨q, 0, none⟩) n cs → q < W.heap.size → wr.heap.size ≤ q → Rd w4 size (some ⟨q, 0, none⟩) n cs) := by
              intro W hW
              refine (hkx W hW).mono ?_
              rintro e w4 ⟨t', v4, rfl, hlk, hin, hbl, hno, hfx, hnew⟩
              have hkd := HO6.out.kid HU.out hW hno hfx hnew hin hbl
              refine ⟨t', v4, rfl, hkd, hin, hlk, hkd.1.appM, hkd.1.cl.load.2.2.2.2.2.2.2, ?_, fun size n q cs hr hq hq2 => HU.out.lit HO6.out hr hq hq2 hfx⟩
              rw [← HX.out.2.2.2.2.2.2.2.2.2.2.2.1]; exact (HEX.out _ hkd.1.b).c7
            have HKX := Lib.hid hkx2
            have hlitS : (wr.alloc (.cells #[.int .i64 0, .int .i64 0, .int .i64 0, .string ⟨#[]⟩, .string ⟨#[]⟩, .slice none 0 0, .slice none 0 0, .slice none 0 0] 25)).drew.heap.size = wr.heap.size + 1 := by simp
            have HBa := Lib.hid (show Below wr.heap.size wr wr.drew from (Below.refl _ _).drew)
            have HBb := Lib.hid (show Below wr.heap.size wr (wr.alloc (.cells #[.int .i64 0, .int .i64 0, .int .i64 0, .string ⟨#[]⟩, .string ⟨#[]⟩, .slice none 0 0, .slice none 0 0, .slice none 0 0] 25)).drew from ((Below.refl _ _).alloc (Nat.le_refl _) _).drew)
            have HRb := Lib.hid (show Rd (wr.alloc (.cells #[.int .i64 0, .int .i64 0, .int .i64 0, .string ⟨#[]⟩, .string ⟨#[]⟩, .slice none 0 0, .slice none 0 0, .slice none 0 0] 25)).drew 8 (some ⟨wr.heap.size, 0, none⟩) 1 (#[.int .i64 0, .int .i64 0, .int .i64 0, .string ⟨#[]⟩, .string ⟨#[]⟩, .slice none 0 0, .slice none 0 0, .slice none 0 0] : Array Value).toList from (Rd.lit (size := 8) (n := 1) wr #[.int .i64 0, .int .i64 0, .int .i64 0, .string ⟨#[]⟩, .string ⟨#[]⟩, .slice none 0 0, .slice none 0 0, .slice none 0 0] 25 rfl (fr := (0, 0))).drew)
            have HSb := Lib.hid hlitS
            have HDP := Lib.hid (show dck.pn = k from numL_pn HOSk.out.own HLK.out.2.1 HX.out.2.2.2.2.2.2.2.2.2.2.2.2)
            have HPN8 := Lib.hid (show (dck.pn + 1) * 128 ≤ 140737488355328 by have := fine_pn HF.out HI.out; have := HDP.out; omega)
            have g7 : wr.cell? ⟨gt, 7, none⟩ = some (.slice dck.pA dck.pn dck.pc) := HOW.out.cl.load.2.2.2.2.2.2.2
            have e7 : wr.cell? ⟨b, o + 7, none⟩ = some (.slice (some ⟨pb, po, none⟩) d.pn d.pc) := by rw [← HX.out.2.2.2.2.2.2.2.2.2.2.2.1]; exact (HEX.out _ HOW.out.b).c7
            have g7a := cell_below HBa.out g7
            have e7a := cell_below HBa.out e7
            have g7b := cell_below HBb.out g7
            have e7b := cell_below HBb.out e7
            have p1 : (0 : Int) ≤ (dck.pn : Int) := by omega
            have p2 : (dck.pn : Int) < ((dck.pn + 1 : Nat) : Int) := by omega
            have p3 : (dck.pn : Int) < (dck.pn : Int) + 1 := by omega
            clear hzl hup hel hkx hkx2 hlitS e2
            go_wp2_with fail
            go_region_law (first
              | (refine step_app elEx (w4.alloc (.cells #[.int .i64 0, .int .i64 0, .int .i64 0, .string ⟨#[]⟩, .string ⟨#[]⟩, .slice none 0 0, .slice none 0 0, .slice none 0 0] 25)) (by rfl) (.tmp 59) (.tmp 70) (by rfl) (N + 1) (.slice dck.pA dck.pn dck.pc) dck.pn (ts.flatMap Ex.cells) (by rfl) (HKD.out.1.own.alloc _) (some ⟨w4.heap.size, 0, none⟩) 1 1 (#[.int .i64 0, .int .i64 0, .int .i64 0, .string ⟨#[]⟩, .string ⟨#[]⟩, .slice none 0 0, .slice none 0 0, .slice none 0 0] : Array Value).toList (by rfl) (Rd.lit w4 #[.int .i64 0, .int .i64 0, .int .i64 0, .string ⟨#[]⟩, .string ⟨#[]⟩, .slice none 0 0, .slice none 0 0, .slice none 0 0] _ rfl) z8_one HPN8.out HSa.out ?_; intro v7 w7 hown7 hg7 hat7; obtain ⟨g7', c7', hv7, _, _⟩ := hown7.form (Nat.succ_pos _); rw [hv7] at hown7 hat7 ⊢; clear hv7; have HP := Lib.hid (HKD.out.1.push ((Below.refl _ _).alloc (Nat.le_refl _) (.cells #[.int .i64 0, .int .i64 0, .int .i64 0, .string ⟨#[]⟩, .string ⟨#[]⟩, .slice none 0 0, .slice none 0 0, .slice none 0 0] 25)) t' HTI.out HKD.out.2 hown7 hg7 hat7); have HF8 := Lib.hid (OS.stores HKD.out.1 ((Below.refl _ _).alloc (Nat.le_refl _) (.cells #[.int .i64 0, .int .i64 0, .int .i64 0, .string ⟨#[]⟩, .string ⟨#[]⟩, .slice none 0 0, .slice none 0 0, .slice none 0 0] 25)) hown7 hg7); have HF9 := Lib.hid (OS.stores2 HKD.out.1 ((Below.refl _ _).alloc (Nat.le_refl _) (.cells #[.int .i64 0, .int .i64 0, .int .i64 0, .string ⟨#[]⟩, .string ⟨#[]⟩, .slice none 0 0, .slice none 0 0, .slice none 0 0] 25)) hown7 hg7 hat7 t'.d (.slice (some ⟨g7', 0, none⟩) (dck.pn + 1) c7')); obtain ⟨⟨y0, y1, y2, y3, y4, y5, y6, y7⟩, ⟨f0, f1, f2, f3, f4, f5, f6, f7⟩, gt7, ft7⟩ := HF8.out; obtain ⟨gt8, ⟨i0, i1, i2, i3, i4, i5, i6, i7⟩, gne⟩ := HF9.out; clear hown7 hg7 hat7)
              | (refine step_app elEx w4 (by rfl) (.tmp 59) (.tmp 70) (by rfl) (N + 1) (.slice dck.pA dck.pn dck.pc) dck.pn (ts.flatMap Ex.cells) (by rfl) HKD.out.1.own (some ⟨wr.heap.size, 0, none⟩) 1 1 (#[.int .i64 0, .int .i64 0, .int .i64 0, .string ⟨#[]⟩, .string ⟨#[]⟩, .slice none 0 0, .slice none 0 0, .slice none 0 0] : Array Value).toList (by rfl) HR4.out z8_one HPN8.out HSc.out ?_; intro v7 w7 hown7 hg7 hat7; obtain ⟨g7', c7', hv7, _, _⟩ := hown7.form (Nat.succ_pos _); rw [hv7] at hown7 hat7 ⊢; clear hv7; have HP := Lib.hid (HKD.out.1.push (Below.refl _ _) t' HTI.out HKD.out.2 hown7 hg7 hat7); have HF8 := Lib.hid (OS.stores HKD.out.1 (Below.refl _ _) hown7 hg7); have HF9 := Lib.hid (OS.stores2 HKD.out.1 (Below.refl _ _) hown7 hg7 hat7 t'.d (.slice (some ⟨g7', 0, none⟩) (dck.pn + 1) c7')); obtain ⟨⟨y0, y1, y2, y3, y4, y5, y6, y7⟩, ⟨f0, f1, f2, f3, f4, f5, f6, f7⟩, gt7, ft7⟩ := HF8.out; obtain ⟨gt8, ⟨i0, i1, i2, i3, i4, i5, i6, i7⟩, gne⟩ := HF9.out; clear hown7 hg7 hat7)
              | (go_simp; go_at_call 48; refine (HKX.out _ HBa.out).mono ?_; rintro e w4 ⟨t', v4, rfl, hkd, hti, htl4, hsz, g7c, e7c, hlit⟩; have HKD := Lib.hid hkd; have HTI := Lib.hid hti; have HTL := Lib.hid htl4; have HSa := Lib.hid (hkd.1.appN (.cells #[.int .i64 0, .int .i64 0, .int .i64 0, .string ⟨#[]⟩, .string ⟨#[]⟩, .slice none 0 0, .slice none 0 0, .slice none 0 0] 25)); have g7d := cell_below ((Below.refl w4.heap.size w4).alloc (Nat.le_refl _) (.cells #[.int .i64 0, .int .i64 0, .int .i64 0, .string ⟨#[]⟩, .string ⟨#[]⟩, .slice none 0 0, .slice none 0 0, .slice none 0 0] 25)) g7c; have e7d := cell_below ((Below.refl w4.heap.size w4).alloc (Nat.le_refl _) (.cells #[.int .i64 0, .int .i64 0, .int .i64 0, .string ⟨#[]⟩, .string ⟨#[]⟩, .slice none 0 0, .slice none 0 0, .slice none 0 0] 25)) e7c; clear hkd hti htl4 hsz hlit)
              | (go_simp; go_at_call 48; refine (HKX.out _ HBb.out).mono ?_; rintro e w4 ⟨t', v4, rfl, hkd, hti, htl4, hsz, g7c, e7c, hlit⟩; have HKD := Lib.hid hkd; have HTI := Lib.hid hti; have HTL := Lib.hid htl4; have HSc := Lib.hid hsz; have HR4 := Lib.hid (hlit _ _ _ _ HRb.out (by have := HSb.out; omega) (Nat.le_refl _)); clear hkd hti htl4 hsz hlit)
              | fail)
            all_goals
              have hcomm : (((((((((w7.setCell ⟨gt, 7, none⟩ (.slice (some ⟨g7', 0, none⟩) (dck.pn + 1) c7')).setCell ⟨g7', dck.pn * 8, none⟩ (.int .i64 t'.d.kind)).setCell ⟨g7', dck.pn * 8 + 1, none⟩ (.int .i64 t'.d.at_)).setCell ⟨g7', dck.pn * 8 + 2, none⟩ (.int .i64 t'.d.n)).setCell ⟨g7', dck.pn * 8 + 3, none⟩ (.string (bstr t'.d.s))).setCell ⟨g7', dck.pn * 8 + 4, none⟩ (.string (bstr t'.d.t))).setCell ⟨g7', dck.pn * 8 + 5, none⟩ (.slice t'.d.lA t'.d.ln t'.d.lc)).setCell ⟨g7', dck.pn * 8 + 6, none⟩ (.slice t'.d.nA t'.d.nn t'.d.nc)).setCell ⟨g7', dck.pn * 8 + 7, none⟩ (.slice t'.d.pA t'.d.pn t'.d.pc)) = (((((((((w7.setCell ⟨g7', dck.pn * 8, none⟩ (.int .i64 t'.d.kind)).setCell ⟨g7', dck.pn * 8 + 1, none⟩ (.int .i64 t'.d.at_)).setCell ⟨g7', dck.pn * 8 + 2, none⟩ (.int .i64 t'.d.n)).setCell ⟨g7', dck.pn * 8 + 3, none⟩ (.string (bstr t'.d.s))).setCell ⟨g7', dck.pn * 8 + 4, none⟩ (.string (bstr t'.d.t))).setCell ⟨g7', dck.pn * 8 + 5, none⟩ (.slice t'.d.lA t'.d.ln t'.d.lc)).setCell ⟨g7', dck.pn * 8 + 6, none⟩ (.slice t'.d.nA t'.d.nn t'.d.nc)).setCell ⟨g7', dck.pn * 8 + 7, none⟩ (.slice t'.d.pA t'.d.pn t'.d.pc)).setCell ⟨gt, 7, none⟩ (.slice (some ⟨g7', 0, none⟩) (dck.pn + 1) c7')) := put8_comm w7 t'.d _ gne
              first | rw [hcomm] | skip
              generalize hw8 : (((((((((w7.setCell ⟨g7', dck.pn * 8, none⟩ (.int .i64 t'.d.kind)).setCell ⟨g7', dck.pn * 8 + 1, none⟩ (.int .i64 t'.d.at_)).setCell ⟨g7', dck.pn * 8 + 2, none⟩ (.int .i64 t'.d.n)).setCell ⟨g7', dck.pn * 8 + 3, none⟩ (.string (bstr t'.d.s))).setCell ⟨g7', dck.pn * 8 + 4, none⟩ (.string (bstr t'.d.t))).setCell ⟨g7', dck.pn * 8 + 5, none⟩ (.slice t'.d.lA t'.d.ln t'.d.lc)).setCell ⟨g7', dck.pn * 8 + 6, none⟩ (.slice t'.d.nA t'.d.nn t'.d.nc)).setCell ⟨g7', dck.pn * 8 + 7, none⟩ (.slice t'.d.pA t'.d.pn t'.d.pc)).setCell ⟨gt, 7, none⟩ (.slice (some ⟨g7', 0, none⟩) (dck.pn + 1) c7')) = w8
              have H8 := Lib.hid (show OS N w v (.slice A env.length cA) env gt r { dck with pA := some ⟨g7', 0, none⟩, pn := dck.pn + 1, pc := c7' } (ts ++ [t']) (x.num (env ++ bs1.zip bs2) olk).2 v4 w8 by rw [← hw8]; exact HP.out)
              clear hw8 hcomm y0 y1 y2 y3 y4 y5 y6 y7 f0 f1 f2 f3 f4 f5 f6 f7 gt7 ft7 gt8 i0 i1 i2 i3 i4 i5 i6 i7 HP HF8 HF9
              have hst := numL_step (d := d) (d1 := d.numD ol.length) (env := env) (ol := ol ++ d.bs) HX.out.2.2.1 HX.out.2.2.2.2.2.2.2.2.2.2.2.2 HX.out.2.2.2.2.2.2.2.2.2.1 HX.out.2.2.2.2.2.2.2.2.2.2.1
              have HST := Lib.hid hst
              clear hst
              go_wp2_with fail
              go_meet
              refine ⟨{ dck with pA := some ⟨g7', 0, none⟩, pn := dck.pn + 1, pc := c7' }, ts ++ [t'], _, v4, HLK.out.1, ?_, ?_, H8.out⟩
              · have h := HTL.out
                rw [HLK.out.2.2] at h
                rw [HST.out]
                exact lkL_snoc HLK.out.2.1 h
              · rw [HST.out, ← HLK.out.2.2]
      case rest =>
        obtain ⟨dck', ts', ol', v', hr1, hr2, hr3, hr4⟩ := hcut
        have HR4 := Lib.hid (And.intro hr1 (And.intro hr2 (And.intro hr3 hr4)))
        clear hr1 hr2 hr3 hr4
        go_wp2_with fail
        go_roundw
        case rel =>
          exact ⟨k + 1, dck', ts', ol', v', by go_num, hlt, HR4.out.1, HR4.out.2.1, HR4.out.2.2.1, HR4.out.2.2.2⟩
        case measure => simp [intOf] <;> omega
    · have hkp : k = d.pn := by omega
      have hzl : l.take k = l := List.take_of_length_le (by rw [HPN.out]; omega)
      have hlk := HLK.out
      rw [hzl] at hlk
      have HL := Lib.hid hlk
      have z1 : ¬ (k : Int) < (d.pn : Int) := by omega
      obtain ⟨k0, k1, k2, k3, k4, k5, k6, k7⟩ := HOSk.out.cl.load
      obtain ⟨dr, hdr⟩ := HOSk.out.rz
      obtain ⟨y0, y1, y2, y3, y4, y5, y6, y7⟩ := hdr.load
      obtain ⟨f0, f1, f2, f3, f4, f5, f6, f7⟩ := hdr.free
      have HDR := Lib.hid hdr
      clear hdr hlk hzl
      go_wp2_with fail
      obtain ⟨w9, hw9, hcl9, hk9, _, hb9⟩ := set8 HDR.out dck
      rw [hw9]
      obtain ⟨x0, x1, x2, x3, x4, x5, x6, x7⟩ := hcl9.load
      refine bodyPost_ret (v := .agg dck.arr) (by simp [results, Tryz.results48, go_sem, x0, x1, x2, x3, x4, x5, x6, x7]) rfl ?_
      exact HOSk.out.done (.mk d l) (HOSk.out.lk HVD.out.1 HL.out.1 HL.out.2.1) HL.out.2.2 hk9 hb9
/-- Numbers for the binders of an expression and its parts, by the code. -/
theorem numOf_any (w0 : World) (t : Ex) (hI : t.In w0) (N : Nat) (hN : w0.heap.size ≤ N) : ∀ (env : List Bd) (ne : Value) (ol : List Str) (v : Value) (W : World) (b o : Nat), Below w0.heap.size w0 W → NO W N ol v → TB N W → W.ownsRow (N + 1) 115 2 ne env.length (bds env) → (∀ k, ne.ownBlock = some k → some k ≠ v.ownBlock) → (∀ p ∈ env, p.2.length ≤ 9223372036854775807) → t.d.At w0 b o → t.fineE = true → ol.length + t.bsN ≤ 4000000 → env.length + 2 * t.depth ≤ 4000000 →
    Calls Tryz.prog 48 #[.pointer (some ⟨N, 0, none⟩), .pointer (some ⟨b, o, none⟩), ne] W fun e w' => OfR N ol v ne env t W e w' := by
  have key : ∀ (t : Ex), t.In w0 → ∀ (env : List Bd) (ne : Value) (ol : List Str) (v : Value) (W : World) (b o : Nat), Below w0.heap.size w0 W → NO W N ol v → TB N W → W.ownsRow (N + 1) 115 2 ne env.length (bds env) → (∀ k, ne.ownBlock = some k → some k ≠ v.ownBlock) → (∀ p ∈ env, p.2.length ≤ 9223372036854775807) → t.d.At w0 b o → t.fineE = true → ol.length + t.bsN ≤ 4000000 → env.length + 2 * t.depth ≤ 4000000 →
      Calls Tryz.prog 48 #[.pointer (some ⟨N, 0, none⟩), .pointer (some ⟨b, o, none⟩), ne] W fun e w' => OfR N ol v ne env t W e w' := by
    intro t ht
    induction ht with
    | mk d l lab nam par cap sub ih =>
      intro env ne ol v W b o hb hO hT hE hEv hEL hA hf hm hd
      obtain ⟨A, c, rfl, _⟩ := own_cap hE
      exact of_one w0 d l (.mk d l lab nam par cap sub) N (fun x hx => ih x hx) hN env A c ol v W b o hb hO hT hE hEv hEL hA hf hm hd
  exact key t hI
end Go.Proofs.YtaglmmcjhlehjaaGreatDoor
