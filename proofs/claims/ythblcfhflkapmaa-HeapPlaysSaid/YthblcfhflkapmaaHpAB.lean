/-
  The heap: 'collect'.
-/
import Derived.Test.YthblcfhflkapmaaHpAA
namespace Go.Proofs.Ythblcfhflkapmaa
open Go Go.ChangeShapes Go.WideShapes Go.ChangeAt Go.RowKit Go.Sort
set_option linter.unusedVariables false
set_option linter.unusedSimpArgs false

theorem four_set {wr : World} {B hb : Nat} {a0 a1 a2 a3 a4 a5 : Value} (h : wr.heap[hb]? = some (.cells #[a0, a1, a2, a3, a4, a5] HTy)) (hB : B ≤ hb) (x y z t : Value) :
    (((((wr.setCell ⟨hb, 2, none⟩ x).setCell ⟨hb, 3, none⟩ y).setCell ⟨hb, 4, none⟩ z).setCell ⟨hb, 5, none⟩ t).drew).heap[hb]? = some (.cells #[a0, a1, x, y, z, t] HTy) ∧ (∀ b, b ≠ hb → (((((wr.setCell ⟨hb, 2, none⟩ x).setCell ⟨hb, 3, none⟩ y).setCell ⟨hb, 4, none⟩ z).setCell ⟨hb, 5, none⟩ t).drew).heap[b]? = wr.heap[b]?) ∧ Below B wr (((((wr.setCell ⟨hb, 2, none⟩ x).setCell ⟨hb, 3, none⟩ y).setCell ⟨hb, 4, none⟩ z).setCell ⟨hb, 5, none⟩ t).drew) := by
  refine ⟨?_, fun b hb' => ?_, ?_⟩
  · show ((((wr.setCell ⟨hb, 2, none⟩ x).setCell ⟨hb, 3, none⟩ y).setCell ⟨hb, 4, none⟩ z).setCell ⟨hb, 5, none⟩ t).heap[hb]? = _
    exact set_cells (set_cells (set_cells (set_cells h 2 _) 3 _) 4 _) 5 _
  · show ((((wr.setCell ⟨hb, 2, none⟩ x).setCell ⟨hb, 3, none⟩ y).setCell ⟨hb, 4, none⟩ z).setCell ⟨hb, 5, none⟩ t).heap[b]? = _
    rw [set_other _ _ _ _ hb', set_other _ _ _ _ hb', set_other _ _ _ _ hb', set_other _ _ _ _ hb']
  · exact (((((Below.refl B wr).setCell (p := ⟨hb, 2, none⟩) hB x).setCell (p := ⟨hb, 3, none⟩) hB y).setCell (p := ⟨hb, 4, none⟩) hB z).setCell (p := ⟨hb, 5, none⟩) hB t).drew
section
variable {w wr w' w2 : World} {B hb tb : Nat} {size runs : Int} {L : List Ob} {order : List Nat} {a i : Nat} {V G V' G' TV TG TV1 TG1 v : Value} {roots : List Wd}
set_option maxRecDepth 100000 in
set_option maxHeartbeats 8000000 in
theorem collect_any (h : CH w B hb size runs L V G V' G') (hW : Wf L) (hs : sizes L ≤ 4000000) (hBw : B ≤ w.heap.size) (hru : 0 ≤ runs ∧ runs ≤ 4000000) (A : Option Addr) (c : Nat) (hr : Rd w 2 A roots.length (wcells roots)) (hf : ∀ u ∈ roots, Fine L u) (hm : roots.length ≤ 4000000) :
    Calls Try.prog 32 #[.pointer (some ⟨hb, 0, none⟩), .slice A roots.length c] w fun e w' => ∃ v V1 G1 V1' G1', e = .returned v ∧ CH w' B hb size (runs + 1) (collO L roots) V1 G1 V1' G1' ∧ w'.ownsRow B WTy 2 v roots.length (wcells (collR L roots)) ∧ (∀ g, v.ownBlock = some g → Nh hb V1 G1 V1' G1' g ∧ w.heap.size ≤ g) ∧ Tr w (Nh hb V G V' G') w' (Nh hb V1 G1 V1' G1') ∧ Below B w w' := by
  obtain ⟨n4, y4, s4⟩ := h.sw
  obtain ⟨n5, y5, s5⟩ := h.sg
  obtain ⟨A4, c4, rfl, _⟩ := own_cap s4
  obtain ⟨A5, c5, rfl, _⟩ := own_cap s5
  obtain ⟨x0, x1, x2, x3, x4, x5⟩ := cells6 h.hd
  have n1 : (0 : Int) ≤ (c4 : Int) := by omega
  have n2 : (0 : Int) ≤ (c5 : Int) := by omega
  have HH := Lib.hid (And.intro h (And.intro hW (And.intro hs (And.intro hBw (And.intro hru (And.intro hr (And.intro hf hm)))))))
  have HS := Lib.hid (And.intro s4 s5)
  clear h hW hs hBw hru hr hf hm s4 s5
  go_enter Try.func32, Try.ntmps32
  go_upto_region 1 with fail
  have HB1 := Lib.hid (show Below w.heap.size w (w.alloc (.cells #[.slice none 0 0, .slice none 0 0] FTy)) from (Below.refl _ _).alloc (Nat.le_refl _) _)
  have hz := heap_new (w := w) (o := .cells #[.slice none 0 0, .slice none 0 0] FTy) rfl
  have HZ := Lib.hid hz
  have x4' := cell_below HB1.out x4
  have x5' := cell_below HB1.out x5
  obtain ⟨z0, z1⟩ := cells2 hz
  have g0 := frozenN hz 0
  have g1 := frozenN hz 1
  clear hz
  go_cut [5] from 14 to 27 (fun x wx => x = .pointer (some ⟨w.heap.size, 0, none⟩) ∧ wx.heap[w.heap.size]? = some (.cells #[.slice A4 0 c4, .slice A5 0 c5] FTy) ∧ Below w.heap.size w wx)
  case first =>
    go_region_law fail
    all_goals
      go_wp2_with fail
      go_meet
      first
        | exact ⟨rfl, set_cells (set_cells HZ.out 0 _) 1 _, ((HB1.out.drew).setCell (p := ⟨w.heap.size, 0, none⟩) (Nat.le_refl _) _).setCell (p := ⟨w.heap.size, 1, none⟩) (Nat.le_refl _) _⟩
        | exact ⟨rfl, heap_new rfl, ((Below.refl _ _).alloc (Nat.le_refl _) _).drew⟩
        | exact ⟨rfl, heap_new rfl, (Below.drew (Below.refl _ _)).alloc (Nat.le_refl _) _⟩
  case rest =>
    obtain ⟨rfl, hw1, hb1⟩ := hcut
    clear x0 x1 x2 x3 x4 x5 x4' x5' z0 z1 g0 g1 HB1 HZ n1 n2
    have HMV := Lib.hid (MV.start HH.out.1 HH.out.2.2.2.1 ⟨_, HS.out.1⟩ ⟨_, HS.out.2⟩ hb1 hw1)
    have HB1 := Lib.hid hb1
    have HCL := Lib.hid (fun (V1 : World) (hb : Below wc.heap.size wc V1) => wclone_any V1 A roots c ((HH.out.2.2.2.2.2.1.below hb1).below hb) (by have := HH.out.2.2.2.2.2.2.2; omega))
    clear hw1 hb1
    go_upto_region 2 with fail
    go_region_law (first
      | (go_simp; go_at_call 30; (with_reducible refine (HCL.out _ (below_drew1 _)).mono ?_); rintro e w3 ⟨v, rfl, hown, hb3⟩; have hbw3 := below_then (below_drew1 wc) hb3; have hvf : ∀ g, v.ownBlock = some g → wc.heap.size ≤ g := fun g hg => (hown.lt g hg).1; have HMA := Lib.hid (And.intro hbw3 (And.intro hvf (moveAll_any (HMV.out.below hbw3) (Lk.start L []) HH.out.2.1 (Og.nil L) HH.out.2.2.1 (Nat.le_trans HH.out.2.2.2.1 (Nat.le_trans HB1.out.size hbw3.size)) (own_mono hown (Nat.le_trans HH.out.2.2.2.1 HB1.out.size)) (fun g hg => HMV.out.fresh (hvf g hg)) HH.out.2.2.2.2.2.2.1 HH.out.2.2.2.2.2.2.2))); clear hown hb3 hbw3 hvf)
      | (go_simp; go_at_call 43; (with_reducible refine HMA.out.2.2.mono ?_); rintro e w4 ⟨rfl, TV1, TG1, hma⟩; have HCS := Lib.hid (CS.start HH.out.1 HH.out.2.2.2.1 HB1.out HMA.out.1 HMA.out.2.1 hma); clear hma)
      | go_simp)
    have HFX := Lib.hid (And.intro HH.out.2.1 (And.intro HH.out.2.2.1 (And.intro HH.out.2.2.2.1 (And.intro HH.out.2.2.2.2.1 HH.out.2.2.2.2.2.2.1))))
    clear HMV HCL HMA HB1 HS
    go_wp2_with fail
    go_loopw [7, 8, 9, 10, 11, 12, 13] (fun at' _ _ _ _ _ _ wr => ∃ (n : Nat) (TV TG : Value), at' = .int .i64 (place (obs L (ord L roots n)) n : Nat) ∧ n ≤ (ord L roots n).length ∧ CS w B hb w.heap.size size runs L roots V G (.slice A4 n4 c4) (.slice A5 n5 c5) v (ord L roots n) n 0 wr TV TG) (fun at' _ _ _ _ _ _ _ => 9000000 - (intOf at').toNat)
    case atStart => exact ⟨0, TV1, TG1, rfl, Nat.zero_le _, HCS.out⟩
    case round =>
      clear HCS
      obtain ⟨n, TV, TG, rfl, hn, hcs⟩ := hrel
      have HC := Lib.hid hcs
      have hso : sizes (obs L (ord L roots n)) ≤ 4000000 := Nat.le_trans (obs_le hcs.og) HFX.out.2.1
      have htw := hcs.mv.tw
      obtain ⟨AT, cT, rfl, _⟩ := own_cap htw
      obtain ⟨t0, t1⟩ := cells2 hcs.mv.td
      have hBr := Nat.le_trans HFX.out.2.2.1 hcs.le
      by_cases hlt : n < (ord L roots n).length
      · obtain ⟨j, hj⟩ : ∃ j, (ord L roots n)[n]? = some j := ⟨_, List.getElem?_eq_getElem hlt⟩
        have hjl := hcs.og.lt j (List.mem_of_getElem? hj)
        have hto := tobjs_get (L := L) (a := n) (i := 0) hj
        have hfit := place_fit (L := obs L (ord L roots n)) (j := n) (by rw [obs_len]; exact hlt)
        rw [show ob (obs L (ord L roots n)) n = ob L j from by show (obs L (ord L roots n))[n]?.getD zO = ob L j; rw [obs_get hj]; rfl] at hfit
        obtain ⟨m, hmm⟩ : ∃ m, sizes (obs L (ord L roots n)) = m + 1 := ⟨sizes (obs L (ord L roots n)) - 1, by omega⟩
        have htw1 := htw
        rw [hmm] at htw1
        obtain ⟨q, cq, e⟩ := own_some htw1
        rw [← hmm] at e
        injection e with e1 e2 e3
        subst e1 e3
        have hh := flat_head hto
        rw [tobjs_place] at hh
        obtain ⟨r0, r1, _, _⟩ := own_word htw hh
        have r1' : wr.cell? ⟨q, place (obs L (ord L roots n)) n * 2 + 1, none⟩ = some (.int .i64 (16 * (ob L j).2.length + (ob L j).1)) := by
          have hl : (tob L (ord L roots n) n 0 n j).2.length = (ob L j).2.length := tw_len _ _ _ _
          rw [← hl]
          exact r1
        have r0' : wr.cell? ⟨q, place (obs L (ord L roots n)) n * 2, none⟩ = some (.bool false) := r0
        have HP := Lib.hid (head_parts wr HFX.out.1 hjl)
        obtain ⟨P, hP⟩ : ∃ P, place (obs L (ord L roots n)) n = P := ⟨_, rfl⟩
        obtain ⟨N, hN⟩ : ∃ N, (ob L j).2.length = N := ⟨_, rfl⟩
        obtain ⟨S, hS⟩ : ∃ S, sizes (obs L (ord L roots n)) = S := ⟨_, rfl⟩
        obtain ⟨K, hK⟩ : ∃ K, (ob L j).1 = K := ⟨_, rfl⟩
        rw [hP, hN, hK] at r1'
        rw [hP] at r0'
        rw [hN, hK] at HP
        rw [hP, hN, hS] at hfit
        rw [hS] at hso t0
        have HJ := Lib.hid (And.intro hj (And.intro hP (And.intro hN hS)))
        have i1 : (P : Int) < (S : Int) := by omega
        have i0 : (0 : Int) ≤ (P : Int) := by omega
        have i2 : (S : Int) ≤ 4000000 := by omega
        have i3 : (P : Int) + 1 + (N : Int) ≤ 4000000 := by omega
        have HBr := Lib.hid hBr
        have HTD := Lib.hid hcs.mv.td
        rw [hP]
        clear hcs hso htw htw1 hlt hjl hto hfit hh r0 r1 hmm hBr hP hN hS hK hj e2 hn
        go_upto_region 8 with (go_at_call 40; (with_reducible refine HP.out.mono ?_); rintro e w5 ⟨rfl, hb5⟩; have H5 := Lib.hid hb5; clear hb5)
        have HC5 := Lib.hid (HC.out.below H5.out HBr.out)
        clear r0' r1' t0 t1 HP HTD
        go_loopw [12, 13] (fun i' _ ws => ∃ (k : Nat) (TV2 TG2 : Value), i' = .int .i64 ((P : Int) + 1 + (k : Int)) ∧ k ≤ N ∧ CS w B hb w.heap.size size runs L roots V G (.slice A4 n4 c4) (.slice A5 n5 c5) v (reachP L (ord L roots n) ((ob L j).2.take k)) n k ws TV2 TG2) (fun i' _ _ => (P + 1 + N) - (intOf i').toNat)
        case atStart => exact ⟨0, _, TG, congrArg (Value.int .i64) (by omega), Nat.zero_le _, by rw [List.take_zero]; exact HC5.out⟩
        case round =>
          obtain ⟨k, TV2, TG2, rfl, hk, hcs2⟩ := hrel
          have HC2 := Lib.hid hcs2
          by_cases hlt2 : k < N
          · obtain ⟨u, hu⟩ : ∃ u, (ob L j).2[k]? = some u := ⟨_, List.getElem?_eq_getElem (by rw [HJ.out.2.2.1]; exact hlt2)⟩
            have hfu : Fine L u := HFX.out.1.ob j u (List.mem_of_getElem? hu)
            obtain ⟨rr, er⟩ := reachP_ext L (ord L roots n) ((ob L j).2.take k)
            have hnl := (List.getElem?_eq_some_iff.1 HJ.out.1).1
            have hj2 : (reachP L (ord L roots n) ((ob L j).2.take k))[n]? = some j := by rw [er, List.getElem?_append_left hnl]; exact HJ.out.1
            have hpl2 : place (obs L (reachP L (ord L roots n) ((ob L j).2.take k))) n = P := by
              rw [← HJ.out.2.1, er]
              unfold obs
              rw [List.map_append]
              exact place_app (by rw [List.length_map]; omega)
            obtain ⟨O2, hO2⟩ : ∃ O2, reachP L (ord L roots n) ((ob L j).2.take k) = O2 := ⟨_, rfl⟩
            rw [hO2] at hcs2 HC2 hj2 hpl2
            have hso2 : sizes (obs L O2) ≤ 4000000 := Nat.le_trans (obs_le hcs2.og) HFX.out.2.1
            have htw2 := hcs2.mv.tw
            have hfit2 := place_fit (L := obs L O2) (j := n) (by rw [obs_len]; exact (List.getElem?_eq_some_iff.1 hj2).1)
            rw [show ob (obs L O2) n = ob L j from by show (obs L O2)[n]?.getD zO = ob L j; rw [obs_get hj2]; rfl, hpl2, HJ.out.2.2.1] at hfit2
            obtain ⟨m2, hm2⟩ : ∃ m2, sizes (obs L O2) = m2 + 1 := ⟨sizes (obs L O2) - 1, by omega⟩
            have htw3 := htw2
            rw [hm2] at htw3
            obtain ⟨q2, cq2, hTV2⟩ := own_some htw3
            rw [← hm2] at hTV2
            rw [hTV2] at htw2
            have hraw : (tob L O2 n k n j).2[k]? = some u := by
              show (tw L O2 (nt n k n (ob L j).2.length) (ob L j).2)[k]? = some u
              rw [show nt n k n (ob L j).2.length = k from by unfold nt; rw [if_neg (Nat.lt_irrefl n), if_pos rfl]]
              exact tw_raw hu
            have hw2 := flat_word (tobjs_get (L := L) (a := n) (i := k) hj2) hraw
            rw [tobjs_place, hpl2] at hw2
            obtain ⟨r0, r1, _, _⟩ := own_word htw2 hw2
            have hBs : B ≤ wr.heap.size := Nat.le_trans HFX.out.2.2.1 hcs2.le
            obtain ⟨t0, t1⟩ := cells2 hcs2.mv.td
            rw [hTV2] at t0
            obtain ⟨S2, hS2⟩ : ∃ S2, sizes (obs L O2) = S2 := ⟨_, rfl⟩
            rw [hS2] at t0 hso2 hfit2
            have HMVE := Lib.hid (fun (V1 : World) (hb1 : Below wr.heap.size wr V1) => move_any (hcs2.mv.below hb1) hcs2.lk HFX.out.1 hcs2.og HFX.out.2.1 (Nat.le_trans hBs hb1.size) u hfu)
            have HFRE := Lib.hid (fun (b : Nat) (hb' : wr.heap.size ≤ b) => hcs2.mv.fresh hb')
            have HFXB := Lib.hid (show wr.heap.size ≠ hb from fun e => by have := lt_of_heap hcs2.mv.hd; omega)
            obtain ⟨t, ht⟩ : ∃ t, turn L (rstep L O2 u) u = t := ⟨_, rfl⟩
            rw [ht] at HMVE
            have HT := Lib.hid (And.intro ht (And.intro hj2 (And.intro hpl2 (And.intro hu (And.intro hfu (And.intro hO2 hBs))))))
            have i4 : (P : Int) + 1 + (k : Int) < (P : Int) + 1 + (N : Int) := by omega
            have i6 : ((P : Int) + 1 + (k : Int)) < (S2 : Int) := by omega
            have i7 : (0 : Int) ≤ ((P : Int) + 1 + (k : Int)) := by omega
            have i8 : ((P : Int) + 1 + (k : Int)).toNat = P + 1 + k := by omega
            have i9 : (S2 : Int) ≤ 4000000 := by omega
            clear hcs2 hso2 htw2 htw3 hfit2 hm2 hw2 hraw hBs hTV2 hu hfu er hnl hj2 hpl2 ht hO2 hS2
            go_upto_region 10 with fail
            have hba : Below wr.heap.size wr (wr.alloc wdZ) := (Below.refl _ _).alloc (Nat.le_refl _) _
            have r0' := cell_below hba r0
            have r1' := cell_below hba r1
            have t0' := cell_below hba t0
            have HZ := Lib.hid (heap_new (w := wr) (o := wdZ) rfl)
            have HBA := Lib.hid (show Below wr.heap.size wr (wr.alloc wdZ).drew from hba.drew)
            clear hba
            go_cut [13] from 59 to 68 (fun x wx => ∃ (g : Nat) (TV3 TG3 : Value), x = .pointer (some ⟨g, 0, none⟩) ∧ wx.heap[g]? = some (wdO t) ∧ MV wx B hb w.heap.size size runs L (rstep L O2 u) n k V G (.slice A4 n4 c4) (.slice A5 n5 c5) TV3 TG3 ∧ Tr wr (Nm w.heap.size V G TV2 TG2) wx (Nm w.heap.size V G TV3 TG3) ∧ Below B wr wx)
            case first =>
              go_region_law (first
                | (go_simp; go_at_call 44; (with_reducible refine (HMVE.out _ (below_drew1 _)).mono ?_); rintro e w6 ⟨rfl, TV3, TG3, hm6, ht6, hb6⟩; have H6 := Lib.hid (And.intro hm6 (And.intro ((Tr.below (below_drew1 wr)).trans (Nat.le_refl _) ht6) ((below_drew1 wr).mono HT.out.2.2.2.2.2.2 |>.trans hb6))); clear hm6 ht6 hb6)
                | (go_simp; go_at_call 44; (with_reducible refine (HMVE.out _ HBA.out).mono ?_); rintro e w6 ⟨rfl, TV3, TG3, hm6, ht6, hb6⟩; have hz6 : w6.heap[wr.heap.size]? = some wdZ := (ht6 _ (HFRE.out _ (Nat.le_refl _)) (lt_of_heap HZ.out)).2.trans HZ.out; have hn6 := (ht6 _ (HFRE.out _ (Nat.le_refl _)) (lt_of_heap HZ.out)).1; obtain ⟨z60, z61⟩ := cells2 hz6; have f60 := frozenN hz6 0; have f61 := frozenN hz6 1; have H6 := Lib.hid (And.intro hm6 (And.intro ((Tr.below HBA.out).trans HBA.out.size ht6) ((HBA.out.mono HT.out.2.2.2.2.2.2).trans hb6))); have HZ6 := Lib.hid (And.intro hz6 hn6); clear hm6 ht6 hb6 hz6 hn6)
                | go_simp)
              all_goals
                go_wp2_with fail
                go_meet
                first
                  | exact ⟨_, TV3, TG3, rfl, heap_new rfl, H6.out.1.below ((Below.refl _ _).alloc (Nat.le_refl _) _), H6.out.2.1.trans (by have := H6.out.2.2.size; omega) (Tr.below ((Below.refl _ _).alloc (Nat.le_refl _) _)), H6.out.2.2.trans ((Below.refl _ _).alloc (Nat.le_trans HT.out.2.2.2.2.2.2 H6.out.2.2.size) _)⟩
                  | (have h9 := box_set (B := B) HZ6.out.1 (.bool t.ptr) (.int .i64 t.v) HT.out.2.2.2.2.2.2
                     exact ⟨_, TV3, TG3, rfl, h9.1, H6.out.1.box HZ6.out.2 (fun b hb => h9.2.2 b hb) HFXB.out, H6.out.2.1.box (Nat.le_refl _) (fun b hb => h9.2.2 b hb), H6.out.2.2.trans h9.2.1⟩)
            case rest =>
              obtain ⟨g, TV3, TG3, rfl, hg, hm, htr, hbl⟩ := hcut
              obtain ⟨q3, c3, rfl, hl3, ⟨d0, d1, f0, f1⟩, hcs3⟩ := HC2.out.step HT.out.2.1 HT.out.2.2.2.1 HT.out.2.2.2.2.1 hm htr hbl
              rw [HT.out.2.2.1] at hl3 d0 d1 f0 f1 hcs3
              rw [HT.out.1] at hcs3
              have HC3 := Lib.hid hcs3
              obtain ⟨g0, g1⟩ := cells2 hg
              obtain ⟨s0, s1⟩ := cells2 hm.td
              obtain ⟨S3, hS3⟩ : ∃ S3, sizes (obs L (rstep L O2 u)) = S3 := ⟨_, rfl⟩
              rw [hS3] at hl3 s0
              have j6 : ((P : Int) + 1 + (k : Int)) < (S3 : Int) := by omega
              clear hcs3 hg hm htr hbl r0 r1 t0 t1 r0' r1' t0' hS3 HMVE
              go_wp2_with fail
              go_roundw
              case rel => exact ⟨k + 1, _, TG3, congrArg (Value.int .i64) (by omega), hlt2, by rw [reachP_take HT.out.2.2.2.1, HT.out.2.2.2.2.2.1]; exact HC3.out⟩
              case measure => simp [intOf] <;> omega
          · have hkk : k = N := by omega
            subst hkk
            have htk : (ob L j).2.take k = (ob L j).2 := by rw [← HJ.out.2.2.1, List.take_length]
            have hor : ord L roots (n + 1) = reachP L (ord L roots n) (ob L j).2 := by rw [ord, HJ.out.1]
            obtain ⟨rr, er⟩ := reachP_ext L (ord L roots n) (ob L j).2
            have hnl := (List.getElem?_eq_some_iff.1 HJ.out.1).1
            have hj2 : (ord L roots (n + 1))[n]? = some j := by rw [hor, er, List.getElem?_append_left hnl]; exact HJ.out.1
            rw [htk, ← hor] at hcs2
            have hcs3 : CS w B hb w.heap.size size runs L roots V G (.slice A4 n4 c4) (.slice A5 n5 c5) v (ord L roots (n + 1)) n (ob L j).2.length wr TV2 TG2 := by rw [HJ.out.2.2.1]; exact hcs2
            have HN := Lib.hid (hcs3.next hj2)
            have hpl : place (obs L (ord L roots (n + 1))) (n + 1) = P + 1 + k := by
              rw [place_succ (obs_get hj2), ← HJ.out.2.1, hor, er]
              have e3 : place (obs L (ord L roots n ++ rr)) n = place (obs L (ord L roots n)) n := by
                unfold obs
                rw [List.map_append]
                exact place_app (by rw [List.length_map]; omega)
              rw [e3, osz, HJ.out.2.2.1]
              omega
            have HPL := Lib.hid (And.intro hpl (show n + 1 ≤ (ord L roots (n + 1)).length by rw [hor, er, List.length_append]; omega))
            clear hcs2 hcs3 HC2 htk hor er hnl hj2 hpl hk
            go_wp2_with fail
            go_roundw
            case rel => exact ⟨n + 1, TV2, TG2, congrArg (Value.int .i64) (by rw [HPL.out.1]; omega), HPL.out.2, HN.out⟩
            case measure => simp [intOf] <;> omega
      · obtain ⟨AG, cG, rfl, _⟩ := own_cap hcs.mv.tg
        obtain ⟨AV, cV, rfl, _⟩ := own_cap hcs.mv.fw
        obtain ⟨AH, cH, rfl, _⟩ := own_cap hcs.mv.fg
        have hl : n = (ord L roots n).length := by omega
        have hat : place (obs L (ord L roots n)) n = sizes (obs L (ord L roots n)) := by
          have e := place_end (obs L (ord L roots n))
          rw [obs_len, ← hl] at e
          exact e
        have hcs' : CS w B hb w.heap.size size runs L roots (.slice AV (sizes L) cV) (.slice AH (sizes L) cH) (.slice A4 n4 c4) (.slice A5 n5 c5) v (ord L roots n) (ord L roots n).length 0 wr (.slice AT (sizes (obs L (ord L roots n))) cT) (.slice AG (sizes (obs L (ord L roots n))) cG) := by
          rw [← hl]
          exact HC.out
        have HSW := Lib.hid (fun (wx : World) (r : Int) hx hk hb2 => CS.swap (wx := wx) (r := r) hcs' (by omega) HFX.out.2.2.2.2 hx hk hb2)
        have hhd := hcs.mv.hd
        have HHD := Lib.hid (And.intro hhd (And.intro hcs.mv.gh hBr))
        obtain ⟨x0, x1, x2, x3, x4, x5⟩ := cells6 hhd
        have f1 := frozenN hhd 1
        have f2 := frozenN hhd 2
        have f3 := frozenN hhd 3
        have f4 := frozenN hhd 4
        have f5 := frozenN hhd 5
        rw [hat]
        obtain ⟨S, hS⟩ : ∃ S, sizes (obs L (ord L roots n)) = S := ⟨_, rfl⟩
        rw [hS] at HSW t0 t1 ⊢
        clear hcs htw hhd hlt hn hat hcs' hl hS HC hso hBr
        go_upto_region 13 with fail
        go_cut [] from 74 to 85 (fun wx => wx.heap[hb]? = some (.cells #[.int .i64 size, .int .i64 runs, .slice AT S cT, .slice AG S cG, .slice AV (sizes L) cV, .slice AH (sizes L) cH] HTy) ∧ (∀ b, b ≠ hb → wx.heap[b]? = wr.heap[b]?) ∧ Below B wr wx)
        case first =>
          go_region_law fail
          all_goals
            go_wp2_with fail
            go_meet
            exact four_set HHD.out.1 HHD.out.2.1 _ _ _ _
        case rest =>
          obtain ⟨h1, h2, h3⟩ := hcut
          have H1 := Lib.hid (And.intro h1 (And.intro h2 h3))
          obtain ⟨x0, x1, x2, x3, x4, x5⟩ := cells6 h1
          have f1 := frozenN h1 1
          have e1 : IntKind.i64.wrap (runs + 1) = runs + 1 := by rw [IntKind.wrap_i64]; have := HFX.out.2.2.2.1; omega
          clear h1 h2 h3 t0 t1
          go_wp2_with fail
          go_returns
          refine ⟨v, _, _, _, _, rfl, HSW.out _ _ (set_cells H1.out.1 1 _) (fun b hb' => (set_other _ _ _ _ hb').trans (H1.out.2.1 b hb')) (H1.out.2.2.setCell (p := ⟨hb, 1, none⟩) HHD.out.2.1 _)⟩
end
end Go.Proofs.Ythblcfhflkapmaa
