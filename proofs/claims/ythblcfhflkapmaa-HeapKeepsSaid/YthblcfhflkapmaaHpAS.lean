/-
  The law HeapKeeps, walked (under way).
-/
import Derived.Test.YthblcfhflkapmaaHpAU
import Derived.Test.YthblcfhflkapmaaCodes
import Derived.StillTailTactics
namespace Go.Proofs.Ythblcfhflkapmaa
open Go Go.ChangeShapes Go.WideShapes Go.ChangeAt Go.RowKit Go.Sort
set_option linter.unusedVariables false
set_option linter.unusedSimpArgs false

theorem own_lit0 (w : World) {B size : Nat} (T : TypeId) (hB : B ≤ w.heap.size) : (w.alloc (.cells #[] T)).ownsRow B T size (.slice (some ⟨w.heap.size, 0, none⟩) 0 0) 0 [] :=
  ⟨by simp, .inr ⟨w.heap.size, 0, #[], rfl, hB, heap_new rfl, Nat.le_refl _, Nat.zero_le _, by simp, by simp⟩⟩
@[go_sem] theorem eql_nil_code (b : Int) (w : World) : (binOp .eql 26 .nilIface (.iface 29 (.int .i64 b))).run Try.prog w = .ok (.bool false) w := by
  have h : (Op.equal 26 .nilIface (.iface 29 (.int .i64 b))).run Try.prog w = .ok false w := by
    have h : ∀ d : Nat, (Op.equalIn (d + 2) 26 .nilIface (.iface 29 (.int .i64 b))).run Try.prog w = .ok false w := fun d => by
      simp [Op.equalIn, run_underlying Try.underlying26]
    simp only [Op.equal, Op.maxDepth]
    exact h 9998
  simp only [binOp]
  simp [h]
set_option maxRecDepth 100000 in
set_option maxHeartbeats 8000000 in
theorem keeps_main (w : World) (half : Int) (A1 A2 : Option Addr) (c1 c2 : Nat) (ds : List Dd) (ks : List Int) (hh : 1 ≤ half ∧ half ≤ 3000) (h1 : ds.length ≤ 40) (h2 : ks.length ≤ 10) (hd : DR w A1 ds) (hk : Rd w 1 A2 ks.length (icells ks)) (hkr : ∀ n ∈ ks, I64 n) :
    Calls Try.prog 4 #[.int .i64 half, .slice A1 ds.length c1, .slice A2 ks.length c2] w fun e w' => e = .returned (.bool true) ∧ Below w.heap.size w w' := by
  have HU := Lib.hid (up_any w)
  have HN := Lib.hid (fun w1 : World => New_yes half hh.1 (by omega) w1)
  have q1 : decide (3000 < half) = false := decide_eq_false (by omega)
  have q2 : decide (40 < (ds.length : Int)) = false := decide_eq_false (by omega)
  have q3 : decide (10 < (ks.length : Int)) = false := decide_eq_false (by omega)
  have HI := Lib.hid (And.intro hh (And.intro h1 (And.intro h2 (And.intro hd (And.intro hk hkr)))))
  clear hh h1 h2 hd hk hkr
  go_enter Try.func4, Try.ntmps4
  go_wp2_with (first
    | (go_at_call 5; (with_reducible refine HU.out.mono ?_); rintro e w1 ⟨rfl, hb1⟩; have HB := Lib.hid hb1; clear hb1)
    | (go_at_call 6; (with_reducible refine (HN.out _).mono ?_); rintro e w2 ⟨rfl, hc2, hb2⟩; have H2 := Lib.hid (And.intro (HK.start hc2 (by have := HI.out.1.1; omega) hb2 hb2.size) (below_then HB.out hb2)); clear hc2 hb2))
  clear q1 q2 q3
  rename_i hKC
  have HKC := Lib.hid hKC
  clear hKC
  go_loopw [10, 11] (fun x i' wr => ∃ (k : Nat) (L : List Ob) (ps : List Wd) (runs : Int) (V G V' G' : Value), i' = .int .i64 k ∧ k ≤ ds.length ∧ HK w1 wr w1.heap.size w1.heap.size half k L ps x runs V G V' G') (fun _ i' _ => ds.length - (intOf i').toNat)
  case atStart => exact ⟨0, _, _, _, _, _, _, _, rfl, Nat.zero_le _, H2.out.1⟩
  case round =>
    obtain ⟨wo, hwo⟩ : ∃ wo, wo = wr := ⟨_, rfl⟩
    subst hwo
    obtain ⟨k, L, ps, runs, V, G, V', G', rfl, hk, hK⟩ := hrel
    have HK1 := Lib.hid hK
    clear hK
    have n0 : (0 : Int) ≤ (k : Int) := by omega
    by_cases hlt : k < ds.length
    · have q1 : decide ((k : Int) < (ds.length : Int)) = true := decide_eq_true (by omega)
      have n1 : (k : Int) < (ds.length : Int) := by omega
      obtain ⟨d, hd⟩ : ∃ d, ds[k]? = some d := ⟨_, List.getElem?_eq_getElem hlt⟩
      have hbw : Below w.heap.size w wo := HB.out.trans (HK1.out.bl.mono HB.out.size)
      obtain ⟨A10, c10, rfl, _⟩ := own_cap HK1.out.row
      obtain ⟨N1, hN1⟩ : ∃ N1, wo.heap.size = N1 := ⟨_, rfl⟩
      have HN1 := Lib.hid hN1
      have HKW := Lib.hid (fun (W : World) (h : Below N1 wo W) => HK1.out.below (show Below wo.heap.size wo W from hN1 ▸ h))
      clear hN1
      have HD := Lib.hid (And.intro hd hbw)
      clear hd hbw hk
      go_wp2_with fail
      go_loopw [12, 13] (fun y j' wz => ∃ (m : Nat) (l : List Wd), j' = .int .i64 m ∧ l.length = m ∧ m ≤ 20 ∧ m ≤ d.l.length ∧ HK w1 wz w1.heap.size w1.heap.size half k L ps (.slice A10 ps.length c10) runs V G V' G' ∧ wz.ownsRow N1 WTy 2 y m (wcells l) ∧ (∀ u ∈ l, Fine L u) ∧ Below N1 wo wz) (fun _ j' _ => 20 - (intOf j').toNat)
      case atStart => exact ⟨0, [], rfl, rfl, by omega, by omega, HK1.out, World.ownsRow_nil _ _ _ _, (fun u hu => nomatch hu), Below.refl _ _⟩
      case round =>
        obtain ⟨m, l, rfl, hlm, hm20, hml, hK, hl, hf, hb⟩ := hrel
        have HK2 := Lib.hid (And.intro hK (And.intro hl (And.intro hf hb)))
        obtain ⟨b0, o0, hA, hb0, e1, e3, e7⟩ := (HI.out.2.2.2.1.below (HD.out.2.trans (hb.mono (by have := HD.out.2.size; have := HN1.out; omega)))).at HD.out.1
        subst hA
        obtain ⟨Al, cl, rfl, _⟩ := own_cap hl
        clear hK hl hf hb hb0
        have m0 : (0 : Int) ≤ (m : Int) := by omega
        rw [← Nat.add_assoc] at e1 e3 e7
        by_cases hx : m < d.l.length ∧ m < 20
        · have p1 : decide ((m : Int) < (d.l.length : Int)) = true := decide_eq_true (by omega)
          have p2 : decide ((m : Int) < 20) = true := decide_eq_true (by omega)
          have p3 : (m : Int) < (d.l.length : Int) := by omega
          obtain ⟨u, hu⟩ : ∃ u, d.l[m]? = some u := ⟨_, List.getElem?_eq_getElem hx.1⟩
          have hw := ((HI.out.2.2.2.1.below (HD.out.2.trans (HK2.out.2.2.2.mono (by have := HD.out.2.size; have := HN1.out; omega)))).ws d (List.mem_of_getElem? HD.out.1))
          obtain ⟨b2, o2, hA2, _, f1, f2⟩ := hw.word hu
          rw [hA2] at e7
          clear hw hA2
          go_upto_region 16 with fail
          have hx3 := heap_new (w := wr) (o := .cells #[.bool u.ptr, .int .i64 u.v] 36) rfl
          have hb3 : Below wr.heap.size wr (wr.alloc (.cells #[.bool u.ptr, .int .i64 u.v] 36)) := (Below.refl _ _).alloc (Nat.le_refl _) _
          have HU3 := Lib.hid hu
          generalize wr.alloc (.cells #[.bool u.ptr, .int .i64 u.v] 36) = w3 at *
          obtain ⟨d0, d1⟩ := cells2 hx3
          have z0 := frozenN hx3 0
          have z1 := frozenN hx3 1
          have H3 := Lib.hid (And.intro hx3 hb3)
          clear hx3 hb3 e1 e3 e7 f1 f2 hu p1 p2 q1
          have HRG := Lib.hid (HI.out.2.2.2.1.rg d (List.mem_of_getElem? HD.out.1) u (List.mem_of_getElem? HU3.out))
          have HL := Lib.hid (And.intro hlm (And.intro hx (And.intro hm20 hml)))
          have HB3 := Lib.hid (show Below N1 wo w3 from HK2.out.2.2.2.trans (H3.out.2.mono (by have := HK2.out.2.2.2.size; have := HN1.out; omega)))
          have m20 : (m : Int) < 20 := by have := hx.2; omega
          rcases Bool.eq_false_or_eq_true u.ptr with hp | hp
          · rw [hp] at d0
            have HP := Lib.hid hp
            clear hp hx hlm hm20 hml p3
            have hI := int_any u.v w3
            go_upto_region 18 with (go_at_call 24; (with_reducible refine hI.mono ?_); rintro e w4 ⟨rfl, hb4⟩; have hx4 := (hb4.block _ (lt_of_heap H3.out.1)).trans H3.out.1; have f0 := frozenN hx4 0; have f1 := frozenN hx4 1; obtain ⟨g0, g1⟩ := cells2 hx4; have H4 := Lib.hid (And.intro hx4 hb4); clear hx4 hb4)
            have h9 := box_set (B := wr.heap.size) H4.out.1 (.bool false) (.int .i64 u.v) (Nat.le_refl _)
            have H5 := Lib.hid (And.intro h9.1 (H3.out.2.trans ((H4.out.2.mono H3.out.2.size).trans h9.2.1)))
            have HB5 := Lib.hid (show Below N1 wo _ from HK2.out.2.2.2.trans (H5.out.2.mono (by have := HK2.out.2.2.2.size; have := HN1.out; omega)))
            have HO5 := Lib.hid (own_below HK2.out.2.1 H5.out.2)
            have HF0 := Lib.hid (show Fine L ⟨false, u.v⟩ from fun e => nomatch e)
            clear d0 d1 z0 z1 h9 hI
            generalize (w4.setCell ⟨wr.heap.size, 0, none⟩ (.bool false)).setCell ⟨wr.heap.size, 1, none⟩ (.int .i64 u.v) = w5 at *
            obtain ⟨d0, d1⟩ := cells2 H5.out.1
            have z0 := frozenN H5.out.1 0
            have z1 := frozenN H5.out.1 1
            by_cases hpl : 0 < ps.length
            · have q5 : decide (0 < (ps.length : Int)) = true := decide_eq_true (by omega)
              have HPL := Lib.hid hpl
              have hpk := pick_any u.v (ps.length : Int) HRG.out ⟨by omega, by have := HK1.out.ln; have := HI.out.2.1; omega⟩ w5
              go_upto_region 19 with fail
              obtain ⟨b7, o7, hA7, hb7, g7⟩ : ∃ b o, A10 = some ⟨b, o, none⟩ ∧ b < w5.heap.size ∧ ∀ (r : Nat) (x : Wd), ps[r]? = some x → w5.cell? ⟨b, o + r * 2, none⟩ = some (.bool x.ptr) ∧ w5.cell? ⟨b, o + r * 2 + 1, none⟩ = some (.int .i64 x.v) := by
                have hr5 := (Rd.of_own HK1.out.row).below (show Below wo.heap.size wo w5 from by rw [HN1.out]; exact HB5.out)
                obtain ⟨b, o, rfl, hb, hh⟩ := hr5.base (by rw [wcells_len]; omega)
                exact ⟨b, o, rfl, hb, fun r x hx => ⟨hh _ _ (wcells_at hx).1, by have := hh _ _ (wcells_at hx).2; rw [← Nat.add_assoc] at this; exact this⟩⟩
              subst hA7
              go_wp2_with (first
                | (go_at_call 8; (with_reducible refine hpk.mono ?_); rintro e w6 ⟨r, hr, rfl, rfl⟩; obtain ⟨x, hx⟩ : ∃ x, ps[r]? = some x := ⟨_, List.getElem?_eq_getElem (by omega)⟩; obtain ⟨g0, g1⟩ := g7 r x hx; have r0 : (0 : Int) ≤ (r : Int) := by omega; have HX := Lib.hid hx; clear hx hpl))
              refine hpk.mono ?_
              rintro e w6 ⟨r, hr, rfl, rfl⟩
              obtain ⟨x, hx⟩ : ∃ x, ps[r]? = some x := ⟨_, List.getElem?_eq_getElem (by omega)⟩
              obtain ⟨g0, g1⟩ := g7 r x hx
              have r0 : (0 : Int) ≤ (r : Int) := by omega
              have HX := Lib.hid hx
              have h9 := box_set (B := wr.heap.size) H5.out.1 (.bool x.ptr) (.int .i64 x.v) (Nat.le_refl _)
              have H7 := Lib.hid (And.intro h9.1 (H5.out.2.trans h9.2.1))
              have HB7 := Lib.hid (show Below N1 wo _ from HK2.out.2.2.2.trans (H7.out.2.mono (by have := HK2.out.2.2.2.size; have := HN1.out; omega)))
              have HO7 := Lib.hid (own_below HK2.out.2.1 H7.out.2)
              have HFX := Lib.hid (show Fine L x from HK1.out.fn x (List.mem_of_getElem? hx))
              clear hx hpl h9
              go_upto_region 20 with fail
              clear d0 d1 z0 z1 g0 g1
              generalize (w5.setCell ⟨wr.heap.size, 0, none⟩ (.bool x.ptr)).setCell ⟨wr.heap.size, 1, none⟩ (.int .i64 x.v) = w7 at *
              obtain ⟨d0, d1⟩ := cells2 H7.out.1
              have HE := Lib.hid (rd_one w7 x)
              have HL5 := Lib.hid (show N1 ≤ w7.heap.size by have := HB7.out.size; have := HN1.out; omega)
              have HL4 := Lib.hid (show N1 ≤ (w7.alloc (.cells #[.bool x.ptr, .int .i64 x.v] 36)).heap.size by rw [World.size_alloc]; have := HL5.out; omega)
              have HO4 := Lib.hid (own_below HO7.out ((Below.refl w7.heap.size w7).alloc (Nat.le_refl _) (.cells #[.bool x.ptr, .int .i64 x.v] 36)))
              go_wp2_with (at_builtin; refine wpList_app elWord _ rfl (.tmp 105) (.tmp 107) rfl _ _ m (wcells l) rfl HO4.out (some ⟨w7.heap.size, 0, none⟩) 1 1 _ rfl HE.out (wcells_ones _) (by have := HL.out; omega) HL4.out ?_; intro v6 w6 hown6 hb6 hg6 hat6; rw [← wcells_append] at hown6; have H6 := Lib.hid (And.intro hown6 (HB7.out.trans (((Below.refl w7.heap.size w7).alloc (Nat.le_refl _) _).mono HL5.out |>.trans hb6))); clear hown6 hb6 hg6 hat6)
              have hLL := HL.out
              refine ⟨⟨m + 1, l ++ [x], by go_num, by simp [HL.out.1], by have := HL.out; omega, by have := HL.out; omega, HKW.out w6 H6.out.2, H6.out.1, fun y hy => (List.mem_append.1 hy).elim (HK2.out.2.2.1 y) (fun q => by rw [List.mem_singleton.1 q]; exact HFX.out), H6.out.2⟩, by simp [intOf] <;> omega⟩
            · have q5 : decide (0 < (ps.length : Int)) = false := decide_eq_false (by omega)
              have HFX := HF0
              have HE := Lib.hid (rd_one w5 ⟨false, u.v⟩)
              have HL5 := Lib.hid (show N1 ≤ w5.heap.size by have := HB5.out.size; have := HN1.out; omega)
              have HL4 := Lib.hid (show N1 ≤ (w5.alloc (.cells #[.bool false, .int .i64 u.v] 36)).heap.size by rw [World.size_alloc]; have := HL5.out; omega)
              have HO4 := Lib.hid (own_below HO5.out ((Below.refl w5.heap.size w5).alloc (Nat.le_refl _) (.cells #[.bool false, .int .i64 u.v] 36)))
              go_wp2_with (at_builtin; refine wpList_app elWord _ rfl (.tmp 105) (.tmp 107) rfl _ _ m (wcells l) rfl HO4.out (some ⟨w5.heap.size, 0, none⟩) 1 1 _ rfl HE.out (wcells_ones _) (by have := HL.out; omega) HL4.out ?_; intro v6 w6 hown6 hb6 hg6 hat6; rw [← wcells_append] at hown6; have H6 := Lib.hid (And.intro hown6 (HB5.out.trans (((Below.refl w5.heap.size w5).alloc (Nat.le_refl _) _).mono HL5.out |>.trans hb6))); clear hown6 hb6 hg6 hat6)
              have hLL := HL.out
              refine ⟨⟨m + 1, l ++ [⟨false, u.v⟩], by go_num, by simp [HL.out.1], by have := HL.out; omega, by have := HL.out; omega, HKW.out w6 H6.out.2, H6.out.1, fun y hy => (List.mem_append.1 hy).elim (HK2.out.2.2.1 y) (fun q => by rw [List.mem_singleton.1 q]; exact HFX.out), H6.out.2⟩, by simp [intOf] <;> omega⟩
          · rw [hp] at d0
            have HP := Lib.hid hp
            clear hp hx hlm hm20 hml p3
            obtain ⟨w5, hw5⟩ : ∃ w5, w3 = w5 := ⟨_, rfl⟩
            subst hw5
            have HE := Lib.hid (rd_one w3 ⟨false, u.v⟩)
            have HL5 := Lib.hid (show N1 ≤ w3.heap.size by have := HB3.out.size; have := HN1.out; omega)
            have HB5 := HB3
            have HL4 := Lib.hid (show N1 ≤ (w3.alloc (.cells #[.bool false, .int .i64 u.v] 36)).heap.size by rw [World.size_alloc]; have := HL5.out; omega)
            have HO4 := Lib.hid (own_below (own_below HK2.out.2.1 H3.out.2) ((Below.refl w3.heap.size w3).alloc (Nat.le_refl _) (.cells #[.bool false, .int .i64 u.v] 36)))
            have HFX := Lib.hid (show Fine L ⟨false, u.v⟩ from fun e => nomatch e)
            go_upto_region 20 with fail
            go_wp2_with (at_builtin; refine wpList_app elWord _ rfl (.tmp 105) (.tmp 107) rfl _ _ m (wcells l) rfl HO4.out (some ⟨w3.heap.size, 0, none⟩) 1 1 _ rfl HE.out (wcells_ones _) (by have := HL.out; omega) HL4.out ?_; intro v6 w6 hown6 hb6 hg6 hat6; rw [← wcells_append] at hown6; have H6 := Lib.hid (And.intro hown6 (HB5.out.trans (((Below.refl w3.heap.size w3).alloc (Nat.le_refl _) _).mono HL5.out |>.trans hb6))); clear hown6 hb6 hg6 hat6)
            have hLL := HL.out
            refine ⟨⟨m + 1, l ++ [⟨false, u.v⟩], by go_num, by simp [HL.out.1], by have := HL.out; omega, by have := HL.out; omega, HKW.out w6 H6.out.2, H6.out.1, fun y hy => (List.mem_append.1 hy).elim (HK2.out.2.2.1 y) (fun q => by rw [List.mem_singleton.1 q]; exact HFX.out), H6.out.2⟩, by simp [intOf] <;> omega⟩
        · have hcc : ¬ m < d.l.length ∨ (m < d.l.length ∧ (20 : Int) ≤ (m : Int)) := by omega
          clear hx
          have HML := Lib.hid hm20
          clear hm20 hml
          subst hlm
          have HMK := Lib.hid (Make_sum HK2.out.1.ch HK2.out.1.wf HK2.out.1.le HK2.out.1.sz HI.out.1 ⟨HK2.out.1.ru.1, by have := HK2.out.1.ru.2; have := HI.out.2.1; omega⟩ d.kind Al A10 cl c10 (Rd.of_own HK2.out.2.1) (Rd.of_own HK2.out.1.row) (by have := HK2.out.1.ln; have := HI.out.2.1; omega) HK2.out.2.2.1 HK2.out.1.fn)
          rcases hcc with hcc | ⟨hc1, hc2⟩
          · go_wp2_with fail
            refine HMK.out.mono ?_
            rintro e w3 (⟨rfl, hb3⟩ | ⟨p, vl, vr, er, L', runs', V1, G1, V1', G1', rs, rfl, hm⟩)
            · have H3 := Lib.hid (HK2.out.1.below hb3)
              clear hb3
              have k40 : (k : Int) < 40 := by have := HI.out.2.1; omega
              go_wp2_with fail
              exact ⟨⟨k + 1, L, ps, runs, V, G, V', G', by go_num, by omega, H3.out.up⟩, by simp [intOf] <;> omega⟩
            · have k40 : (k : Int) < 40 := by have := HI.out.2.1; omega
              have HM := Lib.hid hm
              obtain ⟨Ar, cr, rfl, _⟩ := own_cap hm.row
              have her := hm.er
              clear hm
              rcases her with ⟨rfl, hat⟩ | rfl
              · have HAT := Lib.hid hat
                clear hat
                go_upto_region 25 with fail
                have HO0 := Lib.hid (own_lit0 w3 (size := 2) WTy (Nat.le_refl w3.heap.size))
                have HR3 := Lib.hid ((Rd.of_own HM.out.row).alloc (.cells #[] WTy))
                have HPB := Lib.hid (show ps.length ≤ 40 by have := HK2.out.1.ln; have := HI.out.2.1; omega)
                have HA3 := Lib.hid ((Below.refl w3.heap.size w3).alloc (Nat.le_refl _) (.cells #[] WTy))
                have HAT4 := Lib.hid (fun W : World => at_any p W)
                go_upto_region 26 with (first
                  | (at_builtin; refine wpList_app elWord _ rfl (.tmp 129) (.tmp 130) rfl _ _ 0 [] rfl HO0.out Ar ps.length cr (wcells rs) rfl HR3.out (wcells_ones _) (by have := HPB.out; omega) HA3.out.size ?_; intro v4 w4 hown4 hb4 hg4 hat4; rw [Nat.zero_add, List.nil_append] at hown4; have H4 := Lib.hid (And.intro hown4 (HA3.out.trans hb4)); clear hown4 hb4 hg4 hat4)
                  | (go_at_call 14; (with_reducible refine (HAT4.out _).mono ?_); rintro e w5 ⟨rfl, hb5⟩; have HE5 := Lib.hid (rd_one w5 ⟨true, p⟩); have HB5 := Lib.hid (H4.out.2.trans (hb5.mono H4.out.2.size)); have HO5 := Lib.hid (own_below (own_below H4.out.1 hb5) ((Below.refl w5.heap.size w5).alloc (Nat.le_refl _) (.cells #[.bool true, .int .i64 p] WTy))); have HL5 := Lib.hid (show w3.heap.size ≤ (w5.alloc (.cells #[.bool true, .int .i64 p] WTy)).heap.size by rw [World.size_alloc]; have := HB5.out.size; omega); clear hb5)
                  | (at_builtin; refine wpList_app elWord _ rfl (.tmp 131) (.tmp 134) rfl _ _ ps.length (wcells rs) rfl HO5.out (some ⟨w5.heap.size, 0, none⟩) 1 1 _ rfl HE5.out (wcells_ones _) (by have := HPB.out; omega) HL5.out ?_; intro v6 w6 hown6 hb6 hg6 hat6; have H6 := Lib.hid (And.intro hown6 (HB5.out.trans (((Below.refl w5.heap.size w5).alloc (Nat.le_refl _) _).mono HB5.out.size |>.trans hb6))); clear hown6 hb6 hg6 hat6))
                obtain ⟨A6, c6, hv6, _⟩ := own_cap H6.out.1
                rw [hv6]
                have HK6 := Lib.hid ((HK2.out.1.made HM.out).more H6.out.2 (u := ⟨true, p⟩) (fun _ => HAT.out) (by have := HK2.out.1.ln; have := HM.out.ln; omega) (by rw [HM.out.ln]; exact H6.out.1))
                rw [hv6] at HK6 H6
                rw [← wcells_append] at H6
                clear hv6
                by_cases hpl : 0 < ps.length
                · obtain ⟨b9, o9, hA9, _, e1, e3, _⟩ := (HI.out.2.2.2.1.below (HB.out.trans (HK6.out.bl.mono HB.out.size))).at HD.out.1
                  cases hA9
                  rw [← Nat.add_assoc] at e1 e3
                  obtain ⟨x, hx⟩ : ∃ x, (rs ++ [(⟨true, p⟩ : Wd)])[0]? = some x := ⟨_, List.getElem?_eq_getElem (by simp)⟩
                  obtain ⟨b8, o8, hA8, _, f1, f2⟩ := (Rd.of_own H6.out.1).word hx
                  subst hA8
                  have HSET := Lib.hid (Set_sum (HK6.out.below (below_drew1 w6)).ch HK6.out.wf (HK6.out.below (below_drew1 w6)).le (by have := HK6.out.sz; have := HI.out.1; omega) p d.i x (HK6.out.fn x (List.mem_of_getElem? hx)))
                  rw [Nat.zero_mul, Nat.add_zero] at f1 f2
                  have x0 : (0 : Int) < (ps.length : Int) + 1 := by omega
                  have x1 : 0 < ps.length + 1 := by omega
                  clear hx e1
                  go_upto_region 27 with fail
                  go_still_tail 10, (by kernel_rfl)
                  change wpList _ _ _ _ _ w6.drew
                  go_wp2_with (go_at_call 15; (with_reducible refine HSET.out.mono ?_); rintro e w8 ⟨v, L2, rfl, hc, hwf, hsz, hfi, htr, hbl⟩; have HK8 := Lib.hid ((HK6.out.below (below_drew1 w6)).set hc hwf hsz hfi htr hbl); clear hc hwf hsz hfi htr hbl)
                  exact ⟨⟨k + 1, L2, rs ++ [⟨true, p⟩], runs', V1, G1, V1', G1', by go_num, by omega, HK8.out⟩, by simp [intOf] <;> omega⟩
                · go_wp2_with fail
                  exact ⟨⟨k + 1, L', rs ++ [⟨true, p⟩], runs', V1, G1, V1', G1', by go_num, by omega, HK6.out⟩, by simp [intOf] <;> omega⟩
              · go_wp2_with fail
                exact ⟨⟨k + 1, L', rs, runs', V1, G1, V1', G1', by go_num, by omega, HK2.out.1.made HM.out⟩, by simp [intOf] <;> omega⟩
          · go_wp2_with fail
            refine HMK.out.mono ?_
            rintro e w3 (⟨rfl, hb3⟩ | ⟨p, vl, vr, er, L', runs', V1, G1, V1', G1', rs, rfl, hm⟩)
            · have H3 := Lib.hid (HK2.out.1.below hb3)
              clear hb3
              have k40 : (k : Int) < 40 := by have := HI.out.2.1; omega
              go_wp2_with fail
              exact ⟨⟨k + 1, L, ps, runs, V, G, V', G', by go_num, by omega, H3.out.up⟩, by simp [intOf] <;> omega⟩
            · have k40 : (k : Int) < 40 := by have := HI.out.2.1; omega
              have HM := Lib.hid hm
              obtain ⟨Ar, cr, rfl, _⟩ := own_cap hm.row
              have her := hm.er
              clear hm
              rcases her with ⟨rfl, hat⟩ | rfl
              · have HAT := Lib.hid hat
                clear hat
                go_upto_region 25 with fail
                have HO0 := Lib.hid (own_lit0 w3 (size := 2) WTy (Nat.le_refl w3.heap.size))
                have HR3 := Lib.hid ((Rd.of_own HM.out.row).alloc (.cells #[] WTy))
                have HPB := Lib.hid (show ps.length ≤ 40 by have := HK2.out.1.ln; have := HI.out.2.1; omega)
                have HA3 := Lib.hid ((Below.refl w3.heap.size w3).alloc (Nat.le_refl _) (.cells #[] WTy))
                have HAT4 := Lib.hid (fun W : World => at_any p W)
                go_upto_region 26 with (first
                  | (at_builtin; refine wpList_app elWord _ rfl (.tmp 129) (.tmp 130) rfl _ _ 0 [] rfl HO0.out Ar ps.length cr (wcells rs) rfl HR3.out (wcells_ones _) (by have := HPB.out; omega) HA3.out.size ?_; intro v4 w4 hown4 hb4 hg4 hat4; rw [Nat.zero_add, List.nil_append] at hown4; have H4 := Lib.hid (And.intro hown4 (HA3.out.trans hb4)); clear hown4 hb4 hg4 hat4)
                  | (go_at_call 14; (with_reducible refine (HAT4.out _).mono ?_); rintro e w5 ⟨rfl, hb5⟩; have HE5 := Lib.hid (rd_one w5 ⟨true, p⟩); have HB5 := Lib.hid (H4.out.2.trans (hb5.mono H4.out.2.size)); have HO5 := Lib.hid (own_below (own_below H4.out.1 hb5) ((Below.refl w5.heap.size w5).alloc (Nat.le_refl _) (.cells #[.bool true, .int .i64 p] WTy))); have HL5 := Lib.hid (show w3.heap.size ≤ (w5.alloc (.cells #[.bool true, .int .i64 p] WTy)).heap.size by rw [World.size_alloc]; have := HB5.out.size; omega); clear hb5)
                  | (at_builtin; refine wpList_app elWord _ rfl (.tmp 131) (.tmp 134) rfl _ _ ps.length (wcells rs) rfl HO5.out (some ⟨w5.heap.size, 0, none⟩) 1 1 _ rfl HE5.out (wcells_ones _) (by have := HPB.out; omega) HL5.out ?_; intro v6 w6 hown6 hb6 hg6 hat6; have H6 := Lib.hid (And.intro hown6 (HB5.out.trans (((Below.refl w5.heap.size w5).alloc (Nat.le_refl _) _).mono HB5.out.size |>.trans hb6))); clear hown6 hb6 hg6 hat6))
                obtain ⟨A6, c6, hv6, _⟩ := own_cap H6.out.1
                rw [hv6]
                have HK6 := Lib.hid ((HK2.out.1.made HM.out).more H6.out.2 (u := ⟨true, p⟩) (fun _ => HAT.out) (by have := HK2.out.1.ln; have := HM.out.ln; omega) (by rw [HM.out.ln]; exact H6.out.1))
                rw [hv6] at HK6 H6
                rw [← wcells_append] at H6
                clear hv6
                by_cases hpl : 0 < ps.length
                · obtain ⟨b9, o9, hA9, _, e1, e3, _⟩ := (HI.out.2.2.2.1.below (HB.out.trans (HK6.out.bl.mono HB.out.size))).at HD.out.1
                  cases hA9
                  rw [← Nat.add_assoc] at e1 e3
                  obtain ⟨x, hx⟩ : ∃ x, (rs ++ [(⟨true, p⟩ : Wd)])[0]? = some x := ⟨_, List.getElem?_eq_getElem (by simp)⟩
                  obtain ⟨b8, o8, hA8, _, f1, f2⟩ := (Rd.of_own H6.out.1).word hx
                  subst hA8
                  have HSET := Lib.hid (Set_sum (HK6.out.below (below_drew1 w6)).ch HK6.out.wf (HK6.out.below (below_drew1 w6)).le (by have := HK6.out.sz; have := HI.out.1; omega) p d.i x (HK6.out.fn x (List.mem_of_getElem? hx)))
                  rw [Nat.zero_mul, Nat.add_zero] at f1 f2
                  have x0 : (0 : Int) < (ps.length : Int) + 1 := by omega
                  have x1 : 0 < ps.length + 1 := by omega
                  clear hx e1
                  go_upto_region 27 with fail
                  go_still_tail 10, (by kernel_rfl)
                  change wpList _ _ _ _ _ w6.drew
                  go_wp2_with (go_at_call 15; (with_reducible refine HSET.out.mono ?_); rintro e w8 ⟨v, L2, rfl, hc, hwf, hsz, hfi, htr, hbl⟩; have HK8 := Lib.hid ((HK6.out.below (below_drew1 w6)).set hc hwf hsz hfi htr hbl); clear hc hwf hsz hfi htr hbl)
                  exact ⟨⟨k + 1, L2, rs ++ [⟨true, p⟩], runs', V1, G1, V1', G1', by go_num, by omega, HK8.out⟩, by simp [intOf] <;> omega⟩
                · go_wp2_with fail
                  exact ⟨⟨k + 1, L', rs ++ [⟨true, p⟩], runs', V1, G1, V1', G1', by go_num, by omega, HK6.out⟩, by simp [intOf] <;> omega⟩
              · go_wp2_with fail
                exact ⟨⟨k + 1, L', rs, runs', V1, G1, V1', G1', by go_num, by omega, HK2.out.1.made HM.out⟩, by simp [intOf] <;> omega⟩
    · have q1 : decide ((k : Int) < (ds.length : Int)) = false := decide_eq_false (by omega)
      have hkk : k = ds.length := by omega
      rw [hkk] at HK1
      obtain ⟨A10, c10, rfl, _⟩ := own_cap HK1.out.row
      clear hk n0 hkk
      go_wp2_with fail
      refine HKC.out _ _ ?_
      exact keeps_rest w w1 wo w1.heap.size w1.heap.size ds.length half runs L ps ks V G V' G' A2 A10 c2 c10 HK1.out HI.out.1.2 HI.out.2.1 HI.out.2.2.1 (HI.out.2.2.2.2.1.below (HB.out.trans (HK1.out.bl.mono HB.out.size))) HI.out.2.2.2.2.2 HB.out.size HB.out
end Go.Proofs.Ythblcfhflkapmaa
