/-
  Reading functions and lists of them, and of texts.
-/
import Derived.Test.YthdnnlelmelegaaCodeX
namespace Go.Proofs.Ythdnnlelmelegaa
open Go.ChangeShapes Go.WideShapes Go.ChangeAt Go.RowKit
set_option linter.unusedVariables false

theorem AIns.Away.mono {X Y : Nat → Prop} {y : AIns} (h : y.Away X) (hXY : ∀ b, Y b → X b) : y.Away Y := fun hn a e hb => h hn a e (hXY _ hb)
theorem AFnc.Away.mono {X Y : Nat → Prop} {y : AFnc} (h : y.Away X) (hXY : ∀ b, Y b → X b) : y.Away Y := ⟨fun hn a e hb => h.1 hn a e (hXY _ hb), fun y hy => (h.2 y hy).mono hXY⟩

set_option maxRecDepth 100000 in
set_option maxHeartbeats 400000 in
theorem rfunc_any (rb : Nat) (s : List UInt8) (bad : Bool) (w : World) (h : RSt w rb s bad) (hbad : bad = true → s = []) (hl : s.length ≤ 1099511627776) :
    Calls Try.prog 37 #[.pointer (some ⟨rb, 0, none⟩)] w fun e w' => ∃ y : AFnc, e = .returned (.agg #[.int .i64 y.regs, .int .i64 y.caps, .slice y.A y.n y.c]) ∧ y.In w' ∧ y.Away (fun b => b < w.heap.size) ∧ Step pFnc s bad rb w' y.fnc ∧ RK rb w w' := by
  have hrb : rb < w.heap.size := by obtain ⟨A, c, hs⟩ := h; exact World.block_lt_of_cell? w _ hs.c0
  have hb0 : Below w.heap.size w (w.alloc (.cells #[.int .i64 0, .int .i64 0, .slice none 0 0] 44)) := (Below.refl _ _).alloc (Nat.le_refl _) _
  have hk0 : RK rb w (w.alloc (.cells #[.int .i64 0, .int .i64 0, .slice none 0 0] 44)) := (RK.refl rb w).of_below hb0
  have h0 := h.upto (hb0.mono hrb)
  have z0 := cell_new w #[.int .i64 0, .int .i64 0, .slice none 0 0] 44 0 (v := .int .i64 0) (fr := (0, 0)) rfl
  have z1 := cell_new w #[.int .i64 0, .int .i64 0, .slice none 0 0] 44 1 (v := .int .i64 0) (fr := (0, 0)) rfl
  have z2 := cell_new w #[.int .i64 0, .int .i64 0, .slice none 0 0] 44 2 (v := .slice none 0 0) (fr := (0, 0)) rfl
  have zf : ∀ j, (w.alloc (.cells #[.int .i64 0, .int .i64 0, .slice none 0 0] 44)).frozen? ⟨w.heap.size, j, none⟩ = false := fun j => by rw [World.frozen?_alloc_mark]; simp
  have zs : w.heap.size < (w.alloc (.cells #[.int .i64 0, .int .i64 0, .slice none 0 0] 44)).heap.size := by simp
  have Z := Lib.hid (And.intro z0 (And.intro z1 (And.intro z2 (And.intro zf (And.intro zs hk0)))))
  clear z0 z1 z2 zf hb0 hk0 zs h
  go_enter Try.func37, Try.ntmps37
  go_wp2_with fail
  generalize (w.alloc (.cells #[.int .i64 0, .int .i64 0, .slice none 0 0] 44)) = w0 at *
  refine (rint_any rb s bad w0 h0 hbad hl).mono ?_
  rintro e w1 ⟨op, rfl, hop, hst1, hk1⟩
  obtain ⟨s1, b1, hs1, hb1, hl1, hp1⟩ := hst1.out rd_le
  clear hst1 hbad h0
  go_wp2_with fail
  refine (rint_any rb s1 b1 w1 hs1 hb1 (by omega)).mono ?_
  rintro e w2 ⟨a, rfl, ha, hst2, hk2⟩
  obtain ⟨s2, b2, hs2, hb2, hl2, hp2⟩ := hst2.out rd_le
  clear hst2 hs1 hb1
  go_wp2_with fail
  refine (listIns_any rb s2 b2 w2 hs2 hb2 (by omega)).mono ?_
  rintro e w3 ⟨A, n, c, l, rfl, hln, hns, hown, hgood, hst3, hk3⟩
  have hk03 : RK rb w0 w3 := (hk1.trans hk2).trans hk3
  have hne : w.heap.size ≠ rb := by omega
  have z0 := hk03.at_ (p := ⟨w.heap.size, 0, none⟩) hne Z.out.1
  have z1 := hk03.at_ (p := ⟨w.heap.size, 1, none⟩) hne Z.out.2.1
  have z2 := hk03.at_ (p := ⟨w.heap.size, 2, none⟩) hne Z.out.2.2.1
  have f0 := (hk03.frz (p := ⟨w.heap.size, 0, none⟩) hne Z.out.2.2.2.2.1).trans (Z.out.2.2.2.1 0)
  have f1 := (hk03.frz (p := ⟨w.heap.size, 1, none⟩) hne Z.out.2.2.2.2.1).trans (Z.out.2.2.2.1 1)
  have f2 := (hk03.frz (p := ⟨w.heap.size, 2, none⟩) hne Z.out.2.2.2.2.1).trans (Z.out.2.2.2.1 2)
  have HX := Lib.hid (And.intro hop (And.intro ha (And.intro hp1 (And.intro hp2 (And.intro hln (And.intro hns (And.intro hown (And.intro hgood (And.intro hst3 (And.intro hk1 (And.intro hk2 hk3)))))))))))
  have hkw : RK rb w w3 := Z.out.2.2.2.2.2.trans hk03
  have HK := Lib.hid hkw
  clear hkw hop ha hp1 hp2 hln hns hown hgood hst3 hk3 hk03 hs2 hb2
  go_wp2_with fail
  have q0 : (w3.setCell ⟨w.heap.size, 0, none⟩ (.int .i64 op)).cell? ⟨w.heap.size, 0, none⟩ = some (.int .i64 op) := World.cell?_setCell_same _ _ _ z0
  have q1 : ((w3.setCell ⟨w.heap.size, 0, none⟩ (.int .i64 op)).setCell ⟨w.heap.size, 1, none⟩ (.int .i64 a)).cell? ⟨w.heap.size, 1, none⟩ = some (.int .i64 a) :=
    World.cell?_setCell_same _ _ _ (by rw [World.cell?_setCell_other _ _ _ _ (by simp)]; exact z1)
  have q2 : (((w3.setCell ⟨w.heap.size, 0, none⟩ (.int .i64 op)).setCell ⟨w.heap.size, 1, none⟩ (.int .i64 a)).setCell ⟨w.heap.size, 2, none⟩ (.slice A n c)).cell? ⟨w.heap.size, 2, none⟩ = some (.slice A n c) :=
    World.cell?_setCell_same _ _ _ (by rw [World.cell?_setCell_other _ _ _ _ (by simp), World.cell?_setCell_other _ _ _ _ (by simp)]; exact z2)
  refine bodyPost_ret (v := .agg #[.int .i64 op, .int .i64 a, .slice A n c]) (by simp [results, Try.results37, go_sem, q0, q1, q2]) rfl ?_
  have hg3 : w.heap.size < w2.heap.size := by
    have h1 := Z.out.2.2.2.2.1
    have h2 := HX.out.2.2.2.2.2.2.2.2.2.1.size
    have h3 := HX.out.2.2.2.2.2.2.2.2.2.2.1.size
    omega
  have hown := HX.out.2.2.2.2.2.2.1
  obtain ⟨A', c', hv, hcap1, hcap2, _⟩ := own_cap hown
  injection hv with hv1 hv2 hv3
  subst hv1
  subst hv3
  have hrd := Rd.of_own hown
  have hrd : Rd w3 3 A n (l.flatMap AIns.cells) := hrd
  have hy : AFnc.In w3 ⟨op, a, A, n, c, l⟩ := ⟨HX.out.1, HX.out.2.1, hrd, ⟨hcap1, hcap2⟩, by have := HX.out.2.2.2.2.2.1; show n ≤ _; omega, fun y hy => (HX.out.2.2.2.2.2.2.2.1 y hy).1⟩
  have haw : ∀ B, B ≤ w2.heap.size → AFnc.Away (fun b => b < B) ⟨op, a, A, n, c, l⟩ := fun B hB => ⟨fun hn x hx hlt => by
    have h1 := hown.lt x.block (by rw [show A = some x from hx]; rfl)
    omega, fun y hy => AIns.Away.mono (X := fun b => b < w2.heap.size) (HX.out.2.2.2.2.2.2.2.1 y hy).2 (fun b (hb : b < B) => by omega)⟩
  refine ⟨⟨op, a, A, n, c, l⟩, rfl, ?_, haw _ (by omega), ?_, ?_⟩
  · refine hy.keep (X := fun b => b = w.heap.size) (fun k hk hX => ?_) ((haw (w.heap.size + 1) (by omega)).mono (fun b (hb : b = w.heap.size) => by omega))
    rw [Below.heap_setCell _ _ _ _ hX, Below.heap_setCell _ _ _ _ hX, Below.heap_setCell _ _ _ _ hX]
  · have h3 := three (p := rd) (q := rd) (t := plist pIns) (z := pFnc) (f := fun x y l => (⟨x, y, l⟩ : Fnc)) pFnc_eq HX.out.2.2.1 HX.out.2.2.2.1 HX.out.2.2.2.2.2.2.2.2.1
    exact h3.upto ((((Below.refl _ _).setCell hrb _).setCell hrb _).setCell hrb _)
  · exact ((HK.out.setNew (Nat.le_refl _) _).setNew (Nat.le_refl _) _).setNew (Nat.le_refl _) _

set_option maxRecDepth 100000 in
set_option maxHeartbeats 400000 in
theorem listFnc_any (rb : Nat) (s : List UInt8) (bad : Bool) (w : World) (h : RSt w rb s bad) (hbad : bad = true → s = []) (hl : s.length ≤ 1099511627776) :
    Calls Try.prog 36 #[.pointer (some ⟨rb, 0, none⟩), .func (.func 37) #[.pointer (some ⟨rb, 0, none⟩)] #[]] w fun e w' => ListRes fncE pFnc 44 3 rb s bad w e w' := by
  have hrb : rb < w.heap.size := by obtain ⟨A, c, hs⟩ := h; exact World.block_lt_of_cell? w _ hs.c0
  go_enter Try.func36, Try.ntmps36
  go_wp2_with fail
  refine (rcount_any rb s bad w h hbad hl).mono ?_
  rintro e w1 ⟨n, rfl, hst, hn, hk⟩
  obtain ⟨s0, b0, hs0, hb0, hl0, hnl, hpl⟩ := hst.enter hn
  have HC : RowKit.Hid (Cnt rb n s bad s0 b0 w w1) := Lib.hid ⟨hpl, hnl, hl0, hk⟩
  have hnn : n ≤ 1099511627776 := by omega
  have hrb1 : rb < w1.heap.size := Nat.lt_of_lt_of_le hrb hk.size
  clear hst hn hk hpl hbad h
  obtain ⟨T, hTT⟩ : ∃ T, T = (if b0 then none else plistN pFnc n s0) := ⟨_, rfl⟩
  have hstart := LR.start fncE pFnc 44 3 (rb := rb) (n := n) (s := s) (bad := false) (w := w) hs0 hb0
  rw [← hTT] at hstart
  have HT0 := Lib.hid hTT
  clear hTT hs0 hb0
  go_wp2_with fail
  go_loopw [5, 8] (fun z i wr => LR fncE pFnc 44 3 rb n T s0.length w1 z i wr) (fun _ i _ => n - (intOf i).toNat)
  case atStart => exact hstart
  case round =>
    clear hstart
    have HREL := Lib.hid hrel
    obtain ⟨k, l, s', bad', rfl, hkn, hlk, hown, hgood, hst, hbd, hsl, hrk, hT⟩ := hrel
    by_cases hlt : k < n
    · obtain ⟨A, c, hs⟩ := hst
      have c1 := hs.c1
      cases bad' with
      | true =>
        have hsn := hbd rfl
        have HX : RowKit.Hid (T = none) := Lib.hid (by rcases hT with ⟨h, _⟩ | ⟨_, h⟩; cases h; exact h)
        have HS := Lib.hid hs
        have HK := Lib.hid (And.intro hsn hrk)
        clear hT hs hsn hbd hrk hgood hown
        go_wp2_with fail
        go_returns
        exact LR.amiss fncE pFnc 44 3 (l := []) (k := 0) HC.out HT0.out (by have h1 := HS.out; rw [HK.out.1] at h1; exact ⟨_, _, h1⟩) HK.out.2 HX.out
      | false =>
        have HX : RowKit.Hid (T = (plistN pFnc (n - k) s').map fun x => (l.map fncE.abs ++ x.1, x.2)) := Lib.hid (by rcases hT with ⟨_, h⟩ | ⟨h, _⟩; exact h; cases h)
        have HK := Lib.hid (And.intro hs (And.intro hlk (And.intro hgood (And.intro hsl hrk))))
        clear hT hbd hgood
        go_wp2_with fail
        refine (rfunc_any rb s' false wr ⟨A, c, hs⟩ (fun h => by cases h) (by have := HC.out.l; omega)).mono ?_
        rintro e w2 ⟨y, rfl, hy, hyf, hst2, hk2⟩
        have hs2 := hk2.size
        have hs1 := hrk.size
        have hown2 : w2.ownsRow w1.heap.size 44 3 u5 k (l.flatMap fncE.cells) := own_rk hown hk2 hrb1
        have HYF := Lib.hid hyf
        clear hyf
        have HY := Lib.hid (And.intro hy (And.intro hst2 hk2))
        clear hst2 hk2 hy hrk hs
        go_wp2_with (at_builtin; refine wpList_app elFnc _ rfl (.tmp 14) (.tmp 17) rfl w1.heap.size u5 k _ rfl (hown2.alloc _) (some ⟨w2.heap.size, 0, none⟩) 1 1 _ rfl (Rd.lit w2 _ _ rfl) (oneFnc _) (by omega) (by simp; omega) ?_; intro v' w6 hown6 hb6 hg6 ho6)
        go_roundw
        case rel => exact LR.step fncE pFnc 44 3 hrb1 hlt HK.out.2.1 hown HK.out.2.2.1 HK.out.2.2.2.1 HK.out.2.2.2.2 HX.out pFnc_le HY.out.1 HYF.out HY.out.2.1 HY.out.2.2 hown6 hg6 ho6
        case measure => simp [intOf] <;> omega
    · obtain rfl : k = n := by omega
      obtain ⟨A, c, rfl, _⟩ := own_cap hown
      have hd := LR.done fncE pFnc 44 3 HC.out hrb (by rw [← HT0.out]; exact HREL.out)
      have HD := Lib.hid hd
      clear hd hT hgood
      go_wp2_with fail
      go_returns
      exact HD.out

set_option maxRecDepth 100000 in
set_option maxHeartbeats 400000 in
theorem listInt64_any (rb : Nat) (s : List UInt8) (bad : Bool) (w : World) (h : RSt w rb s bad) (hbad : bad = true → s = []) (hl : s.length ≤ 1099511627776) :
    Calls Try.prog 32 #[.pointer (some ⟨rb, 0, none⟩), .func (.func 33) #[.pointer (some ⟨rb, 0, none⟩)] #[]] w fun e w' => ListRes intE rd 2 1 rb s bad w e w' := by
  have hrb : rb < w.heap.size := by obtain ⟨A, c, hs⟩ := h; exact World.block_lt_of_cell? w _ hs.c0
  go_enter Try.func32, Try.ntmps32
  go_wp2_with fail
  refine (rcount_any rb s bad w h hbad hl).mono ?_
  rintro e w1 ⟨n, rfl, hst, hn, hk⟩
  obtain ⟨s0, b0, hs0, hb0, hl0, hnl, hpl⟩ := hst.enter hn
  have HC : RowKit.Hid (Cnt rb n s bad s0 b0 w w1) := Lib.hid ⟨hpl, hnl, hl0, hk⟩
  have hnn : n ≤ 1099511627776 := by omega
  have hrb1 : rb < w1.heap.size := Nat.lt_of_lt_of_le hrb hk.size
  clear hst hn hk hpl hbad h
  obtain ⟨T, hTT⟩ : ∃ T, T = (if b0 then none else plistN rd n s0) := ⟨_, rfl⟩
  have hstart := LR.start intE rd 2 1 (rb := rb) (n := n) (s := s) (bad := false) (w := w) hs0 hb0
  rw [← hTT] at hstart
  have HT0 := Lib.hid hTT
  clear hTT hs0 hb0
  go_wp2_with fail
  go_loopw [5, 8] (fun z i wr => LR intE rd 2 1 rb n T s0.length w1 z i wr) (fun _ i _ => n - (intOf i).toNat)
  case atStart => exact hstart
  case round =>
    clear hstart
    have HREL := Lib.hid hrel
    obtain ⟨k, l, s', bad', rfl, hkn, hlk, hown, hgood, hst, hbd, hsl, hrk, hT⟩ := hrel
    by_cases hlt : k < n
    · obtain ⟨A, c, hs⟩ := hst
      have c1 := hs.c1
      cases bad' with
      | true =>
        have hsn := hbd rfl
        have HX : RowKit.Hid (T = none) := Lib.hid (by rcases hT with ⟨h, _⟩ | ⟨_, h⟩; cases h; exact h)
        have HS := Lib.hid hs
        have HK := Lib.hid (And.intro hsn hrk)
        clear hT hs hsn hbd hrk hgood hown
        go_wp2_with fail
        go_returns
        exact LR.amiss intE rd 2 1 (l := []) (k := 0) HC.out HT0.out (by have h1 := HS.out; rw [HK.out.1] at h1; exact ⟨_, _, h1⟩) HK.out.2 HX.out
      | false =>
        have HX : RowKit.Hid (T = (plistN rd (n - k) s').map fun x => (l.map intE.abs ++ x.1, x.2)) := Lib.hid (by rcases hT with ⟨_, h⟩ | ⟨h, _⟩; exact h; cases h)
        have HK := Lib.hid (And.intro hs (And.intro hlk (And.intro hgood (And.intro hsl hrk))))
        clear hT hbd hgood
        go_wp2_with fail
        refine (rnumber_any rb s' false wr ⟨A, c, hs⟩ (fun h => by cases h) (by have := HC.out.l; omega)).mono ?_
        rintro e w2 ⟨y, rfl, hy, hst2, _, hk2⟩
        have hs2 := hk2.size
        have hs1 := hrk.size
        have hown2 : w2.ownsRow w1.heap.size 2 1 u5 k (l.flatMap intE.cells) := own_rk hown hk2 hrb1
        have HY := Lib.hid (And.intro hy (And.intro hst2 hk2))
        clear hst2 hk2 hy hrk hs
        go_wp2_with (at_builtin; refine wpList_app elInt64 _ rfl (.tmp 14) (.tmp 17) rfl w1.heap.size u5 k _ rfl (hown2.alloc _) (some ⟨w2.heap.size, 0, none⟩) 1 1 _ rfl (Rd.lit w2 _ _ rfl) (oneInt _) (by omega) (by simp; omega) ?_; intro v' w6 hown6 hb6 hg6 ho6)
        go_roundw
        case rel => exact LR.step intE rd 2 1 hrb1 hlt HK.out.2.1 hown HK.out.2.2.1 HK.out.2.2.2.1 HK.out.2.2.2.2 HX.out rd_le HY.out.1 trivial HY.out.2.1 HY.out.2.2 hown6 hg6 ho6
        case measure => simp [intOf] <;> omega
    · obtain rfl : k = n := by omega
      obtain ⟨A, c, rfl, _⟩ := own_cap hown
      have hd := LR.done intE rd 2 1 HC.out hrb (by rw [← HT0.out]; exact HREL.out)
      have HD := Lib.hid hd
      clear hd hT hgood
      go_wp2_with fail
      go_returns
      exact HD.out

set_option maxRecDepth 100000 in
set_option maxHeartbeats 400000 in
theorem listText_any (rb : Nat) (s : List UInt8) (bad : Bool) (w : World) (h : RSt w rb s bad) (hbad : bad = true → s = []) (hl : s.length ≤ 1099511627776) :
    Calls Try.prog 34 #[.pointer (some ⟨rb, 0, none⟩), .func (.func 35) #[.pointer (some ⟨rb, 0, none⟩)] #[]] w fun e w' => ListRes strE pText 9 1 rb s bad w e w' := by
  have hrb : rb < w.heap.size := by obtain ⟨A, c, hs⟩ := h; exact World.block_lt_of_cell? w _ hs.c0
  go_enter Try.func34, Try.ntmps34
  go_wp2_with fail
  refine (rcount_any rb s bad w h hbad hl).mono ?_
  rintro e w1 ⟨n, rfl, hst, hn, hk⟩
  obtain ⟨s0, b0, hs0, hb0, hl0, hnl, hpl⟩ := hst.enter hn
  have HC : RowKit.Hid (Cnt rb n s bad s0 b0 w w1) := Lib.hid ⟨hpl, hnl, hl0, hk⟩
  have hnn : n ≤ 1099511627776 := by omega
  have hrb1 : rb < w1.heap.size := Nat.lt_of_lt_of_le hrb hk.size
  clear hst hn hk hpl hbad h
  obtain ⟨T, hTT⟩ : ∃ T, T = (if b0 then none else plistN pText n s0) := ⟨_, rfl⟩
  have hstart := LR.start strE pText 9 1 (rb := rb) (n := n) (s := s) (bad := false) (w := w) hs0 hb0
  rw [← hTT] at hstart
  have HT0 := Lib.hid hTT
  clear hTT hs0 hb0
  go_wp2_with fail
  go_loopw [5, 8] (fun z i wr => LR strE pText 9 1 rb n T s0.length w1 z i wr) (fun _ i _ => n - (intOf i).toNat)
  case atStart => exact hstart
  case round =>
    clear hstart
    have HREL := Lib.hid hrel
    obtain ⟨k, l, s', bad', rfl, hkn, hlk, hown, hgood, hst, hbd, hsl, hrk, hT⟩ := hrel
    by_cases hlt : k < n
    · obtain ⟨A, c, hs⟩ := hst
      have c1 := hs.c1
      cases bad' with
      | true =>
        have hsn := hbd rfl
        have HX : RowKit.Hid (T = none) := Lib.hid (by rcases hT with ⟨h, _⟩ | ⟨_, h⟩; cases h; exact h)
        have HS := Lib.hid hs
        have HK := Lib.hid (And.intro hsn hrk)
        clear hT hs hsn hbd hrk hgood hown
        go_wp2_with fail
        go_returns
        exact LR.amiss strE pText 9 1 (l := []) (k := 0) HC.out HT0.out (by have h1 := HS.out; rw [HK.out.1] at h1; exact ⟨_, _, h1⟩) HK.out.2 HX.out
      | false =>
        have HX : RowKit.Hid (T = (plistN pText (n - k) s').map fun x => (l.map strE.abs ++ x.1, x.2)) := Lib.hid (by rcases hT with ⟨_, h⟩ | ⟨h, _⟩; exact h; cases h)
        have HK := Lib.hid (And.intro hs (And.intro hlk (And.intro hgood (And.intro hsl hrk))))
        clear hT hbd hgood
        go_wp2_with fail
        refine (rtext_any rb s' false wr ⟨A, c, hs⟩ (fun h => by cases h) (by have := HC.out.l; omega)).mono ?_
        rintro e w2 ⟨y, rfl, hy, hst2, hk2⟩
        have hs2 := hk2.size
        have hs1 := hrk.size
        have hown2 : w2.ownsRow w1.heap.size 9 1 u5 k (l.flatMap strE.cells) := own_rk hown hk2 hrb1
        have HY := Lib.hid (And.intro hy (And.intro hst2 hk2))
        clear hst2 hk2 hy hrk hs
        go_wp2_with (at_builtin; refine wpList_app elStr _ rfl (.tmp 14) (.tmp 17) rfl w1.heap.size u5 k _ rfl (hown2.alloc _) (some ⟨w2.heap.size, 0, none⟩) 1 1 _ rfl (Rd.lit w2 _ _ rfl) (oneStr _) (by omega) (by simp; omega) ?_; intro v' w6 hown6 hb6 hg6 ho6)
        go_roundw
        case rel => exact LR.step strE pText 9 1 hrb1 hlt HK.out.2.1 hown HK.out.2.2.1 HK.out.2.2.2.1 HK.out.2.2.2.2 HX.out pText_le HY.out.1 trivial HY.out.2.1 HY.out.2.2 hown6 hg6 ho6
        case measure => simp [intOf] <;> omega
    · obtain rfl : k = n := by omega
      obtain ⟨A, c, rfl, _⟩ := own_cap hown
      have hd := LR.done strE pText 9 1 HC.out hrb (by rw [← HT0.out]; exact HREL.out)
      have HD := Lib.hid hd
      clear hd hT hgood
      go_wp2_with fail
      go_returns
      exact HD.out
end Go.Proofs.Ythdnnlelmelegaa
