/-
  Whether two core expressions are alike: by the code.
-/
import Derived.Test.YtpdfjdomjklkbaaGreatDoorL00
namespace Go.Proofs.YtpdfjdomjklkbaaGreatDoor
open Go.ChangeShapes Go.WideShapes Go.ChangeAt Go.RowKit Go.Sort
set_option linter.unusedVariables false
set_option linter.unusedSimpArgs false
attribute [local irreducible] Go.wpQuiet

set_option maxRecDepth 100000 in
set_option maxHeartbeats 2000000 in
theorem eqStr_any (A B : Option Addr) (l r : List Str) (n c m d : Nat) (w : World) (hr : Rd w 1 A n (strs l)) (hs : Rd w 1 B m (strs r)) (hm : n ≤ maxLen) (hm2 : m ≤ maxLen) :
    Calls Tryz.prog 37 #[.slice A n c, .slice B m d] w fun e w' => e = .returned (.bool (decide (l = r))) ∧ Below w.heap.size w w' := by
  have hl := rd_len hr
  have hl2 := rd_len hs
  subst hl
  subst hl2
  unfold maxLen at hm hm2
  by_cases hlen : l.length = r.length
  · go_enter Tryz.func37, Tryz.ntmps37
    have hlz : (((l.length : Nat) : Int) == ((r.length : Nat) : Int)) = true := by rw [hlen]; simp
    go_wp2_with fail
    clear hlz
    go_loopw [13] (fun i wr => ∃ k : Nat, i = .int .i64 k ∧ k ≤ l.length ∧ l.take k = r.take k ∧ Below w.heap.size w wr) (fun i _ => l.length - (intOf i).toNat)
    case atStart => exact ⟨0, rfl, by omega, by simp, Below.refl _ _⟩
    case round =>
      obtain ⟨k, rfl, hk, he, hb⟩ := hrel
      by_cases hlt : k < l.length
      · obtain ⟨b, o, rfl, hc⟩ := (hr.below hb).str (k := k) hlt
        obtain ⟨b', o', rfl, hc'⟩ := (hs.below hb).str (k := k) (by omega)
        have h1 := hc k hlt
        have h2 := hc' k (by omega)
        clear hc hr hc' hs
        have HE := Lib.hid he
        clear he
        by_cases hq0 : l[k] = r[k]
        · have hq : ((bstr l[k]).toList == (bstr r[k]).toList) = true := by rw [beq_bstr]; simpa using hq0
          have HQ := Lib.hid hq0
          clear hq0
          go_wp2_with fail
          have i1 : (k : Int) < (l.length : Int) := by omega
          have i2 : (k : Int) < (r.length : Int) := by omega
          go_quiet (fail)
          clear i1 i2
          go_wp2_with fail
          go_roundw
          case rel => exact ⟨k + 1, by go_num, by omega, by rw [List.take_succ_eq_append_getElem hlt, List.take_succ_eq_append_getElem (by omega), HE.out, HQ.out], below_drewN hb _⟩
          case measure => simp [intOf] <;> omega
        · have hq : ((bstr l[k]).toList == (bstr r[k]).toList) = false := by rw [beq_bstr]; simpa using hq0
          have HQ := Lib.hid hq0
          clear hq0
          go_wp2_with fail
          have i1 : (k : Int) < (l.length : Int) := by omega
          have i2 : (k : Int) < (r.length : Int) := by omega
          go_quiet (fail)
          clear i1 i2
          go_wp2_with fail
          go_returns
          exact ⟨by rw [decide_eq_false (show ¬ l = r from fun h => HQ.out (by subst h; rfl))]; rfl, below_drewN hb _⟩
      · go_wp2_with fail
        go_returns
        obtain rfl : k = l.length := by omega
        refine ⟨?_, hb⟩
        rw [List.take_length, hlen, List.take_length] at he
        rw [decide_eq_true he]; rfl
  · go_enter Tryz.func37, Tryz.ntmps37
    have hlz : (((l.length : Nat) : Int) == ((r.length : Nat) : Int)) = false := by rw [beq_eq_false_iff_ne]; omega
    go_wp2_with fail
    go_returns
    exact ⟨by rw [decide_eq_false (show ¬ l = r from fun h => hlen (by rw [h]))]; rfl, Below.refl _ _⟩

set_option maxRecDepth 100000 in
set_option maxHeartbeats 4000000 in
theorem sameP_any (w0 : World) (x : Ex) (hIn : x.In w0) : ∀ (y : Ex), y.In w0 → ∀ (b o b' o' : Nat) (W : World), x.d.At w0 b o → y.d.At w0 b' o' → Below w0.heap.size w0 W →
    Calls Tryz.prog 23 #[.pointer (some ⟨b, o, none⟩), .pointer (some ⟨b', o', none⟩)] W fun r w' => r = .returned (.bool (eqB x y)) ∧ Below W.heap.size W w' := by
  induction hIn with
  | mk d l nam par cap sub ih =>
  intro y hy b o b' o' W hAx hAy hb
  obtain ⟨e, m⟩ := y
  have HI := Lib.hid (Ex.In.mk d l nam par cap sub)
  have HY := Lib.hid hy
  have HIH := Lib.hid ih
  have HX := Lib.hid (fun V (h : Below w0.heap.size w0 V) => (show d.At w0 b o from hAx).lower h)
  have HYA := Lib.hid (fun V (h : Below w0.heap.size w0 V) => (show e.At w0 b' o' from hAy).lower h)
  have HB := Lib.hid hb
  have HLP := Lib.hid (And.intro (show l.length = d.pn from HI.out.len) (show m.length = e.pn from HY.out.len))
  have HCX := Lib.hid (show d.nn ≤ maxLen ∧ d.pn ≤ 4000000 from ⟨Nat.le_trans HI.out.cap.1.1 HI.out.cap.1.2.1, HI.out.cap.2.1.2.2⟩)
  have HCY := Lib.hid (show e.nn ≤ maxLen ∧ e.pn ≤ 4000000 from ⟨Nat.le_trans HY.out.cap.1.1 HY.out.cap.1.2.1, HY.out.cap.2.1.2.2⟩)
  have HLX := Lib.hid (show Rd w0 1 d.nA d.nn (strs d.names) from HI.out.nam)
  have HLY := Lib.hid (show Rd w0 1 e.nA e.nn (strs e.names) from HY.out.nam)
  clear nam par cap sub ih hy hAx hAy
  obtain ⟨c0, c1, c2, c3, c4, c5⟩ := HX.out _ hb
  obtain ⟨f0, f1, f2, f3, f4, f5⟩ := HYA.out _ hb
  clear hb
  by_cases h1 : ¬ (d.kind = e.kind)
  · have HA := Lib.hid (show eqB (.mk d l) (.mk e m) = false from eqB_false (fun h => h1 h.1))
    have q : (d.kind != e.kind) = true := by rw [bne_iff_ne]; omega
    clear h1
    go_enter Tryz.func23, Tryz.ntmps23
    go_wp2_with fail
    go_quiet (fail)
    go_wp2_with fail
    go_returns
    exact ⟨by rw [HA.out]; rfl, below_drewN (Below.refl _ _) _⟩
  have h1 : d.kind = e.kind := Classical.not_not.1 h1
  have qh1 : (d.kind != e.kind) = false := by rw [h1]; simp
  by_cases h2 : ¬ (d.n = e.n)
  · have HA := Lib.hid (show eqB (.mk d l) (.mk e m) = false from eqB_false (fun h => h2 h.2.1))
    have q : (d.n != e.n) = true := by rw [bne_iff_ne]; omega
    clear h2
    go_enter Tryz.func23, Tryz.ntmps23
    go_wp2_with fail
    go_quiet (fail)
    go_wp2_with fail
    go_returns
    exact ⟨by rw [HA.out]; rfl, below_drewN (Below.refl _ _) _⟩
  have h2 : d.n = e.n := Classical.not_not.1 h2
  have qh2 : (d.n != e.n) = false := by rw [h2]; simp
  by_cases h3 : ¬ (d.s = e.s)
  · have HA := Lib.hid (show eqB (.mk d l) (.mk e m) = false from eqB_false (fun h => h3 h.2.2.1))
    obtain ⟨g1, g2⟩ := ne_facts d.s e.s false (decide_eq_false h3)
    simp only [Bool.not_false] at g2
    clear h3
    go_enter Tryz.func23, Tryz.ntmps23
    go_wp2_with fail
    go_quiet (fail)
    go_wp2_with fail
    go_returns
    exact ⟨by rw [HA.out]; rfl, below_drewN (Below.refl _ _) _⟩
  have h3 : d.s = e.s := Classical.not_not.1 h3
  obtain ⟨gh3, qh3⟩ := ne_facts d.s e.s true (decide_eq_true h3)
  simp only [Bool.not_true] at qh3
  by_cases h4 : ¬ (d.t = e.t)
  · have HA := Lib.hid (show eqB (.mk d l) (.mk e m) = false from eqB_false (fun h => h4 h.2.2.2.1))
    obtain ⟨g1, g2⟩ := ne_facts d.t e.t false (decide_eq_false h4)
    simp only [Bool.not_false] at g2
    clear h4
    go_enter Tryz.func23, Tryz.ntmps23
    go_wp2_with fail
    go_quiet (fail)
    go_wp2_with fail
    go_returns
    exact ⟨by rw [HA.out]; rfl, below_drewN (Below.refl _ _) _⟩
  have h4 : d.t = e.t := Classical.not_not.1 h4
  obtain ⟨gh4, qh4⟩ := ne_facts d.t e.t true (decide_eq_true h4)
  simp only [Bool.not_true] at qh4
  by_cases h7 : ¬ (d.pn = e.pn)
  · have HA := Lib.hid (show eqB (.mk d l) (.mk e m) = false from eqB_false (fun h => h7 (by rw [← HLP.out.1, ← HLP.out.2]; exact exL_len h.2.2.2.2.2)))
    have q : ((d.pn : Int) != (e.pn : Int)) = true := by rw [bne_iff_ne]; omega
    clear h7
    go_enter Tryz.func23, Tryz.ntmps23
    go_wp2_with fail
    go_quiet (fail)
    go_wp2_with fail
    go_returns
    exact ⟨by rw [HA.out]; rfl, below_drewN (Below.refl _ _) _⟩
  have h7 : d.pn = e.pn := Classical.not_not.1 h7
  have qh7 : ((d.pn : Int) != (e.pn : Int)) = false := by rw [h7]; simp
  have HQ := Lib.hid (And.intro h1 (And.intro h2 (And.intro h3 (And.intro h4 h7))))
  clear h1 h2 h3 h4 h7
  have CE : RowKit.Hid (∀ dd os, Calls Tryz.prog 37 #[.slice d.nA d.nn d.nc, .slice e.nA e.nn e.nc] (grow (redrawn W dd) os) fun r w'' => r = .returned (.bool (decide (d.names = e.names))) ∧ ∃ p : Regrown, w'' = grow (redrawn W p.d) p.os) := Lib.hid fun dd os =>
    Calls.regrown_of ((eqStr_any d.nA e.nA d.names e.names d.nn d.nc e.nn e.nc (grow (redrawn W dd) os) (HLX.out.below (below_then HB.out (below_regrown W dd os))) (HLY.out.below (below_then HB.out (below_regrown W dd os))) HCX.out.1 HCY.out.1).mono fun e w' hh => ⟨hh.1, hh.2⟩)
  obtain ⟨bl, hbl⟩ : ∃ b, decide (d.names = e.names) = b := ⟨_, rfl⟩
  rw [hbl] at CE
  have HBL := Lib.hid hbl
  clear hbl
  have kc0 := cell_regrown c0
  have kf0 := cell_regrown f0
  have kc1 := cell_regrown c1
  have kf1 := cell_regrown f1
  have kc2 := cell_regrown c2
  have kf2 := cell_regrown f2
  have kc3 := cell_regrown c3
  have kf3 := cell_regrown f3
  have kc4 := cell_regrown c4
  have kf4 := cell_regrown f4
  have kc5 := cell_regrown c5
  have kf5 := cell_regrown f5
  go_enter Tryz.func23, Tryz.ntmps23
  go_wp2_with fail
  refine wp_region_quiet_below (by kernel_rfl) (by kernel_rfl) ?_
  repeat (quiet_step ((go_at_call 37; with_reducible exact CE.out _ _)))
  refine wpQuiet_nil ?_
  intro _ hw
  obtain ⟨⟨dq, osq⟩, hw''⟩ := hw
  subst hw''
  have H2 := Lib.hid (below_regrown W dq osq)
  clear c0 c1 c2 c3 c4 c5 f0 f1 f2 f3 f4 f5 CE kc0 kc1 kc2 kc3 kc4 kc5 kf0 kf1 kf2 kf3 kf4 kf5
  obtain ⟨c0, c1, c2, c3, c4, c5⟩ := HX.out _ (below_then HB.out H2.out)
  obtain ⟨f0, f1, f2, f3, f4, f5⟩ := HYA.out _ (below_then HB.out H2.out)
  cases bl with
  | false =>
    have HA := Lib.hid (show eqB (.mk d l) (.mk e m) = false from eqB_false (fun h => absurd h.2.2.2.2.1 (of_decide_eq_false HBL.out)))
    go_wp2_with fail
    go_returns
    exact ⟨by rw [HA.out]; rfl, H2.out⟩
  | true =>
  go_wp2_with fail
  simp only [Bool.not_true]
  clear c0 c1 c2 c3 c4 c5 f0 f1 f2 f3 f4 f5 qh1 qh2 qh3 qh4 gh3 gh4 qh7
  go_loopw [78] (fun i wr => ∃ k : Nat, i = .int .i64 k ∧ k ≤ d.pn ∧ (∀ j (h : j < l.length) (h' : j < m.length), j < k → (l[j]).eqv m[j]) ∧ Below W.heap.size W wr) (fun i _ => d.pn - (intOf i).toNat)
  case atStart => exact ⟨0, rfl, Nat.zero_le _, (by intro j _ _ h; omega), H2.out⟩
  case round =>
    obtain ⟨k, rfl, hk, hall, hbr⟩ := hrel
    have HALL := Lib.hid hall
    have HR := Lib.hid hbr
    clear hall
    have c5 := (HX.out _ (below_then HB.out hbr)).c5
    by_cases hlt : k < d.pn
    · have hkl : k < l.length := by rw [HLP.out.1]; exact hlt
      have hkm : k < m.length := by rw [HLP.out.2, ← HQ.out.2.2.2.2]; exact hlt
      obtain ⟨pb, po, hpA, hAtP⟩ := HI.out.part (k := k) hkl
      have hpA' : d.pA = some ⟨pb, po, none⟩ := hpA
      obtain ⟨pb', po', hpB, hAtQ⟩ := HY.out.part (k := k) hkm
      have hpB' : e.pA = some ⟨pb', po', none⟩ := hpB
      have f5 := (HYA.out _ (below_then HB.out hbr)).c5
      rw [hpA'] at c5
      rw [hpB'] at f5
      have hAx : (l[k]).d.At w0 pb (po + k * 6) := hAtP k hkl
      have hAy : (m[k]).d.At w0 pb' (po' + k * 6) := hAtQ k hkm
      have hy : (m[k]).In w0 := HY.out.sub m[k] (List.getElem_mem hkm)
      have HC := Lib.hid (fun dd os => Calls.regrown_of ((HIH.out l[k] (List.getElem_mem hkl) m[k] hy pb (po + k * 6) pb' (po' + k * 6) (grow (redrawn wr dd) os) hAx hAy (below_then (below_then HB.out hbr) (below_regrown wr dd os))).mono fun e w' hh => ⟨hh.1, hh.2⟩))
      have HEX := Lib.hid (show ∀ (h : k < l.length) (h' : k < m.length), eqB l[k] m[k] = true → (l[k]).eqv m[k] from fun _ _ h => eqB_iff.1 h)
      have HEN := Lib.hid (show eqB l[k] m[k] = false → eqB (.mk d l) (.mk e m) = false from fun h => eqB_false (fun hh => by
        have := (exL_iff l m (exL_len hh.2.2.2.2.2)).1 hh.2.2.2.2.2 k hkl hkm
        rw [eqB_true this] at h; cases h))
      obtain ⟨v, hv⟩ : ∃ v, eqB l[k] m[k] = v := ⟨_, rfl⟩
      rw [hv] at HC HEN
      have HV := Lib.hid hv
      have hki : (k : Int) < (d.pn : Int) := by omega
      have hki' : (k : Int) < (e.pn : Int) := by rw [← HQ.out.2.2.2.2]; omega
      have hk0 : (0 : Int) ≤ (k : Int) := by omega
      have hk9 : (k : Int) ≤ 4000000 := by have := HCX.out.2; omega
      have kc5 := cell_regrown c5
      have kf5 := cell_regrown f5
      clear hbr hpA hpA' hpB hpB' hAtP hAtQ hAx hAy hy hv
      go_wp2_with fail
      refine wp_region_quiet_below (by kernel_rfl) (by kernel_rfl) ?_
      repeat (quiet_step ((go_at_call 23; with_reducible exact HC.out _ _)))
      refine wpQuiet_nil ?_
      intro _ hw
      obtain ⟨⟨dq, osq⟩, hw''⟩ := hw
      subst hw''
      have H5 := Lib.hid (below_then HR.out (below_regrown wr dq osq))
      clear HC
      cases v with
      | true =>
        go_wp2_with fail
        go_roundw
        case rel => exact ⟨k + 1, by go_num, hlt, fun j hj hj' hjk => (Nat.lt_succ_iff_lt_or_eq.1 hjk).elim (fun h => HALL.out j hj hj' h) (fun h => by subst h; exact HEX.out hj hj' HV.out), H5.out⟩
        case measure => simp [intOf] <;> omega
      | false =>
        have HA := Lib.hid (HEN.out rfl)
        go_wp2_with fail
        go_returns
        exact ⟨by rw [HA.out]; rfl, H5.out⟩
    · have hki : ¬ (k : Int) < (d.pn : Int) := by omega
      have HA := Lib.hid (show eqB (.mk d l) (.mk e m) = true from eqB_true ⟨HQ.out.1, HQ.out.2.1, HQ.out.2.2.1, HQ.out.2.2.2.1, of_decide_eq_true HBL.out, (exL_iff l m (by rw [HLP.out.1, HLP.out.2, HQ.out.2.2.2.2])).2 (fun j h h' => HALL.out j h h' (by rw [HLP.out.1] at h; omega))⟩)
      clear hbr
      go_wp2_with fail
      go_returns
      exact ⟨by rw [HA.out]; rfl, HR.out⟩

set_option maxRecDepth 100000 in
/-- Same: whether two expressions are the same. -/
theorem Same_any (x y : Ex) (w : World) (hx : x.In w) (hy : y.In w) :
    Calls Tryz.prog 11 #[.agg x.d.arr, .agg y.d.arr] w fun r w' => r = .returned (.bool (eqB x y)) ∧ Below w.heap.size w w' := by
  have hb1 : Below w.heap.size w (w.alloc (.cells x.d.arr 25)) := (Below.refl _ _).alloc (Nat.le_refl _) _
  have hA1 := ex_box w x.d
  have hA2 := ex_box (w.alloc (.cells x.d.arr 25)) y.d
  have hb2 : Below (w.alloc (.cells x.d.arr 25)).heap.size (w.alloc (.cells x.d.arr 25)) ((w.alloc (.cells x.d.arr 25)).alloc (.cells y.d.arr 25)) := (Below.refl _ _).alloc (Nat.le_refl _) _
  have hb12 := below_then hb1 hb2
  have hsz : (w.alloc (.cells x.d.arr 25)).heap.size = w.heap.size + 1 := by simp
  rw [hsz] at hA2
  have HM := Lib.hid (sameP_any _ x (hx.lower hb12) y (hy.lower hb12) w.heap.size 0 (w.heap.size + 1) 0 _ (hA1.lower hb2) hA2 (Below.refl _ _))
  have HB := Lib.hid hb12
  clear hb1 hb2 hb12 hA1 hA2 hsz
  go_enter Tryz.func11, Tryz.ntmps11
  go_wp2_with fail
  refine HM.out.mono ?_
  rintro e w' ⟨rfl, hb⟩
  go_wp2_with fail
  go_returns
  exact ⟨rfl, below_then HB.out hb⟩
end Go.Proofs.YtpdfjdomjklkbaaGreatDoor
