/-
  LexBack holds: for every input the law returns true, and each argument reads afterwards as it read before; the tied variables read as the program's text lays them. No other condition.
-/
import Derived.Test.YtmkkocfclejpgaaDoorLexBackA
namespace Go.Proofs.YtmkkocfclejpgaaDoor
open Go.ChangeShapes Go.WideShapes Go.ChangeAt Go.RowKit
set_option linter.unusedVariables false
set_option linter.unusedSimpArgs false

set_option maxRecDepth 100000 in
set_option maxHeartbeats 4000000 in
theorem back_any (s l : Str) (A : Option Addr) (cp : Nat) (w : World) (hL : Lay w) (hs : s.length ≤ maxLen) (hr : Rd w 1 A l.length (u8s l)) (hcap : l.length ≤ cp) (hcm : cp ≤ maxLen) :
    Calls Tryd.prog 5 #[.string (bstr s), .slice A l.length cp] w fun e w' => e = .returned (.bool true) ∧ Below w.heap.size w w' := by
  unfold maxLen at hs hcm
  have hz := bstr_size s
  have HL := Lib.hid hL
  have HR := Lib.hid hr
  clear hL hr
  by_cases h1 : 1900 < s.length
  · have h1i : (1900 : Int) < ((bstr s).size : Int) := by omega
    clear h1 hz
    go_enter Tryd.func5, Tryd.ntmps5
    go_wp2_with fail
    refine (up_any w HL.out).mono ?_
    rintro e w1 ⟨rfl, hb1⟩
    go_wp2_with fail
    go_returns
    exact ⟨rfl, hb1⟩
  have h1i : ¬ (1900 : Int) < ((bstr s).size : Int) := by omega
  by_cases h2 : 3000 < l.length
  · have h2i : (3000 : Int) < (l.length : Int) := by omega
    clear hz
    go_enter Tryd.func5, Tryd.ntmps5
    go_wp2_with fail
    refine (up_any w HL.out).mono ?_
    rintro e w1 ⟨rfl, hb1⟩
    go_wp2_with fail
    go_returns
    exact ⟨rfl, hb1⟩
  have h2i : ¬ (3000 : Int) < (l.length : Int) := by omega
  clear hz
  go_enter Tryd.func5, Tryd.ntmps5
  go_wp2_with fail
  refine (up_any w HL.out).mono ?_
  rintro e w1 ⟨rfl, hb1⟩
  have HB1 := Lib.hid hb1
  clear hb1
  go_wp2_with fail
  refine (quote_short s w1 (by omega)).mono ?_
  rintro e w2 hres
  unfold QuoteRes at hres
  cases hqs : quoteS s with
  | none =>
    rw [hqs] at hres
    obtain ⟨rfl, hb2⟩ := hres
    have HBX := Lib.hid (below_then HB1.out hb2)
    have HLX := Lib.hid (HL.out.below HBX.out)
    have HRX := Lib.hid (HR.out.below HBX.out)
    clear hb2 hqs
    go_wp2_with fail
    refine (cut_len A l l.length cp rfl w2 HLX.out HRX.out hcap (by omega)).mono ?_
    rintro e w3 hcr
    cases hct : cutS l 0 with
    | bad p =>
      rw [hct] at hcr
      obtain ⟨v, rfl, ⟨g, _, rfl, _, _⟩, hb3⟩ := hcr
      have HB3 := Lib.hid (below_then HBX.out hb3)
      clear hb3 hct
      go_wp2_with fail
      go_returns
      exact ⟨rfl, HB3.out⟩
    | ok ts =>
      rw [hct] at hcr
      obtain ⟨v3, rfl, hown, hlen, hb3⟩ := hcr
      obtain ⟨A3, c3, rfl, _⟩ := own_cap hown
      have HCT := Lib.hid hct
      have HRD := Lib.hid (Rd.of_own hown)
      have HB3 := Lib.hid (below_then HBX.out hb3)
      have HL3 := Lib.hid (HLX.out.below hb3)
      have HR3 := Lib.hid (HRX.out.below hb3)
      clear hct hown hb3
      go_wp2_with fail
      go_loopw [12] (fun i wr => ∃ k : Nat, i = .int .i64 k ∧ k ≤ ts.length ∧ Below w3.heap.size w3 wr) (fun i _ => ts.length - (intOf i).toNat)
      case atStart => exact ⟨0, rfl, Nat.zero_le _, Below.refl _ _⟩
      case round =>
        obtain ⟨k, rfl, hk, hb⟩ := hrel
        have HB := Lib.hid hb
        clear hb
        have z0 : (0 : Int) ≤ (k : Int) := by omega
        by_cases hlt : k < ts.length
        · have z1 : (k : Int) < (ts.length : Int) := by omega
          obtain ⟨tb, to, hA3, _, hT⟩ := (HRD.out.below HB.out).tok hlt
          have hag := again_of HCT.out k hlt
          obtain ⟨tk, htk⟩ : ∃ t, ts[k] = t := ⟨_, rfl⟩
          have hT0 := hT k hlt
          rw [htk] at hT0 hag
          obtain ⟨pl, hpl⟩ : ∃ p, tk.place = p := ⟨_, rfl⟩
          obtain ⟨kd, hkd⟩ : ∃ p, tk.kind = p := ⟨_, rfl⟩
          obtain ⟨nn, hnn⟩ : ∃ p, tk.n = p := ⟨_, rfl⟩
          obtain ⟨ss, hss⟩ : ∃ p, tk.s = p := ⟨_, rfl⟩
          obtain ⟨d0, d1, d2, d3⟩ := hT0
          rw [hkd] at d0 hag
          rw [hpl] at d1 hag
          rw [hnn] at d2 hag
          rw [hss] at d3 hag
          have HT := Lib.hid hT
          clear hT htk hpl hkd hnn hss
          subst hA3
          obtain ⟨tt, htt⟩ : ∃ t, firstAt l 0 (ts.drop (k + 1)) = t := ⟨_, rfl⟩
          rw [htt] at hag
          obtain ⟨ob, oo, hA, _, _⟩ := (HR3.out.below HB.out).byte (k := pl) (by have := hag.lt; have := hag.le; omega)
          have hxl : ((l.drop pl).take (tt - pl)).length = tt - pl := by have := hag.le; rw [List.length_take, List.length_drop]; omega
          have hrx := ((hA ▸ HR3.out.below HB.out : Rd wr 1 (some ⟨ob, oo, none⟩) l.length (u8s l))).part pl (tt - pl) (by have := hag.lt; have := hag.le; omega)
          have HCL := Lib.hid (cut_len (some ⟨ob, oo + pl, none⟩) ((l.drop pl).take (tt - pl)) (tt - pl) (cp - pl) hxl wr (HL3.out.below HB.out) hrx (by have := hag.le; omega) (by have := hag.le; omega))
          rw [hag.cut] at HCL
          have y0 : ¬ (pl : Int) < 0 := by omega
          have y1 : (pl : Int) < (tt : Int) := by have := hag.lt; omega
          have y2 : (tt : Int) ≤ (l.length : Int) := by have := hag.le; omega
          have y3 : ¬ cp = pl := by have := hag.lt; have := hag.le; omega
          have y4 : (0 : Int) ≤ (pl : Int) := by omega
          have HA := Lib.hid hA
          clear hxl hrx hag
          by_cases hnx : k + 1 < ts.length
          · have z2 : (k : Int) + 1 < (ts.length : Int) := by omega
            have hT1 := (HT.out (k + 1) hnx).c1
            rw [show ts[k + 1].place = tt from by rw [← htt]; exact (first_next hnx).symm] at hT1
            have hT1' := hT1
            rw [show to + (k + 1) * 4 + 1 = to + k * 4 + 5 from by omega] at hT1'
            clear htt
            rw [HA.out]
            go_wp2_with fail
            refine HCL.out.mono ?_
            rintro e w4 ⟨v4, rfl, hown4, _, hb4⟩
            obtain ⟨A4, c4, rfl, _⟩ := own_cap hown4
            obtain ⟨xb, xo, hA4, _, hT4⟩ := (Rd.of_own hown4).tok (k := 0) (by simp)
            obtain ⟨x0, x1, x2, x3⟩ := hT4 0 (by simp)
            simp only [List.getElem_cons_zero, Nat.zero_mul, Nat.add_zero] at x0 x1 x2 x3
            have s0 := cell_below hb4 d0
            have s1 := cell_below hb4 d1
            have s2 := cell_below hb4 d2
            have s3 := cell_below hb4 d3
            have HB4 := Lib.hid (below_then HB.out hb4)
            have w0 : (0 : Nat) < 1 := by omega
            subst hA4
            clear hown4 hT4 hb4 d0 d1 d2 d3 x1 s1
            go_wp2_with fail
            go_quiet (fail)
            go_wp2_with fail
            go_roundw
            case rel => exact ⟨k + 1, by go_num, by omega, below_drewN HB4.out _⟩
            case measure => simp [intOf] <;> omega
          · have z2 : ¬ (k : Int) + 1 < (ts.length : Int) := by omega
            rw [first_last (by omega)] at htt
            obtain rfl := htt
            clear y2
            rw [HA.out]
            go_wp2_with fail
            refine HCL.out.mono ?_
            rintro e w4 ⟨v4, rfl, hown4, _, hb4⟩
            obtain ⟨A4, c4, rfl, _⟩ := own_cap hown4
            obtain ⟨xb, xo, hA4, _, hT4⟩ := (Rd.of_own hown4).tok (k := 0) (by simp)
            obtain ⟨x0, x1, x2, x3⟩ := hT4 0 (by simp)
            simp only [List.getElem_cons_zero, Nat.zero_mul, Nat.add_zero] at x0 x1 x2 x3
            have s0 := cell_below hb4 d0
            have s1 := cell_below hb4 d1
            have s2 := cell_below hb4 d2
            have s3 := cell_below hb4 d3
            have HB4 := Lib.hid (below_then HB.out hb4)
            have w0 : (0 : Nat) < 1 := by omega
            subst hA4
            clear hown4 hT4 hb4 d0 d1 d2 d3 x1 s1
            go_wp2_with fail
            go_quiet (fail)
            go_wp2_with fail
            go_roundw
            case rel => exact ⟨k + 1, by go_num, by omega, below_drewN HB4.out _⟩
            case measure => simp [intOf] <;> omega
        · have z1 : ¬ (k : Int) < (ts.length : Int) := by omega
          go_wp2_with fail
          go_returns
          exact ⟨rfl, below_then HB3.out HB.out⟩
  | some q =>
    rw [hqs] at hres
    obtain ⟨rfl, hb2⟩ := hres
    have HB2 := Lib.hid (below_then HB1.out hb2)
    obtain ⟨hcq, hlq⟩ := cut_quoted s q hqs
    have hqp : 0 < q.length := by
      unfold quoteS at hqs
      split at hqs
      · cases hqs
      · cases hqb : qbody s with
        | none => rw [hqb] at hqs; cases hqs
        | some b => rw [hqb] at hqs; injection hqs with hqs; rw [← hqs]; simp
    obtain ⟨cq, hcq2, hcv, hrq⟩ := conv_text q w2 hqp
    have hbq := Joins.below_bytesWorld w2.heap.size w2 5 (bstr q) (Nat.le_refl _)
    have HQC := Lib.hid (cut_len (some ⟨w2.heap.size, 0, none⟩) q q.length cq rfl (Lib.bytesWorld w2 5 (bstr q)) (HL.out.below (below_then HB2.out hbq)) hrq hcq2 (by omega))
    rw [hcq] at HQC
    have HBQ := Lib.hid (below_then HB2.out hbq)
    have hqsz : ¬ (4000 : Int) < ((bstr q).size : Int) := by rw [bstr_size]; omega
    have hself : ((bstr s).toList != (bstr s).toList) = false := by simp
    clear hb2 hqs hrq hbq hcq hcq2
    go_wp2_with fail
    clear hcv
    generalize Lib.bytesWorld w2 5 (bstr q) = wb at *
    refine HQC.out.mono ?_
    rintro e wx ⟨vx, rfl, hownx, _, hbx⟩
    obtain ⟨Ax, cx, rfl, _⟩ := own_cap hownx
    obtain ⟨xb, xo, hAx, _, hTx⟩ := (Rd.of_own hownx).tok (k := 0) (by simp)
    obtain ⟨x0, x1, x2, x3⟩ := hTx 0 (by simp)
    simp only [List.getElem_cons_zero, Nat.zero_mul, Nat.add_zero] at x0 x1 x2 x3
    have HBX := Lib.hid (below_then HBQ.out hbx)
    have HLX := Lib.hid (HL.out.below HBX.out)
    have HRX := Lib.hid (HR.out.below HBX.out)
    have w0 : (0 : Nat) < 1 := by omega
    subst hAx
    clear hownx hTx hbx x1 x2
    go_wp2_with fail
    clear x0 x3 hself
    refine (cut_len A l l.length cp rfl wx HLX.out HRX.out hcap (by omega)).mono ?_
    rintro e w3 hcr
    cases hct : cutS l 0 with
    | bad p =>
      rw [hct] at hcr
      obtain ⟨v, rfl, ⟨g, _, rfl, _, _⟩, hb3⟩ := hcr
      have HB3 := Lib.hid (below_then HBX.out hb3)
      clear hb3 hct
      go_wp2_with fail
      go_returns
      exact ⟨rfl, HB3.out⟩
    | ok ts =>
      rw [hct] at hcr
      obtain ⟨v3, rfl, hown, hlen, hb3⟩ := hcr
      obtain ⟨A3, c3, rfl, _⟩ := own_cap hown
      have HCT := Lib.hid hct
      have HRD := Lib.hid (Rd.of_own hown)
      have HB3 := Lib.hid (below_then HBX.out hb3)
      have HL3 := Lib.hid (HLX.out.below hb3)
      have HR3 := Lib.hid (HRX.out.below hb3)
      clear hct hown hb3
      go_wp2_with fail
      go_loopw [12] (fun i wr => ∃ k : Nat, i = .int .i64 k ∧ k ≤ ts.length ∧ Below w3.heap.size w3 wr) (fun i _ => ts.length - (intOf i).toNat)
      case atStart => exact ⟨0, rfl, Nat.zero_le _, Below.refl _ _⟩
      case round =>
        obtain ⟨k, rfl, hk, hb⟩ := hrel
        have HB := Lib.hid hb
        clear hb
        have z0 : (0 : Int) ≤ (k : Int) := by omega
        by_cases hlt : k < ts.length
        · have z1 : (k : Int) < (ts.length : Int) := by omega
          obtain ⟨tb, to, hA3, _, hT⟩ := (HRD.out.below HB.out).tok hlt
          have hag := again_of HCT.out k hlt
          obtain ⟨tk, htk⟩ : ∃ t, ts[k] = t := ⟨_, rfl⟩
          have hT0 := hT k hlt
          rw [htk] at hT0 hag
          obtain ⟨pl, hpl⟩ : ∃ p, tk.place = p := ⟨_, rfl⟩
          obtain ⟨kd, hkd⟩ : ∃ p, tk.kind = p := ⟨_, rfl⟩
          obtain ⟨nn, hnn⟩ : ∃ p, tk.n = p := ⟨_, rfl⟩
          obtain ⟨ss, hss⟩ : ∃ p, tk.s = p := ⟨_, rfl⟩
          obtain ⟨d0, d1, d2, d3⟩ := hT0
          rw [hkd] at d0 hag
          rw [hpl] at d1 hag
          rw [hnn] at d2 hag
          rw [hss] at d3 hag
          have HT := Lib.hid hT
          clear hT htk hpl hkd hnn hss
          subst hA3
          obtain ⟨tt, htt⟩ : ∃ t, firstAt l 0 (ts.drop (k + 1)) = t := ⟨_, rfl⟩
          rw [htt] at hag
          obtain ⟨ob, oo, hA, _, _⟩ := (HR3.out.below HB.out).byte (k := pl) (by have := hag.lt; have := hag.le; omega)
          have hxl : ((l.drop pl).take (tt - pl)).length = tt - pl := by have := hag.le; rw [List.length_take, List.length_drop]; omega
          have hrx := ((hA ▸ HR3.out.below HB.out : Rd wr 1 (some ⟨ob, oo, none⟩) l.length (u8s l))).part pl (tt - pl) (by have := hag.lt; have := hag.le; omega)
          have HCL := Lib.hid (cut_len (some ⟨ob, oo + pl, none⟩) ((l.drop pl).take (tt - pl)) (tt - pl) (cp - pl) hxl wr (HL3.out.below HB.out) hrx (by have := hag.le; omega) (by have := hag.le; omega))
          rw [hag.cut] at HCL
          have y0 : ¬ (pl : Int) < 0 := by omega
          have y1 : (pl : Int) < (tt : Int) := by have := hag.lt; omega
          have y2 : (tt : Int) ≤ (l.length : Int) := by have := hag.le; omega
          have y3 : ¬ cp = pl := by have := hag.lt; have := hag.le; omega
          have y4 : (0 : Int) ≤ (pl : Int) := by omega
          have HA := Lib.hid hA
          clear hxl hrx hag
          by_cases hnx : k + 1 < ts.length
          · have z2 : (k : Int) + 1 < (ts.length : Int) := by omega
            have hT1 := (HT.out (k + 1) hnx).c1
            rw [show ts[k + 1].place = tt from by rw [← htt]; exact (first_next hnx).symm] at hT1
            have hT1' := hT1
            rw [show to + (k + 1) * 4 + 1 = to + k * 4 + 5 from by omega] at hT1'
            clear htt
            rw [HA.out]
            go_wp2_with fail
            refine HCL.out.mono ?_
            rintro e w4 ⟨v4, rfl, hown4, _, hb4⟩
            obtain ⟨A4, c4, rfl, _⟩ := own_cap hown4
            obtain ⟨xb, xo, hA4, _, hT4⟩ := (Rd.of_own hown4).tok (k := 0) (by simp)
            obtain ⟨x0, x1, x2, x3⟩ := hT4 0 (by simp)
            simp only [List.getElem_cons_zero, Nat.zero_mul, Nat.add_zero] at x0 x1 x2 x3
            have s0 := cell_below hb4 d0
            have s1 := cell_below hb4 d1
            have s2 := cell_below hb4 d2
            have s3 := cell_below hb4 d3
            have HB4 := Lib.hid (below_then HB.out hb4)
            have w0 : (0 : Nat) < 1 := by omega
            subst hA4
            clear hown4 hT4 hb4 d0 d1 d2 d3 x1 s1
            go_wp2_with fail
            go_quiet (fail)
            go_wp2_with fail
            go_roundw
            case rel => exact ⟨k + 1, by go_num, by omega, below_drewN HB4.out _⟩
            case measure => simp [intOf] <;> omega
          · have z2 : ¬ (k : Int) + 1 < (ts.length : Int) := by omega
            rw [first_last (by omega)] at htt
            obtain rfl := htt
            clear y2
            rw [HA.out]
            go_wp2_with fail
            refine HCL.out.mono ?_
            rintro e w4 ⟨v4, rfl, hown4, _, hb4⟩
            obtain ⟨A4, c4, rfl, _⟩ := own_cap hown4
            obtain ⟨xb, xo, hA4, _, hT4⟩ := (Rd.of_own hown4).tok (k := 0) (by simp)
            obtain ⟨x0, x1, x2, x3⟩ := hT4 0 (by simp)
            simp only [List.getElem_cons_zero, Nat.zero_mul, Nat.add_zero] at x0 x1 x2 x3
            have s0 := cell_below hb4 d0
            have s1 := cell_below hb4 d1
            have s2 := cell_below hb4 d2
            have s3 := cell_below hb4 d3
            have HB4 := Lib.hid (below_then HB.out hb4)
            have w0 : (0 : Nat) < 1 := by omega
            subst hA4
            clear hown4 hT4 hb4 d0 d1 d2 d3 x1 s1
            go_wp2_with fail
            go_quiet (fail)
            go_wp2_with fail
            go_roundw
            case rel => exact ⟨k + 1, by go_num, by omega, below_drewN HB4.out _⟩
            case measure => simp [intOf] <;> omega
        · have z1 : ¬ (k : Int) < (ts.length : Int) := by omega
          go_wp2_with fail
          go_returns
          exact ⟨rfl, below_then HB3.out HB.out⟩
end Go.Proofs.YtmkkocfclejpgaaDoor
