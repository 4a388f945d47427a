/-
  The law: the functions of any expression.
-/
import Derived.Test.YtpnihimoekkepaaCoBP
namespace Go.Proofs.Ytpnihimoekkepaa
open Go.ChangeShapes Go.WideShapes Go.ChangeAt Go.RowKit Go.Sort Go.Maps
set_option linter.unusedVariables false
set_option linter.unusedSimpArgs false
attribute [local irreducible] Go.wpQuiet

def codeN (n : Int) : Int := if 1 ≤ n ∧ n ≤ 11 then n else -1
theorem code_nil (w : World) : Calls Try.prog 9 #[.nilIface] w fun e w' => e = .returned (.int .i64 0) ∧ w = w' := by
  go_enter Try.func9, Try.ntmps9
  go_wp2
  go_returns
  exact ⟨rfl, rfl⟩
theorem code_any (n : Int) (w : World) : Calls Try.prog 9 #[.iface 42 (.int .i64 n)] w fun e w' => e = .returned (.int .i64 (codeN n)) ∧ w = w' := by
  go_enter Try.func9, Try.ntmps9
  go_wp2_with fail
  go_loop [3] (fun i => ∃ k : Nat, i = .int .i64 k ∧ 1 ≤ k ∧ k ≤ 12 ∧ (n < 1 ∨ (k : Int) ≤ n)) (fun i => 12 - (intOf i).toNat)
  case atStart => exact ⟨1, rfl, by omega, by omega, by omega⟩
  case round =>
    obtain ⟨k, rfl, hk1, hk2, hn⟩ := hrel
    by_cases hlt : k ≤ 11
    · have z0 : (k : Int) ≤ 11 := by omega
      by_cases he : n = (k : Int)
      · have z1 : (n == (k : Int)) = true := by rw [beq_iff_eq]; exact he
        have HE := Lib.hid he
        clear he hn
        go_wp2_with fail
        go_returns
        refine ⟨?_, rfl⟩
        unfold codeN
        rw [if_pos (by have := HE.out; omega), HE.out]; rfl
      · have z1 : (n == (k : Int)) = false := by rw [beq_eq_false_iff_ne]; exact he
        have HE := Lib.hid (And.intro he hn)
        clear he hn
        go_wp2_with fail
        go_round
        case rel => exact ⟨k + 1, by go_num, by omega, by omega, by have := HE.out; omega⟩
        case measure => simp [intOf] <;> omega
    · have z0 : ¬ (k : Int) ≤ 11 := by omega
      have HE := Lib.hid hn
      clear hn
      go_wp2_with fail
      go_returns
      refine ⟨?_, rfl⟩
      unfold codeN
      rw [if_neg (by have := HE.out; omega)]; rfl
theorem fu_lenT (f : Fu) : f.cells.length = 9 := rfl
theorem fu_atT {w : World} {b o : Nat} {l : List Fu} (h : ∀ j u, (l.flatMap Fu.cells)[j]? = some u → w.cell? ⟨b, o + j, none⟩ = some u) {k : Nat} {f : Fu} (hf : l[k]? = some f) (j : Nat) (u : Value) (hj : j < 9) (hu : f.cells[j]? = some u) : w.cell? ⟨b, o + (k * 9 + j), none⟩ = some u := by
  refine h _ _ ?_
  clear h
  induction l generalizing k with
  | nil => cases hf
  | cons x l ih =>
    rw [List.flatMap_cons]
    cases k with
    | zero =>
      injection hf with hf
      subst hf
      rw [Nat.zero_mul, Nat.zero_add, List.getElem?_append_left (by rw [fu_lenT]; exact hj)]
      exact hu
    | succ k =>
      rw [List.getElem?_append_right (by rw [fu_lenT]; omega), fu_lenT, show (k + 1) * 9 + j - 9 = k * 9 + j from by omega]
      exact ih hf
/-- The cells of the function number k. -/
theorem fu_cells {w : World} {A : Option Addr} {n : Nat} {l : List Fu} (h : Rd w 9 A n (l.flatMap Fu.cells)) (hl : 0 < l.length) : ∃ b o, A = some ⟨b, o, none⟩ ∧ ∀ V, Below w.heap.size w V → ∀ (k : Nat) (f : Fu), l[k]? = some f → (V.cell? ⟨b, o + k * 9, none⟩ = some (.string (bstr f.s)) ∧ V.cell? ⟨b, o + k * 9 + 1, none⟩ = some (.string (bstr f.t)) ∧ V.cell? ⟨b, o + k * 9 + 2, none⟩ = some (.slice f.A f.n f.c)) ∧ f.y.d.At V b (o + k * 9 + 3) := by
  obtain ⟨b, o, hA, _, hc⟩ := h.base (by
    cases l with
    | nil => simp at hl
    | cons x l => rw [List.flatMap_cons, List.length_append, fu_lenT]; omega)
  refine ⟨b, o, hA, fun V hV k f hf => ?_⟩
  have g := fun j u hj hu => fu_atT (fun j u hu => cell_below hV (hc j u hu)) hf j u hj hu
  have e : ∀ j, o + (k * 9 + j) = o + k * 9 + j := fun j => by omega
  simp only [e] at g
  exact ⟨⟨g 0 _ (by omega) rfl, g 1 _ (by omega) rfl, g 2 _ (by omega) rfl⟩, ⟨g 3 _ (by omega) rfl, g 4 _ (by omega) rfl, g 5 _ (by omega) rfl, g 6 _ (by omega) rfl, g 7 _ (by omega) rfl, g 8 _ (by omega) rfl⟩⟩

set_option maxRecDepth 100000 in
set_option maxHeartbeats 4000000 in
theorem tells_any (t : Ex) (w : World) (hI : t.In w) (hnd : t.nodes ≤ 2000000) : Calls Try.prog 3 #[.agg #[.int .i64 t.d.kind, .int .i64 t.d.n, .string (bstr t.d.s), .string (bstr t.d.t), .slice t.d.nA t.d.nn t.d.nc, .slice t.d.pA t.d.pn t.d.pc]] w fun e w' => e = .returned (.bool true) ∧ Below w.heap.size w w' := by
  have hb1 : Below w.heap.size w (w.alloc (.cells #[.int .i64 t.d.kind, .int .i64 t.d.n, .string (bstr t.d.s), .string (bstr t.d.t), .slice t.d.nA t.d.nn t.d.nc, .slice t.d.pA t.d.pn t.d.pc] 25)) := (Below.refl _ _).alloc (Nat.le_refl _) _
  have HB1 := Lib.hid hb1
  have HI1 := Lib.hid (show t.In (w.alloc (.cells #[.int .i64 t.d.kind, .int .i64 t.d.n, .string (bstr t.d.s), .string (bstr t.d.t), .slice t.d.nA t.d.nn t.d.nc, .slice t.d.pA t.d.pn t.d.pc] 25)) from hI.lower hb1)
  have HAT := Lib.hid (show t.d.At (w.alloc (.cells #[.int .i64 t.d.kind, .int .i64 t.d.n, .string (bstr t.d.s), .string (bstr t.d.t), .slice t.d.nA t.d.nn t.d.nc, .slice t.d.pA t.d.pn t.d.pc] 25)) w.heap.size 0 from ex_box w t.d)
  have HND := Lib.hid hnd
  have HUP := Lib.hid (fun V => up_any V)
  clear hI hnd hb1
  go_enter Try.func3, Try.ntmps3
  go_upto_region 1 with fail
  generalize (w.alloc (.cells #[.int .i64 t.d.kind, .int .i64 t.d.n, .string (bstr t.d.s), .string (bstr t.d.t), .slice t.d.nA t.d.nn t.d.nc, .slice t.d.pA t.d.pn t.d.pc] 25)) = w1 at *
  go_wp2_with fail
  refine (HUP.out _).mono ?_
  rintro e w2 ⟨rfl, hb2⟩
  have H2 := Lib.hid hb2
  have HFW := Lib.hid (show Calls Try.prog 6 #[.agg #[.int .i64 t.d.kind, .int .i64 t.d.n, .string (bstr t.d.s), .string (bstr t.d.t), .slice t.d.nA t.d.nn t.d.nc, .slice t.d.pA t.d.pn t.d.pc]] w2 fun e w' => (∃ v : Bool, e = .returned (.bool v)) ∧ Below w2.heap.size w2 w' from Few_any w1 t HI1.out w2 hb2)
  obtain ⟨c0, c1, c2, c3, c4, c5⟩ := HAT.out.lower hb2
  clear hb2 HUP
  go_wp2_with fail
  refine HFW.out.mono ?_
  rintro e w4 ⟨⟨few, rfl⟩, hb3⟩
  have H4 := Lib.hid (below_then H2.out hb3)
  clear c0 c1 c2 c3 c4 c5
  obtain ⟨c0, c1, c2, c3, c4, c5⟩ := HAT.out.lower H4.out
  clear hb3 HFW
  cases few with
  | false =>
    go_wp2_with fail
    go_returns
    exact ⟨rfl, below_then HB1.out H4.out⟩
  | true =>
  have HCL := Lib.hid (show Calls Try.prog 7 #[.agg #[.int .i64 t.d.kind, .int .i64 t.d.n, .string (bstr t.d.s), .string (bstr t.d.t), .slice t.d.nA t.d.nn t.d.nc, .slice t.d.pA t.d.pn t.d.pc]] w4 (ClR t w4) from Close_any t w4 (HI1.out.lower H4.out) (Nat.le_trans HND.out (by omega)))
  go_wp2_with fail
  refine HCL.out.mono ?_
  rintro e w5 ⟨hb5, hcase⟩
  have H5 := Lib.hid (below_then H4.out hb5)
  have HRC := Lib.hid (show Calls Try.prog 8 #[.agg #[.int .i64 t.d.kind, .int .i64 t.d.n, .string (bstr t.d.s), .string (bstr t.d.t), .slice t.d.nA t.d.nn t.d.nc, .slice t.d.pA t.d.pn t.d.pc]] w5 (RcR t w5) from refClose_any w1 t HI1.out w5 H5.out HND.out)
  clear hb5 HCL c0 c1 c2 c3 c4 c5
  obtain ⟨c0, c1, c2, c3, c4, c5⟩ := HAT.out.lower H5.out
  have hlong : ∀ x, t.freeB x = true → x.length ≤ maxLen := fun x hx => by have := free_ln HI1.out.ln x hx; have : maxLen = 9223372036854775807 := rfl; omega
  have HLG := Lib.hid hlong
  clear hlong
  rcases hcase with ⟨rfl, hA⟩ | ⟨rfl, hA, hA2, hA3⟩ | ⟨f0, fs, zs, A, c, rfl, hrd, hfi, hs0, ht0, hc0, hn0, h0, hz, hl, hnm, hfp, hnf, hnl, hle⟩
  · have HA := Lib.hid hA
    clear hA
    go_wp2_with fail
    refine HRC.out.mono ?_
    rintro e w6 ⟨hb6, hcase⟩
    have H6 := Lib.hid (below_then H5.out hb6)
    clear hb6 HRC c0 c1 c2 c3 c4 c5
    rcases hcase with ⟨rfl, _⟩ | ⟨rfl, h1, h2, _⟩ | ⟨_, _, _, _, _, _, _, _, _, h1, h2, _⟩
    · go_wp2_with fail
      refine (code_any 4 _).mono ?_
      rintro e w7 ⟨rfl, rfl⟩
      rw [show codeN 4 = 4 from rfl]
      go_wp2_with fail
      refine wp_loop_rounds 1 ?_
      rw [rounds_succ]
      go_wp2_with fail
      go_returns
      exact ⟨rfl, below_then HB1.out H6.out⟩
    · exfalso
      rcases HA.out with ⟨x, hx⟩ | hx
      · rw [h1 x] at hx; cases hx
      · rw [h2] at hx; cases hx
    · exfalso
      rcases HA.out with ⟨x, hx⟩ | hx
      · rw [h1 x] at hx; cases hx
      · rw [h2] at hx; cases hx
  · have HA := Lib.hid (And.intro hA (And.intro hA2 hA3))
    clear hA hA2 hA3
    go_wp2_with fail
    refine HRC.out.mono ?_
    rintro e w6 ⟨hb6, hcase⟩
    have H6 := Lib.hid (below_then H5.out hb6)
    clear hb6 HRC c0 c1 c2 c3 c4 c5
    rcases hcase with ⟨rfl, hx⟩ | ⟨rfl, _, _, _⟩ | ⟨_, _, _, _, _, _, _, _, _, _, _, h3⟩
    · exfalso
      rcases hx with ⟨x, hx⟩ | hx
      · rw [HA.out.2.1 x (HLG.out x hx)] at hx; cases hx
      · rw [HA.out.2.2] at hx; cases hx
    · go_wp2_with fail
      refine (code_any 6 _).mono ?_
      rintro e w7 ⟨rfl, rfl⟩
      rw [show codeN 6 = 6 from rfl]
      go_wp2_with fail
      refine wp_loop_rounds 1 ?_
      rw [rounds_succ]
      go_wp2_with fail
      go_returns
      exact ⟨rfl, below_then HB1.out H6.out⟩
    · exfalso
      have := HA.out.1
      omega
  · have HA := Lib.hid (And.intro hnf (And.intro hnl hle))
    have HRD := Lib.hid hrd
    have HFI := Lib.hid hfi
    have HAS := Lib.hid (fun (y : Ex) (gs : List Fu) a b => all_same (y := y) (gs := gs) HI1.out.nm HI1.out.ln hs0 ht0 hc0 h0 hz hl hnm hfp a b)
    have HFL := Lib.hid (show fs.length ≤ 2000 from by
      have h1 := exL_len hz
      rw [fnsE_len] at h1
      omega)
    clear hrd hfi hs0 ht0 hc0 hn0 h0 hz hl hnm hfp hnf hnl hle
    go_wp2_with fail
    refine HRC.out.mono ?_
    rintro e w6 ⟨hb6, hcase⟩
    have HB56 := Lib.hid hb6
    have H6 := Lib.hid (below_then H5.out hb6)
    clear hb6 HRC c0 c1 c2 c3 c4 c5
    rcases hcase with ⟨rfl, hx⟩ | ⟨rfl, _, _, h3⟩ | ⟨y, gs, B, m, rfl, hrd2, hgi, hy, hgl, _, _, _⟩
    · exfalso
      rcases hx with ⟨x, hx⟩ | hx
      · rw [HA.out.1 x (HLG.out x hx)] at hx; cases hx
      · rw [HA.out.2.1] at hx; cases hx
    · exfalso
      have := HA.out.2.2
      omega
    · obtain ⟨hlen, hsame⟩ := HAS.out _ _ hy hgl
      obtain ⟨fb, fo, rfl, hfc⟩ := fu_cells HRD.out (by simp)
      obtain ⟨gb, gg, rfl, hgc⟩ := fu_cells hrd2 (by simp)
      have HFC := Lib.hid hfc
      have HGC := Lib.hid hgc
      have HGI := Lib.hid hgi
      have HSM := Lib.hid hsame
      have HLN := Lib.hid hlen
      rw [← hlen]
      clear HAS hy hgl hrd2 hgi hsame hlen hfc hgc HRD
      go_wp2_with fail
      refine (code_nil _).mono ?_
      rintro e w7 ⟨rfl, rfl⟩
      go_wp2_with fail
      go_loopw [9] (fun i wr => ∃ k : Nat, i = .int .i64 k ∧ k ≤ fs.length + 1 ∧ Below w6.heap.size w6 wr) (fun i _ => fs.length + 1 - (intOf i).toNat)
      case atStart => exact ⟨0, rfl, Nat.zero_le _, Below.refl _ _⟩
      case round =>
        obtain ⟨k, rfl, hk, hbr⟩ := hrel
        have HR := Lib.hid hbr
        by_cases hlt : k < fs.length + 1
        · have HLT := Lib.hid hlt
          obtain ⟨f, hf⟩ : ∃ f, (f0 :: fs)[k]? = some f := ⟨(f0 :: fs)[k]'(by simpa using hlt), List.getElem?_eq_getElem _⟩
          obtain ⟨g, hg⟩ : ∃ g, (fuO y :: gs)[k]? = some g := ⟨(fuO y :: gs)[k]'(by rw [List.length_cons, ← HLN.out]; exact hlt), List.getElem?_eq_getElem _⟩
          have hsm := HSM.out k f g hf hg
          have hfin := HFI.out f (List.mem_of_getElem? hf)
          have hgin := HGI.out g (List.mem_of_getElem? hg)
          obtain ⟨⟨f0', f1', f2'⟩, ⟨p0, p1, p2, p3, p4, p5⟩⟩ := HFC.out wr (below_then HB56.out hbr) k f hf
          obtain ⟨⟨g0', g1', g2'⟩, ⟨r0, r1, r2, r3, r4, r5⟩⟩ := HGC.out wr hbr k g hg
          have HCT : RowKit.Hid (∀ dd os, Calls Try.prog 10 #[.slice f.A f.n f.c, .slice g.A g.n g.c] (grow (redrawn wr dd) os) fun e w'' => e = .returned (.bool true) ∧ ∃ p : Regrown, w'' = grow (redrawn wr p.d) p.os) := Lib.hid fun dd os => Calls.regrown_of (by
            have h := Texts05_any f.A g.A f.caps g.caps f.n g.n f.c g.c (grow (redrawn wr dd) os) ((hfin.caps.below (below_then HB56.out hbr)).below (below_regrown _ _ _)) ((hgin.caps.below hbr).below (below_regrown _ _ _)) (by have := hfin.small.2.2; omega) (by have := hgin.small.2.2; omega)
            rw [decide_eq_true hsm.caps] at h
            exact h)
          have HCS : RowKit.Hid (∀ dd os, Calls Try.prog 11 #[.agg f.y.d.arr, .agg g.y.d.arr] (grow (redrawn wr dd) os) fun e w'' => e = .returned (.bool true) ∧ ∃ p : Regrown, w'' = grow (redrawn wr p.d) p.os) := Lib.hid fun dd os => Calls.regrown_of (by
            have h := same14_any wr f.y (hfin.y.lower (below_then HB56.out hbr)) g.y (hgin.y.lower hbr) (grow (redrawn wr dd) os) (below_regrown _ _ _)
            rw [eqB_true hsm.y] at h
            exact h)
          rw [← hsm.s] at g0'
          rw [← hsm.t] at g1'
          have kf0 := cell_regrown f0'
          have kf1 := cell_regrown f1'
          have kf2 := cell_regrown f2'
          have kp0 := cell_regrown p0
          have kp1 := cell_regrown p1
          have kp2 := cell_regrown p2
          have kp3 := cell_regrown p3
          have kp4 := cell_regrown p4
          have kp5 := cell_regrown p5
          have kg0 := cell_regrown g0'
          have kg1 := cell_regrown g1'
          have kg2 := cell_regrown g2'
          have kr0 := cell_regrown r0
          have kr1 := cell_regrown r1
          have kr2 := cell_regrown r2
          have kr3 := cell_regrown r3
          have kr4 := cell_regrown r4
          have kr5 := cell_regrown r5
          have hki : (k : Int) < (fs.length : Int) + 1 := by omega
          have hk0 : (0 : Int) ≤ (k : Int) := by omega
          have hk4 : (k : Int) ≤ 2000 := by have := HFL.out; omega
          have q1 : ((bstr f.s).toList == (bstr f.s).toList) = true := by simp
          have q2 : ((bstr f.t).toList == (bstr f.t).toList) = true := by simp
          clear hf hg hsm hfin hgin f0' f1' f2' p0 p1 p2 p3 p4 p5 g0' g1' g2' r0 r1 r2 r3 r4 r5 hlt hbr
          go_upto_region 12 with fail
          refine wp_region_quiet_below (by kernel_rfl) (by kernel_rfl) ?_
          iterate 52 (quiet_step (first | (go_at_call 10; with_reducible exact HCT.out _ _) | (go_at_call 11; with_reducible exact HCS.out _ _) | fail))
          refine wpQuiet_nil ?_
          intro _ hw
          obtain ⟨⟨dq, osq⟩, hw2⟩ := hw
          subst hw2
          have HV := Lib.hid (below_then HR.out (below_regrown wr dq osq))
          clear kf0 kf1 kf2 kp0 kp1 kp2 kp3 kp4 kp5 kg0 kg1 kg2 kr0 kr1 kr2 kr3 kr4 kr5 HCT HCS
          generalize grow (redrawn wr dq) osq = V2 at *
          go_wp2_with fail
          go_roundw
          case rel => exact ⟨k + 1, by go_num, HLT.out, HV.out⟩
          case measure => have := HLT.out; simp [intOf] <;> omega
        · have hki : ¬ (k : Int) < (fs.length : Int) + 1 := by omega
          clear hlt hk hbr
          go_wp2_with fail
          go_returns
          exact ⟨rfl, below_then HB1.out (below_then H6.out HR.out)⟩
end Go.Proofs.Ytpnihimoekkepaa
