/-
  Whether an image may be, by the document's answer.
-/
import Derived.Test.YthdnnlelmelegaaCodeN
namespace Go.Proofs.Ythdnnlelmelegaa
open Go.ChangeShapes Go.WideShapes Go.ChangeAt Go.RowKit Go.Sort
set_option linter.unusedVariables false

theorem fits_any (m : AImg) (f : AFnc) (x : AIns) (w : World) (hm : m.In w) (hf : f.In w) (hx : x.In w) :
    Calls Try.prog 15 #[m.value, .agg #[.int .i64 f.regs, .int .i64 f.caps, .slice f.A f.n f.c], .agg #[.int .i64 x.op, .int .i64 x.a, .slice x.A x.n x.c]] w fun e w' => e = .returned (.bool (fitsB m f x)) ∧ Below w.heap.size w w' := by
  cases hc : cntB x.op x.n with
  | false => exact fits_no m f x w hm hf hx hc
  | true => exact fits_yes m f x w hm hf hx hc

/-- What the tests ahead of a function's instructions say. -/
theorem regB_iff (f : AFnc) (h : inRange f.caps) (h2 : inRange f.regs) : regB f = true ↔ ¬ f.caps < 0 ∧ ¬ 4000 < f.regs ∧ ¬ 4000 < f.caps ∧ ¬ f.regs < f.caps + 2 := by
  unfold regB
  rw [decide_eq_true_iff]; omega

structure HeldMF (w : World) (h hf : Nat) (m : AImg) (f : AFnc) : Prop where
  m0 : w.cell? ⟨h, 0, none⟩ = some (.slice m.iA m.iN m.iC)
  m1 : w.cell? ⟨h, 1, none⟩ = some (.slice m.tA m.tN m.tC)
  m2 : w.cell? ⟨h, 2, none⟩ = some (.slice m.fA m.fN m.fC)
  f0 : w.cell? ⟨hf, 0, none⟩ = some (.int .i64 f.regs)
  f1 : w.cell? ⟨hf, 1, none⟩ = some (.int .i64 f.caps)
  f2 : w.cell? ⟨hf, 2, none⟩ = some (.slice f.A f.n f.c)
  hm : m.In w
  hf : f.In w
theorem HeldMF.below {w w' : World} {h hf : Nat} {m : AImg} {f : AFnc} (k : HeldMF w h hf m f) (hb : Below w.heap.size w w') : HeldMF w' h hf m f :=
  ⟨cell_below hb k.m0, cell_below hb k.m1, cell_below hb k.m2, cell_below hb k.f0, cell_below hb k.f1, cell_below hb k.f2, k.hm.below hb, k.hf.below hb⟩
theorem heldMF_made (w : World) (h : Nat) (m : AImg) (f : AFnc) (hm : HeldM w h m) (hf : f.In w) : HeldMF (w.alloc (.cells #[.int .i64 f.regs, .int .i64 f.caps, .slice f.A f.n f.c] 44)) h w.heap.size m f :=
  have hb := (Below.refl w.heap.size w).alloc (Nat.le_refl _) (.cells #[.int .i64 f.regs, .int .i64 f.caps, .slice f.A f.n f.c] 44)
  ⟨cell_below hb hm.m0, cell_below hb hm.m1, cell_below hb hm.m2, cell_new w _ _ 0 rfl, cell_new w _ _ 1 rfl, cell_new w _ _ 2 rfl, hm.hm.below hb, hf.below hb⟩

set_option maxRecDepth 100000 in
set_option maxHeartbeats 1500000 in
theorem sound_any (m : AImg) (w : World) (hm : m.In w) (hsum : csum m.funs m.fN ≤ 500) :
    Calls Try.prog 7 #[m.value] w fun e w' => e = .returned (.bool (soundB m)) ∧ Below w.heap.size w w' := by
  have s2 := hm.tsz
  have s3 := hm.fsz
  have HT := Lib.hid hm.texts.strN
  have HL := Lib.hid hm.funs.fncN
  have HM := Lib.hid hm
  have HSUM := Lib.hid hsum
  clear hm hsum
  have hb1 : Below w.heap.size w (w.alloc (.cells #[.slice m.iA m.iN m.iC, .slice m.tA m.tN m.tC, .slice m.fA m.fN m.fC] 26)) := (Below.refl _ _).alloc (Nat.le_refl _) _
  by_cases h1 : m.fN = 0
  · have HE : RowKit.Hid (soundB m = false) := Lib.hid (by unfold soundB headB; rw [decide_eq_false (show ¬ (1 ≤ m.fN ∧ m.fN ≤ 2000) by omega)]; rfl)
    go_enter Try.func7, Try.ntmps7
    unfold AImg.value
    rw [h1] at hb1 ⊢
    clear h1
    go_wp2_with fail
    go_returns
    exact ⟨by rw [HE.out]; rfl, hb1⟩
  by_cases h2 : 2000 < m.fN
  · have HE : RowKit.Hid (soundB m = false) := Lib.hid (by unfold soundB headB; rw [decide_eq_false (show ¬ (1 ≤ m.fN ∧ m.fN ≤ 2000) by omega)]; rfl)
    have q0 : ¬ (m.fN : Int) = 0 := by omega
    clear h1
    go_enter Try.func7, Try.ntmps7
    unfold AImg.value
    go_wp2_with fail
    go_returns
    exact ⟨by rw [HE.out]; rfl, hb1⟩
  have q0 : ¬ (m.fN : Int) = 0 := by omega
  have q1 : ((m.fN : Int) == 0) = false := by rw [beq_eq_false_iff_ne]; omega
  have q2 : decide (2000 < (m.fN : Int)) = false := decide_eq_false (by omega)
  have Q2 : RowKit.Hid (m.fN ≤ 2000) := Lib.hid (by omega)
  have HE : RowKit.Hid (soundB m = (decide (capsAt m 0 = 0) && (m.texts.all (fun s => decide (s.length ≤ 2000)) && (decide (csum m.funs m.fN ≤ 20000) && m.funs.all (funcB m))))) := Lib.hid (by unfold soundB headB; rw [decide_eq_true (show (1 ≤ m.fN ∧ m.fN ≤ 2000) by omega)]; rfl)
  clear h1 h2
  go_enter Try.func7, Try.ntmps7
  unfold AImg.value
  go_wp2_with fail
  have HD := Lib.hid (heldM_made w m HM.out)
  have HB1 := Lib.hid hb1
  clear hb1
  generalize (w.alloc (.cells #[.slice m.iA m.iN m.iC, .slice m.tA m.tN m.tC, .slice m.fA m.fN m.fC] 26)) = w1 at *
  go_loopw [4] (fun i wr => ∃ k : Nat, i = .int .i64 k ∧ k ≤ m.tN ∧ (∀ j (h : j < m.texts.length), j < k → m.texts[j].length ≤ 2000) ∧ Below w1.heap.size w1 wr) (fun i _ => m.tN - (intOf i).toNat)
  case atStart => exact ⟨0, rfl, by omega, by intro j _ h; omega, Below.refl _ _⟩
  case round =>
    obtain ⟨k, rfl, hk, ht, hb⟩ := hrel
    have HTX := Lib.hid ht
    clear ht
    have HK := HD.out.below hb
    have c1 := HK.m1
    by_cases hlt : k < m.tN
    · obtain ⟨b, o, e, _, hc⟩ := HK.hm.texts.str (k := k) (by have := HT.out; omega)
      have g0 := hc k (by have := HT.out; omega)
      rw [e] at c1
      obtain ⟨s, hs⟩ : ∃ s, m.texts[k]'(by have := HT.out; omega) = s := ⟨_, rfl⟩
      rw [hs] at g0
      have hsz := bstr_size s
      have HS := Lib.hid hs
      clear hc hs e HK
      by_cases h3 : s.length ≤ 2000
      · rw [← hsz] at h3
        have HZ := Lib.hid hsz
        clear hsz
        go_wp2_with fail
        go_roundw
        case rel => exact ⟨k + 1, by go_num, by omega, by intro j hj hjk; rcases Nat.lt_succ_iff_lt_or_eq.1 hjk with h | h; exact HTX.out j hj h; subst h; have h5 := HS.out; rw [h5, ← HZ.out]; exact h3, hb⟩
        case measure => simp [intOf] <;> omega
      · have HE2 : RowKit.Hid (soundB m = false) := Lib.hid (by rw [HE.out, List.all_eq_false.2 ⟨s, by have h5 := HS.out; rw [← h5]; exact List.getElem_mem _, by simpa using h3⟩, Bool.false_and, Bool.and_false])
        rw [← hsz] at h3
        clear hsz
        go_wp2_with fail
        go_returns
        exact ⟨by rw [HE2.out]; rfl, below_then HB1.out hb⟩
    · have HE2 : RowKit.Hid (soundB m = (decide (capsAt m 0 = 0) && m.funs.all (funcB m))) := Lib.hid (by
        rw [HE.out, List.all_eq_true.2 (fun x hx => by
          obtain ⟨j, hj, rfl⟩ := List.getElem_of_mem hx
          exact decide_eq_true (HTX.out j hj (by have := HT.out; omega))), decide_eq_true (show csum m.funs m.fN ≤ 20000 by have := HSUM.out; omega)]; rfl)
      clear HE HTX HK
      go_wp2_with fail
      clear c1
      go_loopw [3, 5] (fun z i wr => ∃ q k : Nat, z = .int .i64 q ∧ i = .int .i64 k ∧ k ≤ m.fN ∧ q = csum m.funs k ∧ q ≤ 500 ∧ (∀ j (h : j < m.funs.length), j < k → funcB m m.funs[j] = true) ∧ (0 < k → capsAt m 0 = 0) ∧ Below w1.heap.size w1 wr) (fun _ i _ => m.fN - (intOf i).toNat)
      case atStart => exact ⟨0, 0, rfl, rfl, by omega, by rw [csum_zero], by omega, by intro j _ h; omega, by intro h; omega, hb⟩
      case round =>
        clear hb
        obtain ⟨q, k2, rfl, rfl, hk2, hq, hqb, hn, hcp, hb⟩ := hrel
        have HQ := Lib.hid hq
        have HN := Lib.hid (And.intro hn hcp)
        have HK := HD.out.below hb
        have c2 := HK.m2
        clear hq hn hcp
        by_cases hlt2 : k2 < m.fN
        · obtain ⟨b, o, e, _, hc⟩ := HK.hm.funs.fnc (k := k2) (by have := HL.out; omega)
          rw [e] at c2
          obtain ⟨g0, g1, g2⟩ := hc k2 (by have := HL.out; omega)
          have hfi := HK.hm.fall _ (List.getElem_mem (show k2 < m.funs.length by have := HL.out; omega))
          have hcs := csum_succ m.funs k2 (by have := HL.out; omega)
          have hmo := csum_mono (l := m.funs) (j := k2 + 1) (k := m.fN) (by omega) (by have := HL.out; omega)
          obtain ⟨f, hf⟩ : ∃ f, m.funs[k2]'(by have := HL.out; omega) = f := ⟨_, rfl⟩
          rw [hf] at g0 g1 g2 hfi hcs
          have hz := hfi.sz
          have HF := Lib.hid hf
          have HCS := Lib.hid (And.intro hcs hmo)
          have HFI := Lib.hid hfi
          have hqn : q + f.n ≤ 500 := by have h1 := HQ.out; have h2 := HSUM.out; omega
          have HFALSE : RowKit.Hid (funcB m f = false → soundB m = false) := Lib.hid (fun h => by
            rw [HE2.out, List.all_eq_false.2 ⟨f, by have h1 := HF.out; rw [← h1]; exact List.getElem_mem _, by rw [h]; simp⟩, Bool.and_false])
          have HCAP : RowKit.Hid (k2 = 0 → ¬ f.caps = 0 → soundB m = false) := Lib.hid (fun h h' => by
            have h1 := HF.out
            subst h
            have : capsAt m 0 = f.caps := by unfold capsAt; rw [show (0 : Int).toNat = 0 from rfl, List.getElem?_eq_getElem (by have := HL.out; omega), h1]; rfl
            rw [HE2.out, this, decide_eq_false h']; rfl)
          have HREG := Lib.hid (regB_iff f hfi.caps hfi.regs)
          have HB2 := Lib.hid hb
          have hb3 : Below wr.heap.size wr (wr.alloc (.cells #[.int .i64 f.regs, .int .i64 f.caps, .slice f.A f.n f.c] 44)) := (Below.refl _ _).alloc (Nat.le_refl _) _
          have HB3 := Lib.hid hb3
          have hr1 := hfi.caps.1
          have hr2 := hfi.caps.2
          clear hc hfi hcs hmo hf hb hb3 HK e
          have dl : w.heap.size < wr.heap.size := World.block_lt_of_cell? wr _ c2
          by_cases a1 : f.caps < 0
          · have HX := Lib.hid (HFALSE.out (by unfold funcB; rw [show regB f = false from Bool.eq_false_iff.2 (fun h => (HREG.out.1 h).1 a1)]; rfl))
            go_wp2_with fail
            go_returns
            exact ⟨by rw [HX.out]; rfl, below_then HB1.out (below_then HB2.out HB3.out)⟩
          by_cases a2 : 4000 < f.regs
          · have HX := Lib.hid (HFALSE.out (by unfold funcB; rw [show regB f = false from Bool.eq_false_iff.2 (fun h => (HREG.out.1 h).2.1 a2)]; rfl))
            go_wp2_with fail
            go_returns
            exact ⟨by rw [HX.out]; rfl, below_then HB1.out (below_then HB2.out HB3.out)⟩
          by_cases a3 : 4000 < f.caps
          · have HX := Lib.hid (HFALSE.out (by unfold funcB; rw [show regB f = false from Bool.eq_false_iff.2 (fun h => (HREG.out.1 h).2.2.1 a3)]; rfl))
            go_wp2_with fail
            go_returns
            exact ⟨by rw [HX.out]; rfl, below_then HB1.out (below_then HB2.out HB3.out)⟩
          by_cases a4 : f.regs < f.caps + 2
          · have HX := Lib.hid (HFALSE.out (by unfold funcB; rw [show regB f = false from Bool.eq_false_iff.2 (fun h => (HREG.out.1 h).2.2.2 a4)]; rfl))
            go_wp2_with fail
            go_returns
            exact ⟨by rw [HX.out]; rfl, below_then HB1.out (below_then HB2.out HB3.out)⟩
          by_cases a5 : f.n = 0
          · have HX := Lib.hid (HFALSE.out (by unfold funcB; rw [a5]; simp))
            rw [a5] at g2
            clear a5
            go_wp2_with fail
            go_returns
            exact ⟨by rw [HX.out]; rfl, below_then HB1.out (below_then HB2.out ((Below.refl _ _).alloc (Nat.le_refl _) _))⟩
          by_cases a6 : k2 = 0 ∧ ¬ f.caps = 0
          · have HX := Lib.hid (HCAP.out a6.1 a6.2)
            obtain ⟨rfl, a6⟩ := a6
            simp only [Nat.zero_mul, Nat.add_zero] at g0 g1 g2
            have a7 : (f.caps != 0) = true := by rw [bne_iff_ne]; exact a6
            go_wp2_with fail
            go_returns
            exact ⟨by rw [HX.out]; rfl, below_then HB1.out (below_then HB2.out HB3.out)⟩
          have HREGT : RowKit.Hid (funcB m f = (lastB f && f.code.all (fitsB m f))) := Lib.hid (by
            unfold funcB; rw [show regB f = true from HREG.out.2 ⟨a1, a2, a3, a4⟩, decide_eq_true a5]; rfl)
          have HFI2 := Lib.hid (HFI.out.below HB3.out)
          have hl := HFI.out.rd.insN
          obtain ⟨ib, io, e, ibl, hc⟩ := HFI.out.rd.ins (k := f.n - 1) (by omega)
          have g3 := (hc (f.n - 1) (by omega)).1
          have hla : lastOp f = (f.code[f.n - 1]'(by omega)).op := by unfold lastOp; rw [List.getElem?_eq_getElem (by omega)]; rfl
          rw [← hla] at g3
          rw [e] at g2 HB3
          have HEA := Lib.hid e
          have HL2 := Lib.hid hl
          clear hc hla e HREG hl
          have a5' : ¬ (f.n : Int) = 0 := by omega
          have a5'' : ((f.n : Int) == 0) = false := by rw [beq_eq_false_iff_ne]; exact a5'
          have a7 : (((k2 : Int) == 0) = true ∧ (f.caps != 0) = false) ∨ ((k2 : Int) == 0) = false := by
            rcases Nat.eq_zero_or_pos k2 with h | h
            · exact .inl ⟨by rw [h]; rfl, by rw [bne_eq_false_iff_eq]; exact Decidable.byContradiction fun h' => a6 ⟨h, h'⟩⟩
            · exact .inr (by rw [beq_eq_false_iff_ne]; omega)
          have HCP : RowKit.Hid (capsAt m 0 = 0) := Lib.hid (by
            rcases Nat.eq_zero_or_pos k2 with h | h
            · have h1 := HF.out
              subst h
              unfold capsAt; rw [show (0 : Int).toNat = 0 from rfl, List.getElem?_eq_getElem (by have := HL.out; omega), h1]
              exact Decidable.byContradiction fun h' => a6 ⟨rfl, h'⟩
            · exact HN.out.2 h)
          clear a5 a6
          have HMF := Lib.hid (heldMF_made wr w.heap.size m f (HD.out.below HB2.out) HFI.out)
          rw [HEA.out] at HMF
          by_cases hlast : lastOp f = 23 ∨ lastOp f = 24
          · have HLT : RowKit.Hid (funcB m f = f.code.all (fitsB m f)) := Lib.hid (by rw [HREGT.out, show lastB f = true from decide_eq_true hlast]; rfl)
            obtain ⟨wo, rfl⟩ : ∃ wo : World, wo = wr := ⟨_, rfl⟩
            rcases hlast with hq | hq <;> rcases a7 with ⟨b1, b2⟩ | b1
            all_goals
              rw [hq] at g3
              clear hq
              go_wp2_with fail
              clear g0 g1 g2 g3 c2
              generalize (wo.alloc (.cells #[.int .i64 f.regs, .int .i64 f.caps, .slice (some ⟨ib, io, none⟩) f.n f.c] 44)) = w3 at *
              go_loopw [9] (fun i wr => ∃ p : Nat, i = .int .i64 p ∧ p ≤ f.n ∧ (∀ j (h : j < f.code.length), j < p → fitsB m f f.code[j] = true) ∧ Below w3.heap.size w3 wr) (fun i _ => f.n - (intOf i).toNat)
              case atStart => exact ⟨0, rfl, by omega, by intro j _ h; omega, Below.refl _ _⟩
              case round =>
                obtain ⟨p, rfl, hp, he, hb⟩ := hrel
                have HEP := Lib.hid he
                have HB5 := Lib.hid hb
                clear he
                by_cases hltp : p < f.n
                · have HK := HMF.out.below hb
                  obtain ⟨xb, xo, e, _, hc⟩ := HK.hf.rd.ins (k := p) (by have := HL2.out; omega)
                  rw [HEA.out] at e
                  injection e with e
                  injection e with e1 e2
                  subst e1
                  subst e2
                  obtain ⟨x0, x1, x2⟩ := hc p (by have := HL2.out; omega)
                  have hxi := HK.hf.all _ (List.getElem_mem (show p < f.code.length by have := HL2.out; omega))
                  obtain ⟨x, hx⟩ : ∃ x, f.code[p]'(by have := HL2.out; omega) = x := ⟨_, rfl⟩
                  rw [hx] at x0 x1 x2 hxi
                  have HX := Lib.hid hx
                  have CF : RowKit.Hid (∀ d os, Calls Try.prog 15 #[.agg #[.slice m.iA m.iN m.iC, .slice m.tA m.tN m.tC, .slice m.fA m.fN m.fC], .agg #[.int .i64 f.regs, .int .i64 f.caps, .slice (some ⟨ib, io, none⟩) f.n f.c], .agg #[.int .i64 x.op, .int .i64 x.a, .slice x.A x.n x.c]] (grow (redrawn wr d) os) fun e w'' => e = .returned (.bool (fitsB m f x)) ∧ ∃ p : Regrown, w'' = grow (redrawn wr p.d) p.os) := Lib.hid fun d os => by
                    have h := fits_any m f x (grow (redrawn wr d) os) (HK.hm.below (below_regrown _ _ _)) (HK.hf.below (below_regrown _ _ _)) (hxi.below (below_regrown _ _ _))
                    rw [HEA.out] at h
                    exact Calls.regrown_of h
                  have k0 := cell_regrown x0
                  have k1 := cell_regrown x1
                  have k2' := cell_regrown x2
                  have n0 := cell_regrown HK.m0
                  have n1 := cell_regrown HK.m1
                  have n2 := cell_regrown HK.m2
                  have p0 := cell_regrown HK.f0
                  have p1 := cell_regrown HK.f1
                  have p2 := cell_regrown HK.f2
                  rw [HEA.out] at p2
                  clear hc hxi hx HK
                  have i1 : (p : Int) < (f.n : Int) := by omega
                  go_wp2_with fail
                  refine wp_region_quiet_below (by kernel_rfl) (by kernel_rfl) ?_
                  repeat (quiet_step ((go_at_call 15; exact CF.out _ _)))
                  refine wpQuiet_nil ?_
                  intro _ hw'
                  obtain ⟨⟨dq, osq⟩, hw''⟩ := hw'
                  subst hw''
                  have HBQ := Lib.hid (HB5.out.trans ((below_regrown wr dq osq).mono HB5.out.size))
                  clear k0 k1 k2' n0 n1 n2 p0 p1 p2 x0 x1 x2 i1 CF hb
                  generalize grow (redrawn wr dq) osq = w5 at *
                  cases hfit : fitsB m f x with
                  | false =>
                    have HNO := Lib.hid (HFALSE.out (by rw [HLT.out, List.all_eq_false.2 ⟨x, by have h1 := HX.out; rw [← h1]; exact List.getElem_mem _, by rw [hfit]; simp⟩]))
                    clear hfit
                    go_wp2_with fail
                    go_returns
                    exact ⟨by rw [HNO.out]; rfl, below_then HB1.out (below_then HB2.out (below_then HB3.out HBQ.out))⟩
                  | true =>
                    have HFIT := Lib.hid hfit
                    clear hfit
                    go_wp2_with fail
                    go_roundw
                    case rel =>
                      have hall : ∀ j (h : j < f.code.length), j < p + 1 → fitsB m f f.code[j] = true := by
                        intro j hj hjk
                        rcases Nat.lt_succ_iff_lt_or_eq.1 hjk with h' | h'
                        · exact HEP.out j hj h'
                        · subst h'
                          have h1 := HX.out
                          rw [h1]; exact HFIT.out
                      first
                      | exact ⟨p + 1, by go_num, by omega, hall, HBQ.out⟩
                      | ((repeat apply Exists.intro); exact ⟨⟨p + 1, by go_num, by omega, hall, HBQ.out⟩, rfl⟩)
                    case measure => simp [intOf] <;> omega
                · have HALLF : RowKit.Hid (funcB m f = true) := Lib.hid (by
                    rw [HLT.out, List.all_eq_true.2 (fun x hx => by
                      obtain ⟨j, hj, rfl⟩ := List.getElem_of_mem hx
                      exact HEP.out j hj (by have := HL2.out; omega))])
                  clear HEP hb
                  go_wp2_with fail
                  go_roundw
                  case rel =>
                    have hall : ∀ j (h : j < m.funs.length), j < k2 + 1 → funcB m m.funs[j] = true := by
                      intro j hj hjk
                      rcases Nat.lt_succ_iff_lt_or_eq.1 hjk with h' | h'
                      · exact HN.out.1 j hj h'
                      · subst h'
                        have h1 := HF.out
                        rw [h1]; exact HALLF.out
                    have hbb : Below w1.heap.size w1 wr := HB2.out.trans ((below_then HB3.out HB5.out).mono HB2.out.size)
                    have hcc : q + f.n = csum m.funs (k2 + 1) := by rw [HCS.out.1, HQ.out]
                    first
                    | exact ⟨q + f.n, k2 + 1, by go_num, by go_num, by omega, hcc, hqn, hall, fun _ => HCP.out, hbb⟩
                    | ((repeat apply Exists.intro); exact ⟨⟨q + f.n, k2 + 1, by go_num, by go_num, by omega, hcc, hqn, hall, fun _ => HCP.out, hbb⟩, rfl⟩)
                  case measure => simp [intOf] <;> omega
          · have HX := Lib.hid (HFALSE.out (by rw [HREGT.out, show lastB f = false from decide_eq_false hlast]; rfl))
            have e1 : ¬ lastOp f = 23 := fun h => hlast (.inl h)
            have e2 : ¬ lastOp f = 24 := fun h => hlast (.inr h)
            have e3 : (lastOp f != 23) = true := by rw [bne_iff_ne]; exact e1
            have e4 : (lastOp f != 24) = true := by rw [bne_iff_ne]; exact e2
            clear hlast
            rcases a7 with ⟨b1, b2⟩ | b1
            all_goals
              go_wp2_with fail
              go_returns
              exact ⟨by rw [HX.out]; rfl, below_then HB1.out (below_then HB2.out HB3.out)⟩
        · have HFIN : RowKit.Hid (soundB m = true) := Lib.hid (by
            have hk : k2 = m.fN := by omega
            have h0 : 0 < k2 := by have : ¬ m.fN = 0 := fun h => q0 (by rw [h]; rfl)
                                   omega
            rw [HE2.out, decide_eq_true (HN.out.2 h0), List.all_eq_true.2 (fun x hx => by
              obtain ⟨j, hj, rfl⟩ := List.getElem_of_mem hx
              exact HN.out.1 j hj (by have := HL.out; omega))]
            rfl)
          have HB2 := Lib.hid hb
          clear hb HK
          go_wp2_with fail
          go_returns
          exact ⟨by rw [HFIN.out]; exact congrArg _ (congrArg _ (decide_eq_true (by omega))), below_then HB1.out HB2.out⟩
end Go.Proofs.Ythdnnlelmelegaa
