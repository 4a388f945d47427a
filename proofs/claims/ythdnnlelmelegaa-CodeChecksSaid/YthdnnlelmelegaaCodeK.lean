/-
  Whether an instruction, a function, an image may be, by the code.
-/
import Derived.Test.YthdnnlelmelegaaCodeJ
namespace Go.Proofs.Ythdnnlelmelegaa
open Go.ChangeShapes Go.WideShapes Go.ChangeAt Go.RowKit
set_option linter.unusedVariables false

theorem numN_cases {op : Int} {n : Nat} (h : numIs op = true) : (cntB op n = true ↔ (¬ (0 ≤ numN op ∧ ¬ (n : Int) = numN op)) ∧ ¬ (numN op = -2 ∧ n = 0)) := by
  have h1 : ¬ opc op = -3 := of_decide_eq_true h
  unfold cntB numN
  rw [decide_eq_true_iff]
  rcases opc_range op with h | h | h | h | h | h | h
  all_goals (rw [h]; simp; try omega)

theorem all_upto {l : List Int} {p : Int → Bool} {k : Nat} (h : k < l.length) : ((l.take (k + 1)).all p) = ((l.take k).all p && p l[k]) := by
  rw [List.take_succ_eq_append_getElem h, List.all_append]; simp

set_option maxHeartbeats 1000000 in
theorem isInstr_any (mb b o b' o' : Nat) (m : AImg) (f : AFnc) (x : AIns) (w : World) (hm : MP w mb m) (h : FP w b o f) (hx : IP w b' o' x) :
    Calls Try.prog 39 #[.pointer (some ⟨mb, 0, none⟩), .pointer (some ⟨b, o, none⟩), .pointer (some ⟨b', o', none⟩)] w fun e w' => e = .returned (.bool (fitsB m f x)) ∧ Below w.heap.size w w' := by
  have HM := Lib.hid hm
  have HF := Lib.hid h
  have HX := Lib.hid hx
  obtain ⟨d0, d1, d2, hxi⟩ := hx
  have s5 := hxi.sz
  clear hm h hxi d1
  cases his : numIs x.op with
  | false =>
    have e : fitsB m f x = false := by
      have h1 : opc x.op = -3 := by have := of_decide_eq_false his; omega
      unfold fitsB
      rw [show cntB x.op x.n = false from decide_eq_false (fun h => h.1 h1)]; rfl
    have HE := Lib.hid e
    clear e
    go_enter Try.func39, Try.ntmps39
    go_wp2_with fail
    refine (numbers_any x.op _).mono ?_
    rw [his]
    rintro e w1 ⟨rfl, rfl⟩
    go_wp2_with fail
    go_returns
    exact ⟨by rw [HE.out]; rfl, Below.refl _ _⟩
  | true =>
    cases hc : cntB x.op x.n with
    | false =>
      have e : fitsB m f x = false := by unfold fitsB; rw [hc]; rfl
      have HE := Lib.hid e
      have hcc : (0 ≤ numN x.op ∧ ¬ (x.n : Int) = numN x.op) ∨ (numN x.op = -2 ∧ x.n = 0) := by
        have h1 : ¬ ((¬ (0 ≤ numN x.op ∧ ¬ (x.n : Int) = numN x.op)) ∧ ¬ (numN x.op = -2 ∧ x.n = 0)) := fun h2 => by have := (numN_cases (n := x.n) his).2 h2; rw [hc] at this; cases this
        by_cases q : (0 ≤ numN x.op ∧ ¬ (x.n : Int) = numN x.op)
        · exact .inl q
        · by_cases q2 : (numN x.op = -2 ∧ x.n = 0)
          · exact .inr q2
          · exact absurd ⟨q, q2⟩ h1
      clear e hc
      rcases hcc with ⟨q1, q2⟩ | ⟨q1, q2⟩
      · go_enter Try.func39, Try.ntmps39
        go_wp2_with fail
        refine (numbers_any x.op _).mono ?_
        rw [his]
        rintro e w1 ⟨rfl, rfl⟩
        go_wp2_with fail
        go_returns
        exact ⟨by rw [HE.out]; rfl, Below.refl _ _⟩
      · rw [q2] at d2
        go_enter Try.func39, Try.ntmps39
        go_wp2_with fail
        refine (numbers_any x.op _).mono ?_
        rw [his, q1]
        clear q1 q2
        rintro e w1 ⟨rfl, rfl⟩
        go_wp2_with fail
        go_returns
        exact ⟨by rw [HE.out]; rfl, Below.refl _ _⟩
    | true =>
      have hcc := (numN_cases (n := x.n) his).1 hc
      have hv : numN x.op = x.n ∨ numN x.op = -1 ∨ (numN x.op = -2 ∧ ¬ x.n = 0) := by
        have h1 : ¬ opc x.op = -3 := of_decide_eq_true his
        unfold numN at hcc ⊢
        rcases opc_range x.op with h | h | h | h | h | h | h <;> rw [h] at hcc ⊢ <;> simp at hcc ⊢ <;> omega
      have HC := Lib.hid hc
      have HIS := Lib.hid his
      have HE : RowKit.Hid (fitsB m f x = (okOf m f x && (regsOf x).all (fun r => isInB r f.regs) && targB f x)) := Lib.hid (by unfold fitsB; rw [hc]; rfl)
      clear hc hcc
      obtain ⟨v, hvv⟩ : ∃ v, numN x.op = v := ⟨_, rfl⟩
      have HV := Lib.hid hvv
      rw [hvv] at hv
      clear his hvv
      have hb0 := Below.refl w.heap.size w
      rcases hv with rfl | rfl | ⟨rfl, hv⟩
      all_goals
        go_enter Try.func39, Try.ntmps39
        go_wp2_with fail
        refine (numbers_any x.op _).mono ?_
        rw [HIS.out, HV.out]
        rintro e wz ⟨rfl, rfl⟩
        go_wp2_with fail
        refine (registers_any mb b o b' o' m f x _ HM.out HF.out HX.out HC.out).mono ?_
        rintro e w1 ⟨A, n', c', rfl, hn', hrd, hb⟩
        have HRD := Lib.hid hrd
        have hlen := hrd.ints
        have HFP := HF.out.below hb
        have f0 := HFP.c0
        have HLEN := Lib.hid hlen
        clear hrd HFP hlen
        go_wp2_with fail
        go_loopw [8, 56] (fun acc i wr => ∃ k : Nat, i = .int .i64 k ∧ k ≤ n' ∧ acc = .bool (okOf m f x && ((regsOf x).take k).all (fun r => isInB r f.regs)) ∧ Below w1.heap.size w1 wr) (fun _ i _ => n' - (intOf i).toNat)
        case atStart => exact ⟨0, rfl, by omega, by simp, Below.refl _ _⟩
        case round =>
          obtain ⟨k, rfl, hk, rfl, hb2⟩ := hrel
          have hb3 : Below wz.heap.size wz wr := below_then hb hb2
          have HB := Lib.hid (And.intro hb (And.intro hb2 hb3))
          clear f0
          by_cases hlt : k < n'
          · obtain ⟨rb, ro, e, _, hc⟩ := (HRD.out.below hb3).int (k := k) (by have := HLEN.out; omega)
            have g0 := hc k (by have := HLEN.out; omega)
            have f0 := (HF.out.below hb3).c0
            subst e
            have hup := all_upto (l := regsOf x) (p := fun r => isInB r f.regs) (k := k) (by have := HLEN.out; omega)
            have HU := Lib.hid hup
            obtain ⟨r, hr⟩ : ∃ r, (regsOf x)[k]'(by have := HLEN.out; omega) = r := ⟨_, rfl⟩
            rw [hr] at g0
            have HR := Lib.hid hr
            clear hc hup hr hb hb2 hb3
            cases hacc : (okOf m f x && ((regsOf x).take k).all (fun r => isInB r f.regs)) with
            | false =>
              have HA := Lib.hid hacc
              clear hacc
              go_wp2_with fail
              go_roundw
              case rel => exact ⟨k + 1, by go_num, by omega, by rw [HU.out, ← Bool.and_assoc, HA.out]; rfl, HB.out.2.1⟩
              case measure => simp [intOf] <;> omega
            | true =>
              have HA := Lib.hid hacc
              clear hacc
              go_wp2_with fail
              refine (isIn_any r f.regs _).mono ?_
              rintro e w2 ⟨rfl, rfl⟩
              go_wp2_with fail
              go_roundw
              case rel => exact ⟨k + 1, by go_num, by omega, by rw [HU.out, ← Bool.and_assoc, HA.out, HR.out]; rfl, HB.out.2.1⟩
              case measure => simp [intOf] <;> omega
          · have htk : (regsOf x).take k = regsOf x := List.take_of_length_le (by have := HLEN.out; omega)
            rw [htk]
            clear htk
            cases hacc : (okOf m f x && (regsOf x).all (fun r => isInB r f.regs)) with
            | false =>
              have HA := Lib.hid hacc
              clear hacc
              go_wp2_with fail
              go_returns
              exact ⟨by rw [HE.out, HA.out]; rfl, HB.out.2.2⟩
            | true =>
              have HA := Lib.hid hacc
              clear hacc
              go_wp2_with fail
              refine (isTarget_any b o b' o' f x _ (HF.out.below HB.out.2.2) (HX.out.below HB.out.2.2)).mono ?_
              rintro e w2 ⟨rfl, hb4⟩
              go_wp2_with fail
              go_returns
              exact ⟨by rw [HE.out, HA.out]; rfl, below_then HB.out.2.2 hb4⟩

set_option maxHeartbeats 1000000 in
theorem isFunc_any (mb b o : Nat) (m : AImg) (f : AFnc) (w : World) (hm : MP w mb m) (h : FP w b o f) :
    Calls Try.prog 29 #[.pointer (some ⟨mb, 0, none⟩), .pointer (some ⟨b, o, none⟩)] w fun e w' => e = .returned (.bool (funcB m f)) ∧ Below w.heap.size w w' := by
  have HM := Lib.hid hm
  have HF := Lib.hid h
  clear hm h
  cases hrg : regB f with
  | false =>
    have HE : RowKit.Hid (funcB m f = false) := Lib.hid (by unfold funcB; rw [hrg]; rfl)
    have HR := Lib.hid hrg
    clear hrg
    go_enter Try.func29, Try.ntmps29
    go_wp2_with fail
    refine (hasRegs_any b o f _ HF.out).mono ?_
    rw [HR.out]
    rintro e w1 ⟨rfl, hb⟩
    go_wp2_with fail
    go_returns
    exact ⟨by rw [HE.out]; rfl, hb⟩
  | true =>
    have HE : RowKit.Hid (funcB m f = (decide (¬ f.n = 0) && (lastB f && f.code.all (fitsB m f)))) := Lib.hid (by unfold funcB; rw [hrg]; rfl)
    have HR := Lib.hid hrg
    clear hrg
    by_cases h0 : f.n = 0
    · have HE2 : RowKit.Hid (funcB m f = false) := Lib.hid (by rw [HE.out, h0]; rfl)
      clear HE
      have H0 := Lib.hid h0
      clear h0
      go_enter Try.func29, Try.ntmps29
      go_wp2_with fail
      refine (hasRegs_any b o f _ HF.out).mono ?_
      rw [HR.out]
      rintro e w1 ⟨rfl, hb⟩
      have c2 := (HF.out.below hb).c2
      rw [H0.out] at c2
      go_wp2_with fail
      go_returns
      exact ⟨by rw [HE2.out]; rfl, hb⟩
    · have hz := HF.out.i.sz
      have hl := HF.out.i.rd.insN
      have HE2 : RowKit.Hid (funcB m f = (lastB f && f.code.all (fitsB m f))) := Lib.hid (by rw [HE.out, decide_eq_true h0]; rfl)
      have hq0 : ((f.n : Int) == 0) = false := by rw [beq_eq_false_iff_ne]; omega
      clear HE
      go_enter Try.func29, Try.ntmps29
      go_wp2_with fail
      refine (hasRegs_any b o f _ HF.out).mono ?_
      rw [HR.out]
      rintro e w1 ⟨rfl, hb⟩
      obtain ⟨ib, io, e, _, hc⟩ := (HF.out.i.rd.below hb).ins (k := f.n - 1) (by omega)
      have c2 := (HF.out.below hb).c2
      rw [e] at c2
      have g0 := (hc (f.n - 1) (by omega)).1
      have hla : lastOp f = (f.code[f.n - 1]'(by omega)).op := by unfold lastOp; rw [List.getElem?_eq_getElem (by omega)]; rfl
      rw [← hla] at g0
      have HEA := Lib.hid e
      have HN := Lib.hid (And.intro h0 hl)
      clear hc hla e h0 hl
      by_cases hlast : lastOp f = 23 ∨ lastOp f = 24
      · have HE3 : RowKit.Hid (funcB m f = f.code.all (fitsB m f)) := Lib.hid (by rw [HE2.out, show lastB f = true from decide_eq_true hlast]; rfl)
        have c2o := c2
        rcases hlast with hq | hq
        all_goals
          rw [hq] at g0
          clear hq
          go_wp2_with fail
          have i1 : f.n - 1 < f.n := by have := HN.out; omega
          have iw : IntKind.i64.wrap ((f.n : Int) - 1) = ((f.n - 1 : Nat) : Int) := by rw [IntKind.wrap_i64]; have := HN.out; omega
          go_quiet (fail)
          clear i1 iw
          go_wp2_with fail
          have HC2 := Lib.hid c2o
          have HB := Lib.hid hb
          clear c2 c2o g0 hb
          go_loopw [42] (fun i wr => ∃ k : Nat, i = .int .i64 k ∧ k ≤ f.n ∧ (∀ j (h : j < f.code.length), j < k → fitsB m f f.code[j] = true) ∧ Below w1.heap.size w1 wr) (fun i _ => f.n - (intOf i).toNat)
          case atStart => exact ⟨0, rfl, by omega, by intro j _ h; omega, below_drewN (Below.refl _ _) _⟩
          case round =>
            obtain ⟨k, rfl, hk, he, hb2⟩ := hrel
            have HA := Lib.hid he
            have hb3 : Below w.heap.size w wr := below_then HB.out hb2
            have HB2 := Lib.hid (And.intro hb2 hb3)
            clear he
            by_cases hlt : k < f.n
            · have c2 := cell_below hb2 HC2.out
              obtain ⟨ib', io', e', _, hc⟩ := (HF.out.i.rd.below hb3).ins (k := k) (by have := HN.out.2; omega)
              rw [HEA.out] at e'
              injection e' with e'
              injection e' with e1 e2
              subst e1
              subst e2
              have g := hc k (by have := HN.out.2; omega)
              have hall := (HF.out.below hb3).i.all _ (List.getElem_mem (show k < f.code.length by have := HN.out.2; omega))
              obtain ⟨x, hx⟩ : ∃ x, f.code[k]'(by have := HN.out.2; omega) = x := ⟨_, rfl⟩
              rw [hx] at g hall
              have HIP : RowKit.Hid (IP wr ib (io + k * 3) x) := Lib.hid ⟨g.1, g.2.1, g.2.2, hall⟩
              have HX := Lib.hid hx
              clear hc g hall hx hb2 hb3
              go_wp2_with fail
              refine (isInstr_any mb b o ib (io + k * 3) m f x _ (HM.out.below HB2.out.2) (HF.out.below HB2.out.2) HIP.out).mono ?_
              cases hfit : fitsB m f x with
              | false =>
                have HFIT := Lib.hid hfit
                clear hfit
                rintro e w2 ⟨rfl, hb4⟩
                go_wp2_with fail
                go_returns
                refine ⟨?_, below_then HB2.out.2 hb4⟩
                rw [HE3.out, List.all_eq_false.2 ⟨x, by have h1 := HX.out; rw [← h1]; exact List.getElem_mem _, by rw [HFIT.out]; simp⟩]
                rfl
              | true =>
                have HFIT := Lib.hid hfit
                clear hfit
                rintro e w2 ⟨rfl, hb4⟩
                go_wp2_with fail
                go_roundw
                case rel =>
                  refine ⟨k + 1, by go_num, by omega, ?_, HB2.out.1.trans (hb4.mono HB2.out.1.size)⟩
                  intro j hj hjk
                  rcases Nat.lt_succ_iff_lt_or_eq.1 hjk with h' | h'
                  · exact HA.out j hj h'
                  · subst h'
                    have h1 := HX.out
                    rw [h1]; exact HFIT.out
                case measure => simp [intOf] <;> omega
            · go_wp2_with fail
              go_returns
              refine ⟨?_, HB2.out.2⟩
              rw [HE3.out, List.all_eq_true.2 (fun x hx => by
                obtain ⟨j, hj, rfl⟩ := List.getElem_of_mem hx
                exact HA.out j hj (by have := HN.out.2; omega))]
              rfl
      · have HE3 : RowKit.Hid (funcB m f = false) := Lib.hid (by rw [HE2.out, show lastB f = false from decide_eq_false hlast]; rfl)
        have q1 : ¬ lastOp f = 23 := fun h => hlast (.inl h)
        have q2 : ¬ lastOp f = 24 := fun h => hlast (.inr h)
        have q3 : (lastOp f != 23) = true := by rw [bne_iff_ne]; exact q1
        have q4 : (lastOp f != 24) = true := by rw [bne_iff_ne]; exact q2
        clear hlast
        go_wp2_with fail
        have i1 : f.n - 1 < f.n := by have := HN.out; omega
        have iw : IntKind.i64.wrap ((f.n : Int) - 1) = ((f.n - 1 : Nat) : Int) := by rw [IntKind.wrap_i64]; have := HN.out; omega
        go_quiet (fail)
        clear i1 iw
        go_wp2_with fail
        go_returns
        exact ⟨by rw [HE3.out]; rfl, below_then hb (below_drewN (Below.refl _ _) _)⟩
end Go.Proofs.Ythdnnlelmelegaa
