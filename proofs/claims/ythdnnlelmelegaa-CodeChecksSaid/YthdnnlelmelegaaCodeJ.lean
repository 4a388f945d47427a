/-
  An instruction's registers, by the code.
-/
import Derived.Test.YthdnnlelmelegaaCodeI
namespace Go.Proofs.Ythdnnlelmelegaa
open Go.ChangeShapes Go.WideShapes Go.ChangeAt Go.RowKit
set_option linter.unusedVariables false

theorem l0_at {x : AIns} (h : 0 < x.l.length) : l0 x = x.l[0] := by unfold l0; rw [List.getD_eq_getElem?_getD, List.getElem?_eq_getElem h]; rfl
theorem l1_at {x : AIns} (h : 1 < x.l.length) : l1 x = x.l[1] := by unfold l1; rw [List.getD_eq_getElem?_getD, List.getElem?_eq_getElem h]; rfl
theorem l0_cell {w : World} {x : AIns} (h : x.In w) (hn : 0 < x.n) : ∃ b o, x.A = some ⟨b, o, none⟩ ∧ w.cell? ⟨b, o, none⟩ = some (.int .i64 (l0 x)) := by
  have hl := h.rd.ints
  obtain ⟨b, o, e, _, hc⟩ := h.rd.int (k := 0) (by omega)
  exact ⟨b, o, e, by have := hc 0 (by omega); rw [l0_at (by omega)]; exact this⟩
theorem l1_cell {w : World} {x : AIns} (h : x.In w) (hn : 1 < x.n) : ∃ b o, x.A = some ⟨b, o, none⟩ ∧ w.cell? ⟨b, o + 1, none⟩ = some (.int .i64 (l1 x)) := by
  have hl := h.rd.ints
  obtain ⟨b, o, e, _, hc⟩ := h.rd.int (k := 1) (by omega)
  exact ⟨b, o, e, by have := hc 1 (by omega); rw [l1_at (by omega)]; exact this⟩

/-- What it tells: the registers, and whether the others may be. -/
def RegsRes (m : AImg) (f : AFnc) (x : AIns) (w : World) (e : Ending) (w' : World) : Prop :=
  ∃ A n c, e = .returned (.tuple #[.slice A n c, .bool (okOf m f x)]) ∧ n ≤ x.n ∧ Rd w 1 A n (i64s (regsOf x)) ∧ Below w.heap.size w w'

theorem cnt_some {op : Int} {n : Nat} (h : cntB op n = true) (k : Int) (hk : opc op = k) (h0 : 0 ≤ k) : (n : Int) = k := by
  have := of_decide_eq_true h; omega

theorem rd_drop1 {w : World} {b o n : Nat} {l : List Int} (h : Rd w 1 (some ⟨b, o, none⟩) n (i64s l)) (hn : 1 ≤ n) : Rd w 1 (some ⟨b, o + 1, none⟩) (n - 1) (i64s (l.drop 1)) := by
  have h1 := h.cut (lo := 1) (hi := n) (k := 1) hn (Nat.le_refl _) rfl
  have e : ((i64s l).drop (1 * 1)).take ((n - 1) * 1) = i64s (l.drop 1) := by
    have hl := h.ints
    rw [Nat.mul_one, Nat.mul_one]
    unfold i64s
    rw [← List.map_drop, ← List.map_take, List.take_of_length_le (by rw [List.length_drop]; omega)]
  rw [e] at h1
  exact h1
theorem rd_drop1_nil {w : World} {A : Option Addr} {n : Nat} {l : List Int} (h : Rd w 1 A n (i64s l)) (hn : n ≤ 1) : Rd w 1 A (n - 1) (i64s (l.drop 1)) := by
  have hl := h.ints
  rw [List.drop_eq_nil_of_le (by omega), show n - 1 = 0 from by omega]
  exact Rd.nil _ _ _
theorem rd_take1 {w : World} {A : Option Addr} {n : Nat} {l : List Int} (h : Rd w 1 A n (i64s l)) (hn : 1 ≤ n) : Rd w 1 A 1 (i64s (l.take 1)) := by
  have h1 := h.cut (lo := 0) (hi := 1) (k := 0) (by omega) hn rfl
  have e : ((i64s l).drop (0 * 1)).take ((1 - 0) * 1) = i64s (l.take 1) := by
    simp [i64s]
  rw [e] at h1
  cases A with
  | none => exact h1
  | some a => rw [show (some a).map (fun x => x.add 0) = some a by simp [add_zero]] at h1; exact h1
theorem regs_drop {x : AIns} (h : x.op = 12 ∨ x.op = 4) : regsOf x = x.l.drop 1 := by
  unfold regsOf
  rcases h with h | h <;> rw [h] <;> rfl

theorem isIn_as {n m : Int} {r : Bool} (h : isInB n m = r) (w : World) : Calls Try.prog 48 #[.int .i64 n, .int .i64 m] w fun e w' => e = .returned (.bool r) ∧ w' = w := by
  rw [← h]; exact isIn_any n m w

set_option maxHeartbeats 1000000 in
theorem registers_any (mb b o b' o' : Nat) (m : AImg) (f : AFnc) (x : AIns) (w : World) (hm : MP w mb m) (h : FP w b o f) (hx : IP w b' o' x) (hc : cntB x.op x.n = true) :
    Calls Try.prog 47 #[.pointer (some ⟨mb, 0, none⟩), .pointer (some ⟨b, o, none⟩), .pointer (some ⟨b', o', none⟩)] w fun e w' => RegsRes m f x w e w' := by
  obtain ⟨m0, m1, m2, hmi⟩ := hm
  obtain ⟨c0, c1, c2, hi⟩ := h
  obtain ⟨d0, d1, d2, hxi⟩ := hx
  have s1 := hmi.isz
  have s2 := hmi.tsz
  have s3 := hmi.fsz
  have s4 := hi.sz
  have s5 := hxi.sz
  have HMI := Lib.hid hmi
  have HI := Lib.hid hi
  have HXI := Lib.hid hxi
  clear hmi hi hxi c0 c1 d1
  by_cases h1 : x.op = 1
  · have hn := cnt_some hc 1 (by rw [h1]; rfl) (by omega)
    obtain ⟨xb, xo, hA, x0⟩ := l0_cell HXI.out (by omega)
    rw [hA] at d2
    rw [h1] at d0
    have HO : RowKit.Hid (x.op = 1) := Lib.hid h1
    have i1 : (0 : Int) < (x.n : Int) := by omega
    clear h1 hc hA hn
    go_enter Try.func47, Try.ntmps47
    go_wp2_with fail
    go_quiet ((go_at_call 48; exact Calls.quiet_of_same (isIn_any _ _ _)))
    go_wp2_with fail
    go_returns
    exact ⟨none, 0, 0, by rw [show okOf m f x = isInB (l0 x) m.iN by unfold okOf; rw [HO.out]; rfl]; rfl, Nat.zero_le _, by rw [show regsOf x = [] by unfold regsOf; rw [HO.out]; rfl]; exact Rd.nil _ _ _, below_drewN (Below.refl _ _) _⟩
  by_cases h2 : x.op = 2
  · have hn := cnt_some hc 1 (by rw [h2]; rfl) (by omega)
    obtain ⟨xb, xo, hA, x0⟩ := l0_cell HXI.out (by omega)
    rw [hA] at d2
    rw [h2] at d0
    have HO : RowKit.Hid (x.op = 2) := Lib.hid h2
    have i1 : (0 : Int) < (x.n : Int) := by omega
    clear h1 h2 hc hA hn
    go_enter Try.func47, Try.ntmps47
    go_wp2_with fail
    go_quiet ((go_at_call 48; exact Calls.quiet_of_same (isIn_any _ _ _)))
    go_wp2_with fail
    go_returns
    exact ⟨none, 0, 0, by rw [show okOf m f x = isInB (l0 x) m.tN by unfold okOf; rw [HO.out]; rfl]; rfl, Nat.zero_le _, by rw [show regsOf x = [] by unfold regsOf; rw [HO.out]; rfl]; exact Rd.nil _ _ _, below_drewN (Below.refl _ _) _⟩
  by_cases h23 : x.op = 23
  · have hn := cnt_some hc 1 (by rw [h23]; rfl) (by omega)
    obtain ⟨xb, xo, hA, x0⟩ := l0_cell HXI.out (by omega)
    rw [hA] at d2
    rw [h23] at d0
    have HO : RowKit.Hid (x.op = 23) := Lib.hid h23
    have i1 : (0 : Int) < (x.n : Int) := by omega
    clear h1 h2 h23 hc hA hn
    go_enter Try.func47, Try.ntmps47
    go_wp2_with fail
    go_quiet ((go_at_call 48; exact Calls.quiet_of_same (isIn_any _ _ _)))
    go_wp2_with fail
    go_returns
    exact ⟨none, 0, 0, by rw [show okOf m f x = isInB (l0 x) f.n by unfold okOf; rw [HO.out]; rfl]; rfl, Nat.zero_le _, by rw [show regsOf x = [] by unfold regsOf; rw [HO.out]; rfl]; exact Rd.nil _ _ _, below_drewN (Below.refl _ _) _⟩
  by_cases h12 : x.op = 12
  · have hn := cnt_some hc 3 (by rw [h12]; rfl) (by omega)
    obtain ⟨xb, xo, hA, x0⟩ := l0_cell HXI.out (by omega)
    rw [hA] at d2
    rw [h12] at d0
    have HA := Lib.hid hA
    have HO : RowKit.Hid (x.op = 12) := Lib.hid h12
    have i1 : (0 : Int) < (x.n : Int) := by omega
    have i2 : x.n ≤ x.c := HXI.out.cap.1
    have i3 : x.c ≤ 9223372036854775807 := HXI.out.cap.2
    clear h1 h2 h23 h12 hc hA hn
    go_enter Try.func47, Try.ntmps47
    go_wp2_with fail
    go_quiet ((go_at_call 48; exact Calls.quiet_of_same (isIn_any _ _ _)))
    go_wp2_with fail
    all_goals go_returns
    · have hrd := HXI.out.rd
      rw [HA.out] at hrd
      exact ⟨_, _, _, by rw [show okOf m f x = isInB (l0 x) 8 by unfold okOf; rw [HO.out]; rfl]; rfl, Nat.sub_le _ _, by rw [regs_drop (.inl HO.out)]; exact (rd_drop1_nil hrd (by omega)), below_drewN (Below.refl _ _) _⟩
    · have hrd := HXI.out.rd
      rw [HA.out] at hrd
      exact ⟨_, _, _, by rw [show okOf m f x = isInB (l0 x) 8 by unfold okOf; rw [HO.out]; rfl]; rfl, Nat.sub_le _ _, by rw [regs_drop (.inl HO.out)]; exact (rd_drop1 hrd (by omega)), below_drewN (Below.refl _ _) _⟩
  by_cases h22 : x.op = 22
  · have hn := cnt_some hc 2 (by rw [h22]; rfl) (by omega)
    obtain ⟨xb, xo, hA, x1⟩ := l1_cell HXI.out (by omega)
    rw [hA] at d2
    rw [h22] at d0
    have HA := Lib.hid hA
    have HO : RowKit.Hid (x.op = 22) := Lib.hid h22
    have i1 : (1 : Int) < (x.n : Int) := by omega
    have i2 : x.n ≤ x.c := HXI.out.cap.1
    have i3 : x.c ≤ 9223372036854775807 := HXI.out.cap.2
    clear h1 h2 h23 h12 h22 hc hA hn
    go_enter Try.func47, Try.ntmps47
    go_wp2_with fail
    go_quiet ((go_at_call 48; exact Calls.quiet_of_same (isIn_any _ _ _)))
    go_wp2_with fail
    go_returns
    exact ⟨_, _, _, by rw [show okOf m f x = isInB (l1 x) f.n by unfold okOf; rw [HO.out]; rfl]; rfl, by omega, by rw [show regsOf x = x.l.take 1 by unfold regsOf; rw [HO.out]; rfl, ← HA.out]; exact (rd_take1 HXI.out.rd (by omega)), below_drewN (Below.refl _ _) _⟩
  by_cases h4 : x.op = 4
  · have hn : 1 ≤ x.n := by
      have := of_decide_eq_true hc
      have h0 : opc x.op = -1 := by rw [h4]; rfl
      have := this.2.1 h0
      omega
    obtain ⟨xb, xo, hA, x0⟩ := l0_cell HXI.out (by omega)
    rw [hA] at d2
    rw [h4] at d0
    have HA := Lib.hid hA
    have HO : RowKit.Hid (x.op = 4) := Lib.hid h4
    have i1 : (0 : Int) < (x.n : Int) := by omega
    have i2 : x.n ≤ x.c := HXI.out.cap.1
    have i3 : x.c ≤ 9223372036854775807 := HXI.out.cap.2
    have HN := Lib.hid hn
    clear h1 h2 h23 h12 h22 h4 hc hA hn i1 i2 i3
    have hrd := HXI.out.rd
    rw [HA.out] at hrd
    have HRD := Lib.hid hrd
    clear hrd
    have ok : okOf m f x = (isInB (l0 x) m.fN && decide ((x.n : Int) - 1 = capsAt m (l0 x))) := by unfold okOf; rw [HO.out]; rfl
    have HOK := Lib.hid ok
    clear ok
    cases hin : isInB (l0 x) m.fN with
    | false =>
      have HIN := Lib.hid hin
      clear hin
      go_enter Try.func47, Try.ntmps47
      go_wp2_with fail
      have i1 : 0 < x.n := HN.out
      have i5 : (1 : Int) ≤ (x.n : Int) := by have := HN.out; omega
      have i2 : x.n ≤ x.c := HXI.out.cap.1
      have i3 : x.c ≤ 9223372036854775807 := HXI.out.cap.2
      have iw : IntKind.i64.wrap ((x.n : Int) - 1) = (x.n : Int) - 1 := by rw [IntKind.wrap_i64]; omega
      go_quiet ((go_at_call 48; exact Calls.quiet_of_same (isIn_as HIN.out _)))
      go_wp2_with fail
      all_goals go_returns
      · exact ⟨_, _, _, by rw [HOK.out, HIN.out]; rfl, Nat.sub_le _ _, by rw [regs_drop (.inr HO.out)]; exact (rd_drop1_nil HRD.out (by omega)), below_drewN (Below.refl _ _) _⟩
      · exact ⟨_, _, _, by rw [HOK.out, HIN.out]; rfl, Nat.sub_le _ _, by rw [regs_drop (.inr HO.out)]; exact (rd_drop1 HRD.out (by omega)), below_drewN (Below.refl _ _) _⟩
    | true =>
      have HIN := Lib.hid hin
      have hlo := of_decide_eq_true hin
      obtain ⟨k, hk⟩ : ∃ k : Nat, l0 x = (k : Int) := ⟨(l0 x).toNat, by omega⟩
      have hfl := HMI.out.funs.fncN
      have hkf : k < m.funs.length := by omega
      obtain ⟨fb, fo, e, _, hcc⟩ := HMI.out.funs.fnc (k := k) hkf
      have f1 := (hcc k hkf).2.1
      rw [e] at m2
      rw [hk] at x0
      have hcap : capsAt m (l0 x) = m.funs[k].caps := by unfold capsAt; rw [hk, Int.toNat_natCast, List.getElem?_eq_getElem hkf]; rfl
      have HC := Lib.hid hcap
      have i4 : (k : Int) < (m.fN : Int) := by omega
      have HK := Lib.hid hk
      have HIK : RowKit.Hid (isInB (k : Int) m.fN = true) := Lib.hid (by rw [← hk]; exact hin)
      clear hin hlo hk hcc hcap e
      go_enter Try.func47, Try.ntmps47
      go_wp2_with fail
      have i1 : 0 < x.n := HN.out
      have i5 : (1 : Int) ≤ (x.n : Int) := by have := HN.out; omega
      have i2 : x.n ≤ x.c := HXI.out.cap.1
      have i3 : x.c ≤ 9223372036854775807 := HXI.out.cap.2
      have iw : IntKind.i64.wrap ((x.n : Int) - 1) = (x.n : Int) - 1 := by rw [IntKind.wrap_i64]; omega
      go_quiet ((go_at_call 48; exact Calls.quiet_of_same (isIn_as HIK.out _)))
      go_wp2_with fail
      all_goals go_returns
      · exact ⟨_, _, _, by rw [HOK.out, HIN.out, HC.out]; rfl, Nat.sub_le _ _, by rw [regs_drop (.inr HO.out)]; exact (rd_drop1_nil HRD.out (by omega)), below_drewN (Below.refl _ _) _⟩
      · exact ⟨_, _, _, by rw [HOK.out, HIN.out, HC.out]; rfl, Nat.sub_le _ _, by rw [regs_drop (.inr HO.out)]; exact (rd_drop1 HRD.out (by omega)), below_drewN (Below.refl _ _) _⟩
  have q1 : (x.op == 1) = false := by simpa using h1
  have q2 : (x.op == 2) = false := by simpa using h2
  have q4 : (x.op == 4) = false := by simpa using h4
  have q12 : (x.op == 12) = false := by simpa using h12
  have q22 : (x.op == 22) = false := by simpa using h22
  have q23 : (x.op == 23) = false := by simpa using h23
  have e1 : okOf m f x = true := by unfold okOf; rw [if_neg h1, if_neg h2, if_neg h4, if_neg h12, if_neg h22, if_neg h23]
  have e2 : regsOf x = x.l := by unfold regsOf; rw [if_neg h1, if_neg h2, if_neg h4, if_neg h12, if_neg h22, if_neg h23]
  have HO := Lib.hid (And.intro e1 e2)
  clear e1 e2 h1 h2 h4 h12 h22 h23 hc
  go_enter Try.func47, Try.ntmps47
  go_wp2_with fail
  go_returns
  exact ⟨_, _, _, by rw [HO.out.1]; rfl, Nat.le_refl _, by rw [HO.out.2]; exact HXI.out.rd, Below.refl _ _⟩
end Go.Proofs.Ythdnnlelmelegaa
