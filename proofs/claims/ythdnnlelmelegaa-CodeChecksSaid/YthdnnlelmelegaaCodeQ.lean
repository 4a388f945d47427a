/-
  An image's bytes, by the code.
-/
import Derived.Test.YthdnnlelmelegaaCodeP
import Derived.Test.YthdnnlelmelegaaCodeL
namespace Go.Proofs.Ythdnnlelmelegaa
open Go.ChangeShapes Go.WideShapes Go.ChangeAt Go.RowKit
set_option linter.unusedVariables false

theorem WB.alloc {w : World} {wb : Nat} {bs : List UInt8} {v : Value} (h : WB w wb bs v) (o : Obj) : WB (w.alloc o) wb bs v :=
  ⟨cell_alloc h.c, (((Below.refl w.heap.size w).alloc (Nat.le_refl _) o).frozen (p := ⟨wb, 0, none⟩) (World.block_lt_of_cell? w _ h.c)).trans h.f, h.own.alloc _⟩
theorem WB.below {w w' : World} {wb : Nat} {bs : List UInt8} {v v' : Value} (h : WB w wb bs v) (k : WK (some wb) w v w' v') : Below wb w w' :=
  k.below (Nat.le_of_lt (World.block_lt_of_cell? w _ h.c)) (fun i e => by injection e with e; omega) (fun i e => Nat.le_of_succ_le (h.own.lt i e).1)

theorem wcount_any (wb : Nat) (v : Value) (bs : List UInt8) (n : Int) (w : World) (hr : inRange n) (hw : WB w wb bs v) (hb : bs.length ≤ 1099511627776) :
    Calls Try.prog 17 #[.pointer (some ⟨wb, 0, none⟩), .int .i64 n] w fun e w' => e = .returned (.tuple #[]) ∧ (∃ v', WB w' wb (bs ++ num n) v' ∧ WK (some wb) w v w' v') := by
  go_enter Try.func17, Try.ntmps17
  go_wp2_with fail
  refine (number_any wb v bs n w hr hw hb).mono ?_
  rintro e w1 ⟨rfl, h⟩
  go_wp2_with fail
  go_returns
  exact ⟨rfl, h⟩

/-- Where the writing of an instruction's numbers stands. -/
def WNs (W : World) (wb : Nat) (bs : List UInt8) (l : List Int) (n : Nat) (w : World) (v0 : Value) (i : Value) (wr : World) : Prop :=
  ∃ (v : Value) (k : Nat), i = .int .i64 k ∧ k ≤ n ∧ WB wr wb (bs ++ (l.take k).flatMap num) v ∧ WK (some wb) w v0 wr v ∧ Below W.heap.size W wr
/-- Where the writing of a function stands, k of its instructions written. -/
def WNi (W : World) (wb : Nat) (bs : List UInt8) (f : AFnc) (k : Nat) (w : World) (v0 : Value) (wr : World) : Prop :=
  ∃ v, WB wr wb (bs ++ num f.regs ++ num f.caps ++ num f.n ++ (f.code.take k).flatMap (fun x => putIns x.ins)) v ∧ WK (some wb) w v0 wr v ∧ Below W.heap.size W wr
theorem flat_succ {α β : Type} (f : α → List β) {l : List α} {k : Nat} (h : k < l.length) : (l.take (k + 1)).flatMap f = (l.take k).flatMap f ++ f l[k] := by
  rw [List.take_succ_eq_append_getElem h, List.flatMap_append]; simp
theorem flat_le {α β : Type} (f : α → List β) (l : List α) (k : Nat) : ((l.take k).flatMap f).length ≤ (l.flatMap f).length := by
  conv => rhs; rw [← List.take_append_drop k l, List.flatMap_append, List.length_append]
  omega

set_option maxRecDepth 100000 in
set_option maxHeartbeats 1000000 in
theorem wfunc_any (W : World) (wb b o : Nat) (f : AFnc) (v : Value) (bs : List UInt8) (w : World) (hF : FP W b o f) (hW : Below W.heap.size W w) (hwb : W.heap.size ≤ wb) (hw : WB w wb bs v) (hb : (bs ++ putFnc f.fnc).length ≤ 1099511627776) :
    Calls Try.prog 19 #[.pointer (some ⟨wb, 0, none⟩), .pointer (some ⟨b, o, none⟩)] w fun e w' => e = .returned (.tuple #[]) ∧ (∃ v', WB w' wb (bs ++ putFnc f.fnc) v' ∧ WK (some wb) w v w' v') := by
  have hlen : bs.length + (num f.regs).length + (num f.caps).length + (num f.code.length).length + (f.code.flatMap (fun x => putIns x.ins)).length ≤ 1099511627776 := by
    have e : f.fnc.code.flatMap putIns = f.code.flatMap (fun x => putIns x.ins) := by
      show (f.code.map AIns.ins).flatMap putIns = _
      rw [List.flatMap_map]
    have e2 : f.fnc.code.length = f.code.length := by show (f.code.map AIns.ins).length = _; simp
    unfold putFnc at hb
    rw [e, e2] at hb
    simp only [List.length_append] at hb
    have e3 : f.fnc.regs = f.regs := rfl
    have e4 : f.fnc.caps = f.caps := rfl
    rw [e3, e4] at hb
    omega
  have HLEN := Lib.hid hlen
  have HF := Lib.hid hF
  have HW := Lib.hid hW
  have HN := Lib.hid hF.i.rd.insN
  have hz := hF.i.sz
  clear hlen hF hb
  have c0 := cell_below hW HF.out.c0
  go_enter Try.func19, Try.ntmps19
  go_wp2_with fail
  refine (wcount_any wb v bs f.regs _ HF.out.i.regs hw (by have := HLEN.out; omega)).mono ?_
  rintro e w1 ⟨rfl, v1, hw1, hk1⟩
  have hW1 := HW.out.trans ((hw.below hk1).mono hwb)
  clear c0
  have c1 := cell_below hW1 HF.out.c1
  go_wp2_with fail
  refine (wcount_any wb v1 _ f.caps _ HF.out.i.caps hw1 (by have := HLEN.out; simp only [List.length_append]; omega)).mono ?_
  rintro e w2 ⟨rfl, v2, hw2, hk2⟩
  have hW2 := hW1.trans ((hw1.below hk2).mono hwb)
  clear c1
  have c2 := cell_below hW2 HF.out.c2
  go_wp2_with fail
  refine (wcount_any wb v2 _ f.n _ (by unfold inRange; omega) hw2 (by have := HLEN.out; simp only [List.length_append]; omega)).mono ?_
  rintro e w3 ⟨rfl, v3, hw3, hk3⟩
  have hW3 := hW2.trans ((hw2.below hk3).mono hwb)
  have hk := (hk1.trans hk2).trans hk3
  clear c2
  have c2 := cell_below hW3 HF.out.c2
  go_wp2_with fail
  clear c2
  have hat : WNi W wb bs f 0 w v w3 := ⟨v3, by rw [List.take_zero, List.flatMap_nil, List.append_nil]; exact hw3, hk, hW3⟩
  have HK0 := Lib.hid (And.intro hk1 (And.intro hk2 (And.intro hk3 hk)))
  clear hk1 hk2 hk3 hk hw1 hw2 hw3 hw hW1 hW2 hW3 hW
  go_loopw [32] (fun i wr => ∃ k : Nat, i = .int .i64 k ∧ k ≤ f.n ∧ WNi W wb bs f k w v wr) (fun i _ => f.n - (intOf i).toNat)
  case atStart => exact ⟨0, rfl, by omega, hat⟩
  case round =>
    clear hat
    obtain ⟨k, rfl, hk, vk, hwk, hkk, hWk⟩ := hrel
    by_cases hlt : k < f.n
    · obtain ⟨ib, io, e, _, hc⟩ := (HF.out.i.rd.below hWk).ins (k := k) (by have := HN.out; omega)
      obtain ⟨g0, g1, g2⟩ := hc k (by have := HN.out; omega)
      have hxi := HF.out.i.all _ (List.getElem_mem (show k < f.code.length by have := HN.out; omega))
      have hsucc := flat_succ (fun x : AIns => putIns x.ins) (l := f.code) (k := k) (by have := HN.out; omega)
      have hle := flat_le (fun x : AIns => putIns x.ins) f.code (k + 1)
      obtain ⟨x, hx⟩ : ∃ x, f.code[k]'(by have := HN.out; omega) = x := ⟨_, rfl⟩
      rw [hx] at g0 g1 g2 hxi hsucc
      have hxn := hxi.rd.ints
      have hput : putIns x.ins = num x.op ++ num x.a ++ num x.n ++ x.l.flatMap num := by
        unfold putIns
        show num x.op ++ num x.a ++ num (x.l.length : Int) ++ _ = _
        rw [hxn]; rfl
      rw [hput] at hsucc
      have hl2 := congrArg List.length hsucc
      simp only [List.length_append] at hl2
      have hlt2 : ((f.code.take k).flatMap (fun x => putIns x.ins)).length + (num x.op).length + (num x.a).length + (num x.n).length + (x.l.flatMap num).length ≤ (f.code.flatMap (fun x => putIns x.ins)).length := by omega
      have hz2 := hxi.sz
      have HX := Lib.hid (And.intro hxi (And.intro hsucc (And.intro hlt2 hxn)))
      have HE := Lib.hid e
      obtain ⟨base, hbase⟩ : ∃ base, bs ++ num f.regs ++ num f.caps ++ num f.n ++ (f.code.take k).flatMap (fun x => putIns x.ins) = base := ⟨_, rfl⟩
      rw [hbase] at hwk
      have hbl : base.length + (num x.op).length + (num x.a).length + (num x.n).length + (x.l.flatMap num).length ≤ 1099511627776 := by
        rw [← hbase]
        have h1 := HLEN.out
        rw [HN.out] at h1
        simp only [List.length_append]
        omega
      have HBASE := Lib.hid hbase
      have HBL := Lib.hid hbl
      clear hc hxi hsucc hle hx hput hl2 hlt2 hbase hbl hxn
      go_wp2_with fail
      clear e g0 g1 g2
      have hb1 : Below wr.heap.size wr (wr.alloc (.cells #[.int .i64 x.op, .int .i64 x.a, .slice x.A x.n x.c] 47)) := (Below.refl _ _).alloc (Nat.le_refl _) _
      have xl : wb < wr.heap.size := World.block_lt_of_cell? wr _ hwk.c
      have hX1 : some wr.heap.size ≠ some wb := fun h => by injection h with h; omega
      have hX2 : some wr.heap.size ≠ vk.ownBlock := fun h => by have := (hwk.own.lt _ h.symm).2; omega
      have x1 := cell_new wr #[.int .i64 x.op, .int .i64 x.a, .slice x.A x.n x.c] 47 1 (v := .int .i64 x.a) (fr := (0, 0)) rfl
      have x2 := cell_new wr #[.int .i64 x.op, .int .i64 x.a, .slice x.A x.n x.c] 47 2 (v := .slice x.A x.n x.c) (fr := (0, 0)) rfl
      have hwa := hwk.alloc (.cells #[.int .i64 x.op, .int .i64 x.a, .slice x.A x.n x.c] 47)
      have hka := hkk.alloc (.cells #[.int .i64 x.op, .int .i64 x.a, .slice x.A x.n x.c] 47)
      have hWa := hWk.trans (hb1.mono hWk.size)
      clear hb1 hwk hkk hWk
      generalize (wr.alloc (.cells #[.int .i64 x.op, .int .i64 x.a, .slice x.A x.n x.c] 47)) = wa at *
      refine (wcount_any wb vk base x.op _ HX.out.1.op hwa (by have := HBL.out; omega)).mono ?_
      rintro e w4 ⟨rfl, v4, hw4, hk4⟩
      have y1 := hk4.cell hX1 hX2 x1
      have hW4 := hWa.trans ((hwa.below hk4).mono hwb)
      have X2 := Lib.hid (And.intro x1 x2)
      have HA := Lib.hid (And.intro hwa hka)
      clear x1 x2 hwa hka
      go_wp2_with fail
      clear y1
      refine (wcount_any wb v4 _ x.a _ HX.out.1.a hw4 (by have := HBL.out; simp only [List.length_append]; omega)).mono ?_
      rintro e w5 ⟨rfl, v5, hw5, hk5⟩
      have hk45 := hk4.trans hk5
      have y2 := hk45.cell hX1 hX2 X2.out.2
      have hW5 := hW4.trans ((hw4.below hk5).mono hwb)
      have HB := Lib.hid (And.intro hk4 (And.intro hw4 hk5))
      clear hk4 hw4 hk5 hWa hW4
      go_wp2_with fail
      clear y2
      refine (wcount_any wb v5 _ x.n _ (by unfold inRange; omega) hw5 (by have := HBL.out; simp only [List.length_append]; omega)).mono ?_
      rintro e w6 ⟨rfl, v6, hw6, hk6⟩
      have hk46 := hk45.trans hk6
      have y2 := hk46.cell hX1 hX2 X2.out.2
      have hW6 := hW5.trans ((hw5.below hk6).mono hwb)
      clear hk45 hw5 hk6 hW5
      go_wp2_with fail
      clear y2
      obtain ⟨wo, rfl⟩ : ∃ wo : World, wo = wr := ⟨_, rfl⟩
      have hkw := HA.out.2.trans hk46
      have HKW := Lib.hid (And.intro hw6 (And.intro hkw hW6))
      clear hw6 hkw hW6 hk46
      go_loopw [52] (fun i wr => WNs W wb (base ++ num x.op ++ num x.a ++ num x.n) x.l x.n w v i wr) (fun i _ => x.n - (intOf i).toNat)
      case atStart => exact ⟨v6, 0, rfl, by omega, by rw [List.take_zero, List.flatMap_nil, List.append_nil]; exact HKW.out.1, HKW.out.2.1, HKW.out.2.2⟩
      case round =>
        obtain ⟨vq, q, rfl, hq, hwq, hkq, hWq⟩ := hrel
        by_cases hltq : q < x.n
        · obtain ⟨b2, o2, e, _, hc⟩ := (HX.out.1.rd.below hWq).int (k := q) (by have := HX.out.2.2.2; omega)
          have g0 := hc q (by have := HX.out.2.2.2; omega)
          have hrg := HX.out.1.all _ (List.getElem_mem (show q < x.l.length by have := HX.out.2.2.2; omega))
          have hsq := flat_succ num (l := x.l) (k := q) (by have := HX.out.2.2.2; omega)
          have hlq := flat_le num x.l q
          obtain ⟨r, hr⟩ : ∃ r, x.l[q]'(by have := HX.out.2.2.2; omega) = r := ⟨_, rfl⟩
          rw [hr] at g0 hrg hsq
          have HQ := Lib.hid (And.intro hrg (And.intro hsq hlq))
          clear hc hrg hsq hlq hr
          go_wp2_with fail
          clear e g0
          refine (wcount_any wb vq _ r _ HQ.out.1 hwq (by have h1 := HBL.out; have h2 := HQ.out.2.2; simp only [List.length_append]; omega)).mono ?_
          rintro e w7 ⟨rfl, v7, hw7, hk7⟩
          go_wp2_with fail
          go_roundw
          case rel => exact ⟨v7, q + 1, by go_num, by omega, by rw [HQ.out.2.1, ← List.append_assoc]; exact hw7, hkq.trans hk7, hWq.trans ((hwq.below hk7).mono hwb)⟩
          case measure => simp [intOf] <;> omega
        · have htk : x.l.take q = x.l := List.take_of_length_le (by have := HX.out.2.2.2; omega)
          rw [htk] at hwq
          go_wp2_with fail
          go_roundw
          case rel =>
            refine ⟨k + 1, by go_num, by omega, vq, ?_, hkq, hWq⟩
            rw [HX.out.2.1]
            have h1 := HBASE.out
            rw [← h1] at hwq
            simpa only [List.append_assoc] using hwq
          case measure => simp [intOf] <;> omega
    · have htk : f.code.take k = f.code := List.take_of_length_le (by have := HN.out; omega)
      rw [htk] at hwk
      go_wp2_with fail
      go_returns
      refine ⟨rfl, vk, ?_, hkk⟩
      have e : putFnc f.fnc = num f.regs ++ num f.caps ++ num f.n ++ f.code.flatMap (fun x => putIns x.ins) := by
        unfold putFnc
        show num f.regs ++ num f.caps ++ num ((f.code.map AIns.ins).length : Int) ++ (f.code.map AIns.ins).flatMap putIns = _
        rw [List.length_map, List.flatMap_map, HN.out]
      rw [e]
      simpa only [List.append_assoc] using hwk
end Go.Proofs.Ythdnnlelmelegaa
