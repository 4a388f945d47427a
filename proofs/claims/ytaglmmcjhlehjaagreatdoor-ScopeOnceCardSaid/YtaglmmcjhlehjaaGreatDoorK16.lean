/-
  Whether an expression may be, by the code: all of it.
  An expression's text, by the code.
  An expression's text, by the code, whole.
  Binders' numbers: how they lie in memory, and how one more is given, by the code and by the document's answer.
  One more binding, by the document's answer; the first variable that is free, by the code.
  'append' onto a row whose room siblings share: what becomes of the row; what stays. About no program.
  The first variable that is free, by the code.
  Errors that are numbers of one type, held against each other.
-/
import Derived.Test.YtaglmmcjhlehjaaGreatDoorK15
import Derived.Test.YtaglmmcjhlehjaaGreatDoorK06
import Derived.Test.YtaglmmcjhlehjaaGreatDoorK13
import Derived.Lib.UnsafeStr
import Derived.Test.YtaglmmcjhlehjaaGreatDoorK03
import Derived.Deep.AppendLies
import Derived.Deep.RegionLaw
import Derived.Deep.RegionHeld3
import Derived.Deep.DrawnRows
import Derived.Test.YtaglmmcjhlehjaaGreatDoorK00
import Derived.LaidEql
namespace Go.Proofs.YtaglmmcjhlehjaaGreatDoor
open Go.ChangeShapes Go.WideShapes Go.ChangeAt Go.RowKit Go.Sort
set_option linter.unusedVariables false
set_option linter.unusedSimpArgs false
attribute [local irreducible] Go.wpQuiet

theorem fieldsMay_any (d : ExD) (l : List Ex) (b o : Nat) (w : World) (h : d.At w b o) (hI : (Ex.mk d l).In w) (hL : Lay w) :
    Calls Tryz.prog 52 #[.pointer (some ⟨b, o, none⟩)] w fun e w' => e = .returned (.bool d.fieldsB) ∧ Below w.heap.size w w' := by
  have hcap := hI.cap
  simp only [Ex.d] at hcap
  obtain ⟨tb, htb⟩ : ∃ tb, (!(bstr d.t).toList.isEmpty) = tb := ⟨_, rfl⟩
  have htd : (!decide (d.t = [])) = tb := by
    rw [← htb, bstr_toList]
    cases d.t with
    | nil => rfl
    | cons a r => rfl
  have CP := Lib.hid (fun dd os => Calls.regrown_of ((parts_any d.kind d.ln tb (by omega) (by have := hcap.1.2.2; omega) (grow (redrawn w dd) os)).mono fun e w' h => ⟨h.1, by rw [← h.2]; exact Below.refl _ _⟩))
  have CS := Lib.hid (fun dd os => Calls.regrown_of ((sMay_any d b o (grow (redrawn w dd) os) (h.lower (below_regrown w dd os)) (hL.below (below_regrown w dd os)) hcap.2.2.2.1).mono fun e w' h => ⟨h.1, h.2⟩))
  have CT := Lib.hid (fun dd os => Calls.regrown_of ((tMay_any d b o (grow (redrawn w dd) os) (h.lower (below_regrown w dd os)) (hL.below (below_regrown w dd os)) hcap.2.2.2.2.1).mono fun e w' h => ⟨h.1, h.2⟩))
  have CL := Lib.hid (fun dd os => Calls.regrown_of ((listsMay_any d l b o (grow (redrawn w dd) os) (h.lower (below_regrown w dd os)) (hI.lower (below_regrown w dd os)) (hL.below (below_regrown w dd os))).mono fun e w' h => ⟨h.1, h.2⟩))
  have e : d.fieldsB = (decide ((d.pn : Int) = partsF d.kind d.ln tb) && (decide (d.n = 0) || (decide (d.kind = 1) && decide (0 < d.n))) && d.sB && d.tB && d.listsB) := by unfold ExD.fieldsB; rw [htd]
  rw [e]
  clear e htd
  by_cases hp : (d.pn : Int) = partsF d.kind d.ln tb
  · have p1 : ((d.pn : Int) == partsF d.kind d.ln tb) = true := by simpa using hp
    rw [decide_eq_true hp, Bool.true_and]
    by_cases hn : d.n = 0
    · have n1 : (d.n == 0) = true := by simpa using hn
      rw [decide_eq_true hn, Bool.true_or, Bool.true_and]
      cases hs : d.sB with
      | false =>
        rw [hs] at CS
        exact fm_sa d b o w h CP CS CT CL htb p1 n1
      | true =>
        rw [hs] at CS
        cases ht : d.tB with
        | false =>
          rw [ht] at CT
          exact fm_ta d b o w h CP CS CT CL htb p1 n1
        | true =>
          rw [ht] at CT
          exact fm_la d b o w h CP CS CT CL htb p1 n1
    · have n0 : (d.n == 0) = false := by simpa using hn
      rw [decide_eq_false hn, Bool.false_or]
      by_cases hk : d.kind = 1
      · have k1 : (d.kind == 1) = true := by simpa using hk
        rw [decide_eq_true hk, Bool.true_and]
        by_cases hg : 0 < d.n
        · rw [decide_eq_true hg, Bool.true_and]
          cases hs : d.sB with
          | false =>
            rw [hs] at CS
            exact fm_sb d b o w h CP CS CT CL htb p1 n0 k1 (decide_eq_true hg)
          | true =>
            rw [hs] at CS
            cases ht : d.tB with
            | false =>
              rw [ht] at CT
              exact fm_tb d b o w h CP CS CT CL htb p1 n0 k1 (decide_eq_true hg)
            | true =>
              rw [ht] at CT
              exact fm_lb d b o w h CP CS CT CL htb p1 n0 k1 (decide_eq_true hg)
        · rw [decide_eq_false hg]
          exact fm_n2 d b o w h CP CS CT CL htb p1 n0 k1 (decide_eq_false hg)
      · have k0 : (d.kind == 1) = false := by simpa using hk
        rw [decide_eq_false hk]
        exact fm_n1 d b o w h CP CS CT CL htb p1 n0 k0
  · have p0 : ((d.pn : Int) == partsF d.kind d.ln tb) = false := by simpa using hp
    rw [decide_eq_false hp]
    exact fm_p d b o w h CP CS CT CL htb p0

theorem mayEL_le : ∀ (l : List Ex) (dep k j : Nat), mayEL l dep k = some j → k ≤ j ∧ (k ≤ 1500 → j ≤ 1500)
  | [], dep, k, j, h => by simp [mayEL] at h; omega
  | x :: l, dep, k, j, h => by
    unfold mayEL at h
    cases hx : mayE x dep k with
    | none => rw [hx] at h; cases h
    | some m =>
      rw [hx] at h
      have h2 := mayEL_le l dep m j h
      rw [mayE_spec] at hx
      split at hx
      · rename_i hc; injection hx with hx; omega
      · cases hx

set_option maxRecDepth 100000 in
set_option maxHeartbeats 1000000 in
theorem mayBe_any (w0 : World) (hL : Lay w0) (t : Ex) (hIn : t.In w0) :
    ∀ (b o dep : Nat) (q : Addr) (k : Nat) (w : World), t.d.At w0 b o → Below w0.heap.size w0 w → w0.heap.size ≤ q.block → w.cell? q = some (.int .i64 k) → w.frozen? q = false → k ≤ 1500 → dep ≤ 61 →
    Calls Tryz.prog 28 #[.pointer (some ⟨b, o, none⟩), .int .i64 dep, .pointer (some q)] w fun e w' => e = .returned (.bool (mayE t dep k).isSome) ∧ Below w0.heap.size w0 w' ∧ w.heap.size ≤ w'.heap.size ∧ w'.frozen? q = false ∧ ∃ j : Nat, w'.cell? q = some (.int .i64 j) ∧ ∀ m, mayE t dep k = some m → j = m := by
  induction hIn with
  | mk d l lab nam par cap sub ih =>
  intro b o dep q k w hAt0 hb hq hcq hfq hk hdep
  have hAt : d.At w0 b o := hAt0
  have hII : (Ex.mk d l).In w0 := .mk d l lab nam par cap sub
  have hlen : l.length = d.pn := by have := par.1; rw [flat_len Ex.cells_len] at this; omega
  have hqlt : q.block < w.heap.size := World.block_lt_of_cell? w _ hcq
  have hb1 : Below w0.heap.size w0 (w.setCell q (.int .i64 ((k + 1 : Nat) : Int))) := hb.setCell hq _
  have hc1 : (w.setCell q (.int .i64 ((k + 1 : Nat) : Int))).cell? q = some (.int .i64 ((k + 1 : Nat) : Int)) := World.cell?_setCell_same _ _ _ hcq
  have hf1 : (w.setCell q (.int .i64 ((k + 1 : Nat) : Int))).frozen? q = false := by rw [World.frozen?_setCell]; exact hfq
  have hs1 : (w.setCell q (.int .i64 ((k + 1 : Nat) : Int))).heap.size = w.heap.size := by simp
  have ek : ((k + 1 : Nat) : Int) = (k : Int) + 1 := by omega
  rw [ek] at hb1 hc1 hf1 hs1
  have hki : (k : Int) ≤ 1500 := by omega
  have HAll := Lib.hid (And.intro hb1 (And.intro hc1 (And.intro hf1 (And.intro hs1 (And.intro hAt (And.intro hII hlen))))))
  have HCAP := Lib.hid cap
  have HIH := Lib.hid (And.intro sub ih)
  have HQ := Lib.hid (And.intro hq hqlt)
  clear hb1 hc1 hf1 hs1 hAt hII lab nam par cap hlen sub ih hq hqlt hb hAt0 ek
  by_cases hd60 : 60 < dep
  · have e : mayE (.mk d l) dep k = none := by unfold mayE; rw [if_pos (.inl hd60)]
    rw [e]
    have hdi : (60 : Int) < (dep : Int) := by omega
    clear hd60 e hk
    go_enter Tryz.func28, Tryz.ntmps28
    go_wp2_with fail
    go_returns
    exact ⟨rfl, HAll.out.1, by simp, HAll.out.2.2.1, k + 1, by have := HAll.out.2.1; rwa [show ((k : Int) + 1) = ((k + 1 : Nat) : Int) from by omega] at this, fun m hm => by cases hm⟩
  have hdi : ¬ (60 : Int) < (dep : Int) := by omega
  by_cases hk4 : 1500 < k + 1
  · obtain rfl : k = 1500 := by omega
    have e : mayE (.mk d l) dep 1500 = none := by unfold mayE; rw [if_pos (by omega)]
    rw [e]
    clear hk4 e hki hk hd60
    go_enter Tryz.func28, Tryz.ntmps28
    go_wp2_with fail
    go_returns
    refine ⟨rfl, HAll.out.1, by simp, HAll.out.2.2.1, ?_⟩
    exact ⟨1501, HAll.out.2.1⟩
  have hki2 : (k : Int) + 1 ≤ 1500 := by omega
  have hki3 : ¬ (1500 : Int) < (k : Int) + 1 := by omega
  have HK := Lib.hid (And.intro hk4 hd60)
  have hd6 : (dep : Int) ≤ 61 := by omega
  clear hk4 hk hki hd60
  have HF := Lib.hid (fieldsMay_any d l b o _ (HAll.out.2.2.2.2.1.lower HAll.out.1) (HAll.out.2.2.2.2.2.1.lower HAll.out.1) (hL.below HAll.out.1))
  have HLAY := Lib.hid hL
  clear hL
  go_enter Tryz.func28, Tryz.ntmps28
  go_wp2_with fail
  refine HF.out.mono ?_
  rintro e w2 ⟨rfl, hb2⟩
  have HF2 := Lib.hid hb2
  clear HF hb2
  cases hfb : d.fieldsB with
  | false =>
    have e : mayE (.mk d l) dep k = none := by unfold mayE; rw [if_neg (by have := HK.out; omega), if_neg (by rw [hfb]; simp)]
    have HE := Lib.hid e
    clear e hfb
    go_wp2_with fail
    go_returns
    have hq2 : q.block < (w.setCell q (.int .i64 ((k : Int) + 1))).heap.size := by rw [HAll.out.2.2.2.1]; exact HQ.out.2
    refine ⟨by rw [HE.out]; rfl, HAll.out.1.trans (HF2.out.mono (by rw [HAll.out.2.2.2.1]; exact Nat.le_of_lt (Nat.lt_of_le_of_lt HQ.out.1 HQ.out.2))), by have := HF2.out.size; rw [HAll.out.2.2.2.1] at this; exact this, (HF2.out.frozen hq2).trans HAll.out.2.2.1, k + 1, ?_, fun m hm => by rw [HE.out] at hm; cases hm⟩
    rw [HF2.out.cell hq2, HAll.out.2.1]; rfl
  | true =>
    have hq2 : q.block < (w.setCell q (.int .i64 ((k : Int) + 1))).heap.size := by rw [HAll.out.2.2.2.1]; exact HQ.out.2
    have e : mayE (.mk d l) dep k = mayEL l (dep + 1) (k + 1) := by unfold mayE; rw [if_neg (by have := HK.out; omega), if_pos hfb]
    have hb3 : Below w0.heap.size w0 w2 := HAll.out.1.trans (HF2.out.mono (by rw [HAll.out.2.2.2.1]; exact Nat.le_of_lt (Nat.lt_of_le_of_lt HQ.out.1 HQ.out.2)))
    have hc3 : w2.cell? q = some (.int .i64 ((k + 1 : Nat) : Int)) := by rw [HF2.out.cell hq2, HAll.out.2.1]; rfl
    have hf3 : w2.frozen? q = false := (HF2.out.frozen hq2).trans HAll.out.2.2.1
    have hs3 : w.heap.size ≤ w2.heap.size := by have := HF2.out.size; rw [HAll.out.2.2.2.1] at this; exact this
    have HE := Lib.hid (And.intro e (And.intro hb3 (And.intro hc3 (And.intro hf3 hs3))))
    have c7 := (HAll.out.2.2.2.2.1.lower hb3).c7
    clear e hfb hb3 hc3 hf3 hs3 hq2
    go_wp2_with fail
    clear c7
    go_loopw [31] (fun i wr => ∃ m j : Nat, i = .int .i64 m ∧ m ≤ d.pn ∧ mayEL (l.take m) (dep + 1) (k + 1) = some j ∧ wr.cell? q = some (.int .i64 j) ∧ wr.frozen? q = false ∧ Below w0.heap.size w0 wr ∧ w.heap.size ≤ wr.heap.size) (fun i _ => d.pn - (intOf i).toNat)
    case atStart => exact ⟨0, k + 1, rfl, Nat.zero_le _, by simp [mayEL], HE.out.2.2.1, HE.out.2.2.2.1, HE.out.2.1, HE.out.2.2.2.2⟩
    case round =>
      obtain ⟨m, j, rfl, hm, hLL, hcj, hfj, hbj, hsj⟩ := hrel
      have HJ := Lib.hid (And.intro hLL (And.intro hcj (And.intro hfj (And.intro hbj hsj))))
      clear hLL hcj hfj hbj hsj
      by_cases hlt : m < d.pn
      · have hml : m < l.length := by rw [HAll.out.2.2.2.2.2.2]; exact hlt
        obtain ⟨pb, po, hpA, hAtP⟩ := HAll.out.2.2.2.2.2.1.part (k := m) hml
        have hpA' : d.pA = some ⟨pb, po, none⟩ := hpA
        have hAtM : (l[m]).d.At w0 pb (po + m * 8) := hAtP m hml
        have c7 := (HAll.out.2.2.2.2.1.lower HJ.out.2.2.2.1).c7
        rw [hpA'] at c7
        have hlti : (m : Int) < (d.pn : Int) := by omega
        have hmi : (m : Int) ≤ 9223372036854775806 := by have := HCAP.out.2.2.1.2.2; omega
        have hk1 : k + 1 ≤ 1500 := by omega
        have hj4 := (mayEL_le _ _ _ _ HJ.out.1).2 hk1
        obtain ⟨x, hx⟩ : ∃ x, l[m] = x := ⟨_, rfl⟩
        rw [hx] at hAtM
        have hxm : x ∈ l := by rw [← hx]; exact List.getElem_mem hml
        have htk : l.take (m + 1) = l.take m ++ [x] := by rw [List.take_succ_eq_append_getElem hml, hx]
        have HM := Lib.hid (HIH.out.2 x hxm pb (po + m * 8) (dep + 1) q j wr hAtM HJ.out.2.2.2.1 HQ.out.1 HJ.out.2.1 HJ.out.2.2.1 hj4 (by have := HK.out.2; omega))
        rw [show ((dep + 1 : Nat) : Int) = (dep : Int) + 1 from by omega] at HM
        have HS := Lib.hid htk
        clear hpA hpA' hAtP hAtM hx hxm htk hml hk1 hj4
        go_wp2_with fail
        refine HM.out.mono ?_
        rintro e w3 ⟨rfl, hb3, hs3, hf3, j3, hc3, hj3⟩
        have H3 := Lib.hid (And.intro hb3 (And.intro hs3 (And.intro hf3 (And.intro hc3 hj3))))
        clear HM hb3 hs3 hf3 hc3 hj3
        have hsn : mayEL (l.take (m + 1)) (dep + 1) (k + 1) = mayE x (dep + 1) j := by
          rw [HS.out, mayEL_snoc, HJ.out.1]
        have HN := Lib.hid hsn
        clear hsn
        cases hmf : mayE x (dep + 1) j with
        | none =>
          have he : mayEL l (dep + 1) (k + 1) = none := mayEL_take_none (i := m + 1) (by rw [HN.out, hmf])
          have HE2 := Lib.hid he
          clear he hmf
          go_wp2_with fail
          go_returns
          exact ⟨by rw [HE.out.1, HE2.out]; rfl, H3.out.1, Nat.le_trans HJ.out.2.2.2.2 H3.out.2.1, H3.out.2.2.1, j3, H3.out.2.2.2.1, fun y hy => by rw [HE.out.1, HE2.out] at hy; cases hy⟩
        | some j4 =>
          have hj34 : j3 = j4 := H3.out.2.2.2.2 j4 hmf
          have HE2 := Lib.hid (And.intro hj34 hmf)
          clear hj34 hmf
          go_wp2_with fail
          go_roundw
          case rel => exact ⟨m + 1, j4, by go_num, hlt, by rw [HN.out, HE2.out.2], by rw [← HE2.out.1]; exact H3.out.2.2.2.1, H3.out.2.2.1, H3.out.1, Nat.le_trans HJ.out.2.2.2.2 H3.out.2.1⟩
          case measure => simp [intOf] <;> omega
      · have hlti : ¬ (m : Int) < (d.pn : Int) := by omega
        go_wp2_with fail
        go_returns
        have hmm : l.take m = l := List.take_of_length_le (by rw [HAll.out.2.2.2.2.2.2]; omega)
        have hLL := HJ.out.1
        rw [hmm] at hLL
        exact ⟨by rw [HE.out.1, hLL]; rfl, HJ.out.2.2.2.1, HJ.out.2.2.2.2, HJ.out.2.2.1, j, HJ.out.2.1, fun x hx => by rw [HE.out.1, hLL] at hx; exact Option.some.inj hx⟩

/-- May: whether an expression may be. -/
theorem may_any (t : Ex) (w : World) (hL : Lay w) (hIn : t.In w) :
    Calls Tryz.prog 9 #[.agg t.d.arr] w fun e w' => e = .returned (.bool (mayE t 1 0).isSome) ∧ Below w.heap.size w w' := by
  have hb1 : Below w.heap.size w (w.alloc (.cells t.d.arr 25)) := (Below.refl _ _).alloc (Nat.le_refl _) _
  have hb2 : Below (w.alloc (.cells t.d.arr 25)).heap.size (w.alloc (.cells t.d.arr 25)) ((w.alloc (.cells t.d.arr 25)).alloc (.cells #[.int .i64 0] 3)) := (Below.refl _ _).alloc (Nat.le_refl _) _
  have HM := Lib.hid (mayBe_any _ (hL.below hb1) t (hIn.lower hb1) w.heap.size 0 1 ⟨w.heap.size + 1, 0, none⟩ 0 _ (ex_box w t.d) hb2 (by simp) (by simp [World.cell?_alloc_at]) (by simp) (by omega) (by omega))
  have HB := Lib.hid hb1
  clear hb1 hb2 hL hIn
  go_enter Tryz.func9, Tryz.ntmps9
  go_wp2_with fail
  refine HM.out.mono ?_
  rintro e w' ⟨rfl, hb, _⟩
  go_wp2_with fail
  go_returns
  exact ⟨rfl, HB.out.trans (hb.mono (by simp))⟩
end Go.Proofs.YtaglmmcjhlehjaaGreatDoor

namespace Go.Proofs.YtaglmmcjhlehjaaGreatDoor
open Go.ChangeShapes Go.WideShapes Go.ChangeAt Go.RowKit Go.Sort
set_option linter.unusedVariables false
set_option linter.unusedSimpArgs false


set_option maxRecDepth 100000 in
set_option maxHeartbeats 2000000 in
theorem whole_8 (w0 : World) (d : ExD) (wt : Nat) (hk : d.kind = 8) (r : Str) (HF : FunAt 60 w0 d wt r) : FunAt 34 w0 d wt r := by
  intro b b' o' acc w hAt hst hlen
  have H0 := Lib.hid hst
  have HA := Lib.hid hAt
  have HL := Lib.hid hlen
  have HE := Lib.hid (fun W (h : Below w0.heap.size w0 W) => hAt.lower h)
  obtain ⟨c0, c1, c2, c3, c4, c5, c6, c7⟩ := hAt.lower hst.all
  have q1 : (d.kind == 1) = false := by rw [hk]; rfl
  have q2 : (d.kind == 2) = false := by rw [hk]; rfl
  have q3 : (d.kind == 3) = false := by rw [hk]; rfl
  have q22 : (d.kind == 22) = false := by rw [hk]; rfl
  have q8 : (d.kind == 8) = true := by rw [hk]; rfl
  have HF := Lib.hid HF
  clear hAt hst hlen hk
  go_enter Tryz.func34, Tryz.ntmps34
  go_wp2_with fail
  refine (HF.out.step H0.out HA.out HL.out).mono ?_
  rintro e v1 ⟨rfl, hs1⟩
  have H1 := Lib.hid hs1
  clear hs1 c0 c1 c2 c3 c4 c5 c6 c7
  go_wp2_with fail
  go_end0
  exact ⟨rfl, H1.out⟩

set_option maxRecDepth 100000 in
set_option maxHeartbeats 2000000 in
theorem whole_10 (w0 : World) (d : ExD) (wt : Nat) (hk : d.kind = 10) (r : Str) (HF : FunAt 60 w0 d wt r) : FunAt 34 w0 d wt r := by
  intro b b' o' acc w hAt hst hlen
  have H0 := Lib.hid hst
  have HA := Lib.hid hAt
  have HL := Lib.hid hlen
  have HE := Lib.hid (fun W (h : Below w0.heap.size w0 W) => hAt.lower h)
  obtain ⟨c0, c1, c2, c3, c4, c5, c6, c7⟩ := hAt.lower hst.all
  have q1 : (d.kind == 1) = false := by rw [hk]; rfl
  have q2 : (d.kind == 2) = false := by rw [hk]; rfl
  have q3 : (d.kind == 3) = false := by rw [hk]; rfl
  have q22 : (d.kind == 22) = false := by rw [hk]; rfl
  have q8 : (d.kind == 8) = false := by rw [hk]; rfl
  have q10 : (d.kind == 10) = true := by rw [hk]; rfl
  have HF := Lib.hid HF
  clear hAt hst hlen hk
  go_enter Tryz.func34, Tryz.ntmps34
  go_wp2_with fail
  refine (HF.out.step H0.out HA.out HL.out).mono ?_
  rintro e v1 ⟨rfl, hs1⟩
  have H1 := Lib.hid hs1
  clear hs1 c0 c1 c2 c3 c4 c5 c6 c7
  go_wp2_with fail
  go_end0
  exact ⟨rfl, H1.out⟩

set_option maxRecDepth 100000 in
set_option maxHeartbeats 2000000 in
theorem whole_12 (w0 : World) (d : ExD) (wt : Nat) (hk : d.kind = 12) (r : Str) (HF : FunAt 60 w0 d wt r) : FunAt 34 w0 d wt r := by
  intro b b' o' acc w hAt hst hlen
  have H0 := Lib.hid hst
  have HA := Lib.hid hAt
  have HL := Lib.hid hlen
  have HE := Lib.hid (fun W (h : Below w0.heap.size w0 W) => hAt.lower h)
  obtain ⟨c0, c1, c2, c3, c4, c5, c6, c7⟩ := hAt.lower hst.all
  have q1 : (d.kind == 1) = false := by rw [hk]; rfl
  have q2 : (d.kind == 2) = false := by rw [hk]; rfl
  have q3 : (d.kind == 3) = false := by rw [hk]; rfl
  have q22 : (d.kind == 22) = false := by rw [hk]; rfl
  have q8 : (d.kind == 8) = false := by rw [hk]; rfl
  have q10 : (d.kind == 10) = false := by rw [hk]; rfl
  have q12 : (d.kind == 12) = true := by rw [hk]; rfl
  have HF := Lib.hid HF
  clear hAt hst hlen hk
  go_enter Tryz.func34, Tryz.ntmps34
  go_wp2_with fail
  refine (HF.out.step H0.out HA.out HL.out).mono ?_
  rintro e v1 ⟨rfl, hs1⟩
  have H1 := Lib.hid hs1
  clear hs1 c0 c1 c2 c3 c4 c5 c6 c7
  go_wp2_with fail
  go_end0
  exact ⟨rfl, H1.out⟩

set_option maxRecDepth 100000 in
set_option maxHeartbeats 2000000 in
theorem whole_4 (w0 : World) (d : ExD) (wt : Nat) (hk : d.kind = 4) (r : Str) (HF : FunAt 61 w0 d wt r) : FunAt 34 w0 d wt r := by
  intro b b' o' acc w hAt hst hlen
  have H0 := Lib.hid hst
  have HA := Lib.hid hAt
  have HL := Lib.hid hlen
  have HE := Lib.hid (fun W (h : Below w0.heap.size w0 W) => hAt.lower h)
  obtain ⟨c0, c1, c2, c3, c4, c5, c6, c7⟩ := hAt.lower hst.all
  have q1 : (d.kind == 1) = false := by rw [hk]; rfl
  have q2 : (d.kind == 2) = false := by rw [hk]; rfl
  have q3 : (d.kind == 3) = false := by rw [hk]; rfl
  have q22 : (d.kind == 22) = false := by rw [hk]; rfl
  have q8 : (d.kind == 8) = false := by rw [hk]; rfl
  have q10 : (d.kind == 10) = false := by rw [hk]; rfl
  have q12 : (d.kind == 12) = false := by rw [hk]; rfl
  have q4 : (d.kind == 4) = true := by rw [hk]; rfl
  have HF := Lib.hid HF
  clear hAt hst hlen hk
  go_enter Tryz.func34, Tryz.ntmps34
  go_wp2_with fail
  refine (HF.out.step H0.out HA.out HL.out).mono ?_
  rintro e v1 ⟨rfl, hs1⟩
  have H1 := Lib.hid hs1
  clear hs1 c0 c1 c2 c3 c4 c5 c6 c7
  go_wp2_with fail
  go_end0
  exact ⟨rfl, H1.out⟩

set_option maxRecDepth 100000 in
set_option maxHeartbeats 2000000 in
theorem whole_6 (w0 : World) (d : ExD) (wt : Nat) (hk : d.kind = 6) (r : Str) (HF : FunAt 61 w0 d wt r) : FunAt 34 w0 d wt r := by
  intro b b' o' acc w hAt hst hlen
  have H0 := Lib.hid hst
  have HA := Lib.hid hAt
  have HL := Lib.hid hlen
  have HE := Lib.hid (fun W (h : Below w0.heap.size w0 W) => hAt.lower h)
  obtain ⟨c0, c1, c2, c3, c4, c5, c6, c7⟩ := hAt.lower hst.all
  have q1 : (d.kind == 1) = false := by rw [hk]; rfl
  have q2 : (d.kind == 2) = false := by rw [hk]; rfl
  have q3 : (d.kind == 3) = false := by rw [hk]; rfl
  have q22 : (d.kind == 22) = false := by rw [hk]; rfl
  have q8 : (d.kind == 8) = false := by rw [hk]; rfl
  have q10 : (d.kind == 10) = false := by rw [hk]; rfl
  have q12 : (d.kind == 12) = false := by rw [hk]; rfl
  have q4 : (d.kind == 4) = false := by rw [hk]; rfl
  have q6 : (d.kind == 6) = true := by rw [hk]; rfl
  have HF := Lib.hid HF
  clear hAt hst hlen hk
  go_enter Tryz.func34, Tryz.ntmps34
  go_wp2_with fail
  refine (HF.out.step H0.out HA.out HL.out).mono ?_
  rintro e v1 ⟨rfl, hs1⟩
  have H1 := Lib.hid hs1
  clear hs1 c0 c1 c2 c3 c4 c5 c6 c7
  go_wp2_with fail
  go_end0
  exact ⟨rfl, H1.out⟩

set_option maxRecDepth 100000 in
set_option maxHeartbeats 2000000 in
theorem whole_7 (w0 : World) (d : ExD) (wt : Nat) (hk : d.kind = 7) (r : Str) (HF : FunAt 61 w0 d wt r) : FunAt 34 w0 d wt r := by
  intro b b' o' acc w hAt hst hlen
  have H0 := Lib.hid hst
  have HA := Lib.hid hAt
  have HL := Lib.hid hlen
  have HE := Lib.hid (fun W (h : Below w0.heap.size w0 W) => hAt.lower h)
  obtain ⟨c0, c1, c2, c3, c4, c5, c6, c7⟩ := hAt.lower hst.all
  have q1 : (d.kind == 1) = false := by rw [hk]; rfl
  have q2 : (d.kind == 2) = false := by rw [hk]; rfl
  have q3 : (d.kind == 3) = false := by rw [hk]; rfl
  have q22 : (d.kind == 22) = false := by rw [hk]; rfl
  have q8 : (d.kind == 8) = false := by rw [hk]; rfl
  have q10 : (d.kind == 10) = false := by rw [hk]; rfl
  have q12 : (d.kind == 12) = false := by rw [hk]; rfl
  have q4 : (d.kind == 4) = false := by rw [hk]; rfl
  have q6 : (d.kind == 6) = false := by rw [hk]; rfl
  have q7 : (d.kind == 7) = true := by rw [hk]; rfl
  have HF := Lib.hid HF
  clear hAt hst hlen hk
  go_enter Tryz.func34, Tryz.ntmps34
  go_wp2_with fail
  refine (HF.out.step H0.out HA.out HL.out).mono ?_
  rintro e v1 ⟨rfl, hs1⟩
  have H1 := Lib.hid hs1
  clear hs1 c0 c1 c2 c3 c4 c5 c6 c7
  go_wp2_with fail
  go_end0
  exact ⟨rfl, H1.out⟩

set_option maxRecDepth 100000 in
set_option maxHeartbeats 2000000 in
theorem whole_15 (w0 : World) (d : ExD) (wt : Nat) (hk : d.kind = 15) (r : Str) (HF : FunAt 61 w0 d wt r) : FunAt 34 w0 d wt r := by
  intro b b' o' acc w hAt hst hlen
  have H0 := Lib.hid hst
  have HA := Lib.hid hAt
  have HL := Lib.hid hlen
  have HE := Lib.hid (fun W (h : Below w0.heap.size w0 W) => hAt.lower h)
  obtain ⟨c0, c1, c2, c3, c4, c5, c6, c7⟩ := hAt.lower hst.all
  have q1 : (d.kind == 1) = false := by rw [hk]; rfl
  have q2 : (d.kind == 2) = false := by rw [hk]; rfl
  have q3 : (d.kind == 3) = false := by rw [hk]; rfl
  have q22 : (d.kind == 22) = false := by rw [hk]; rfl
  have q8 : (d.kind == 8) = false := by rw [hk]; rfl
  have q10 : (d.kind == 10) = false := by rw [hk]; rfl
  have q12 : (d.kind == 12) = false := by rw [hk]; rfl
  have q4 : (d.kind == 4) = false := by rw [hk]; rfl
  have q6 : (d.kind == 6) = false := by rw [hk]; rfl
  have q7 : (d.kind == 7) = false := by rw [hk]; rfl
  have q15 : (d.kind == 15) = true := by rw [hk]; rfl
  have HF := Lib.hid HF
  clear hAt hst hlen hk
  go_enter Tryz.func34, Tryz.ntmps34
  go_wp2_with fail
  refine (HF.out.step H0.out HA.out HL.out).mono ?_
  rintro e v1 ⟨rfl, hs1⟩
  have H1 := Lib.hid hs1
  clear hs1 c0 c1 c2 c3 c4 c5 c6 c7
  go_wp2_with fail
  go_end0
  exact ⟨rfl, H1.out⟩

set_option maxRecDepth 100000 in
set_option maxHeartbeats 2000000 in
theorem whole_14 (w0 : World) (d : ExD) (wt : Nat) (hk : d.kind = 14) (r : Str) (HF : FunAt 61 w0 d wt r) : FunAt 34 w0 d wt r := by
  intro b b' o' acc w hAt hst hlen
  have H0 := Lib.hid hst
  have HA := Lib.hid hAt
  have HL := Lib.hid hlen
  have HE := Lib.hid (fun W (h : Below w0.heap.size w0 W) => hAt.lower h)
  obtain ⟨c0, c1, c2, c3, c4, c5, c6, c7⟩ := hAt.lower hst.all
  have q1 : (d.kind == 1) = false := by rw [hk]; rfl
  have q2 : (d.kind == 2) = false := by rw [hk]; rfl
  have q3 : (d.kind == 3) = false := by rw [hk]; rfl
  have q22 : (d.kind == 22) = false := by rw [hk]; rfl
  have q8 : (d.kind == 8) = false := by rw [hk]; rfl
  have q10 : (d.kind == 10) = false := by rw [hk]; rfl
  have q12 : (d.kind == 12) = false := by rw [hk]; rfl
  have q4 : (d.kind == 4) = false := by rw [hk]; rfl
  have q6 : (d.kind == 6) = false := by rw [hk]; rfl
  have q7 : (d.kind == 7) = false := by rw [hk]; rfl
  have q15 : (d.kind == 15) = false := by rw [hk]; rfl
  have q14 : (d.kind == 14) = true := by rw [hk]; rfl
  have HF := Lib.hid HF
  clear hAt hst hlen hk
  go_enter Tryz.func34, Tryz.ntmps34
  go_wp2_with fail
  refine (HF.out.step H0.out HA.out HL.out).mono ?_
  rintro e v1 ⟨rfl, hs1⟩
  have H1 := Lib.hid hs1
  clear hs1 c0 c1 c2 c3 c4 c5 c6 c7
  go_wp2_with fail
  go_end0
  exact ⟨rfl, H1.out⟩

set_option maxRecDepth 100000 in
set_option maxHeartbeats 2000000 in
theorem whole_0 (w0 : World) (d : ExD) (wt : Nat) (hk : ¬ (d.kind = 1 ∨ d.kind = 2 ∨ d.kind = 3 ∨ d.kind = 22 ∨ d.kind = 8 ∨ d.kind = 10 ∨ d.kind = 12 ∨ d.kind = 4 ∨ d.kind = 6 ∨ d.kind = 7 ∨ d.kind = 15 ∨ d.kind = 14)) (r : Str) (HF : FunAt 62 w0 d wt r) : FunAt 34 w0 d wt r := by
  intro b b' o' acc w hAt hst hlen
  have H0 := Lib.hid hst
  have HA := Lib.hid hAt
  have HL := Lib.hid hlen
  have HE := Lib.hid (fun W (h : Below w0.heap.size w0 W) => hAt.lower h)
  obtain ⟨c0, c1, c2, c3, c4, c5, c6, c7⟩ := hAt.lower hst.all
  have q1 : (d.kind == 1) = false := by simpa using (show ¬ d.kind = 1 by omega)
  have q2 : (d.kind == 2) = false := by simpa using (show ¬ d.kind = 2 by omega)
  have q3 : (d.kind == 3) = false := by simpa using (show ¬ d.kind = 3 by omega)
  have q22 : (d.kind == 22) = false := by simpa using (show ¬ d.kind = 22 by omega)
  have q8 : (d.kind == 8) = false := by simpa using (show ¬ d.kind = 8 by omega)
  have q10 : (d.kind == 10) = false := by simpa using (show ¬ d.kind = 10 by omega)
  have q12 : (d.kind == 12) = false := by simpa using (show ¬ d.kind = 12 by omega)
  have q4 : (d.kind == 4) = false := by simpa using (show ¬ d.kind = 4 by omega)
  have q6 : (d.kind == 6) = false := by simpa using (show ¬ d.kind = 6 by omega)
  have q7 : (d.kind == 7) = false := by simpa using (show ¬ d.kind = 7 by omega)
  have q15 : (d.kind == 15) = false := by simpa using (show ¬ d.kind = 15 by omega)
  have q14 : (d.kind == 14) = false := by simpa using (show ¬ d.kind = 14 by omega)
  have HF := Lib.hid HF
  clear hAt hst hlen hk
  go_enter Tryz.func34, Tryz.ntmps34
  go_wp2_with fail
  refine (HF.out.step H0.out HA.out HL.out).mono ?_
  rintro e v1 ⟨rfl, hs1⟩
  have H1 := Lib.hid hs1
  clear hs1 c0 c1 c2 c3 c4 c5 c6 c7
  go_wp2_with fail
  go_end0
  exact ⟨rfl, H1.out⟩

set_option maxRecDepth 100000 in
set_option maxHeartbeats 2000000 in
theorem whole_1 (w0 : World) (d : ExD) (wt : Nat) (hk : d.kind = 1) (hT : Tab w0) (h0 : 0 ≤ d.n) (h1 : d.n ≤ 9223372036854775807) (hw : 40 ≤ wt) : FunAt 34 w0 d wt (Lib.itoa d.n) := by
  intro b b' o' acc w hAt hst hlen
  have H0 := Lib.hid hst
  have HA := Lib.hid hAt
  have HL := Lib.hid hlen
  have HE := Lib.hid (fun W (h : Below w0.heap.size w0 W) => hAt.lower h)
  obtain ⟨c0, c1, c2, c3, c4, c5, c6, c7⟩ := hAt.lower hst.all
  have q1 : (d.kind == 1) = true := by rw [hk]; rfl
  have HC := Lib.hid (Tryz.strconv_FormatInt_10 d.n (by omega) h1 w (tab_below hT hst.all))
  have HI := Lib.hid (itoa_le d.n h0 h1)
  have HLW := Lib.hid hw
  clear hAt hst hlen hk hT h0 h1 hw
  obtain ⟨I, hI⟩ : ∃ I, Lib.itoa d.n = I := ⟨_, rfl⟩
  rw [hI] at HC HI ⊢
  clear hI
  go_enter Tryz.func34, Tryz.ntmps34
  go_wp2_with fail
  refine HC.out.mono ?_
  rintro e v1 ⟨rfl, k, os, hw1⟩
  have H1 := Lib.hid (show St w0 b acc w v1 from H0.out.below (by rw [hw1]; exact below_growN k os))
  clear hw1 HC c0 c1 c2 c3 c4 c5 c6 c7
  go_wp2_with fail
  refine (H1.out.say [I] (by have h := HL.out; have h2 := HI.out; have h3 := HLW.out; simp only [List.flatten_cons, List.flatten_nil, List.append_nil]; omega) (by simp) 1 rfl _ rfl).mono ?_
  rintro e v2 ⟨rfl, hs2⟩
  have H2 := Lib.hid hs2
  clear hs2
  go_wp2_with fail
  go_end0
  exact ⟨rfl, by have h := H2.out; simpa using h⟩

set_option maxRecDepth 100000 in
set_option maxHeartbeats 2000000 in
theorem whole_2 (w0 : World) (d : ExD) (wt : Nat) (hk : d.kind = 2) (q : Str) (hq : quoteS d.s = some q) (hs : d.s.length ≤ 3000000) (hw : q.length ≤ wt) : FunAt 34 w0 d wt q := by
  intro b b' o' acc w hAt hst hlen
  have H0 := Lib.hid hst
  have HA := Lib.hid hAt
  have HL := Lib.hid hlen
  have HE := Lib.hid (fun W (h : Below w0.heap.size w0 W) => hAt.lower h)
  obtain ⟨c0, c1, c2, c3, c4, c5, c6, c7⟩ := hAt.lower hst.all
  have q1 : (d.kind == 1) = false := by rw [hk]; rfl
  have q2 : (d.kind == 2) = true := by rw [hk]; rfl
  have HC := Lib.hid (quote_all d.s w (by omega))
  have HQ := Lib.hid hq
  have HLW := Lib.hid hw
  clear hAt hst hlen hk hq hs hw
  go_enter Tryz.func34, Tryz.ntmps34
  go_wp2_with fail
  refine HC.out.mono ?_
  rintro e v1 hres
  unfold QuoteRes at hres
  rw [HQ.out] at hres
  obtain ⟨rfl, hb1⟩ := hres
  have H1 := Lib.hid (show St w0 b acc w v1 from H0.out.below hb1)
  clear hb1 HC c0 c1 c2 c3 c4 c5 c6 c7
  go_wp2_with fail
  refine (H1.out.say [q] (by have h := HL.out; have h3 := HLW.out; simp only [List.flatten_cons, List.flatten_nil, List.append_nil]; omega) (by simp) 1 rfl _ rfl).mono ?_
  rintro e v2 ⟨rfl, hs2⟩
  have H2 := Lib.hid hs2
  clear hs2
  go_wp2_with fail
  go_end0
  exact ⟨rfl, by have h := H2.out; simpa using h⟩

set_option maxRecDepth 100000 in
set_option maxHeartbeats 2000000 in
theorem whole_3 (w0 : World) (d : ExD) (wt : Nat) (hk : d.kind = 3) (hw : d.s.length ≤ wt) : FunAt 34 w0 d wt d.s := by
  intro b b' o' acc w hAt hst hlen
  have H0 := Lib.hid hst
  have HA := Lib.hid hAt
  have HL := Lib.hid hlen
  have HE := Lib.hid (fun W (h : Below w0.heap.size w0 W) => hAt.lower h)
  obtain ⟨c0, c1, c2, c3, c4, c5, c6, c7⟩ := hAt.lower hst.all
  have q1 : (d.kind == 1) = false := by rw [hk]; rfl
  have q2 : (d.kind == 2) = false := by rw [hk]; rfl
  have q3 : (d.kind == 3) = true := by rw [hk]; rfl
  have HLW := Lib.hid hw
  clear hAt hst hlen hk hw
  go_enter Tryz.func34, Tryz.ntmps34
  go_wp2_with fail
  refine (H0.out.say [d.s] (by have h := HL.out; have h3 := HLW.out; simp only [List.flatten_cons, List.flatten_nil, List.append_nil, List.length_cons, List.length_nil]; omega) (by simp) 1 rfl _ rfl).mono ?_
  rintro e v2 ⟨rfl, hs2⟩
  have H2 := Lib.hid hs2
  clear hs2 c0 c1 c2 c3 c4 c5 c6 c7
  go_wp2_with fail
  go_end0
  exact ⟨rfl, by have h := H2.out; simpa using h⟩

set_option maxRecDepth 100000 in
set_option maxHeartbeats 2000000 in
theorem whole_22 (w0 : World) (d : ExD) (wt : Nat) (hk : d.kind = 22) (hw : 4 ≤ wt) : FunAt 34 w0 d wt [114, 101, 97, 100] := by
  intro b b' o' acc w hAt hst hlen
  have H0 := Lib.hid hst
  have HA := Lib.hid hAt
  have HL := Lib.hid hlen
  have HE := Lib.hid (fun W (h : Below w0.heap.size w0 W) => hAt.lower h)
  obtain ⟨c0, c1, c2, c3, c4, c5, c6, c7⟩ := hAt.lower hst.all
  have q1 : (d.kind == 1) = false := by rw [hk]; rfl
  have q2 : (d.kind == 2) = false := by rw [hk]; rfl
  have q3 : (d.kind == 3) = false := by rw [hk]; rfl
  have q22 : (d.kind == 22) = true := by rw [hk]; rfl
  have HLW := Lib.hid hw
  clear hAt hst hlen hk hw
  go_enter Tryz.func34, Tryz.ntmps34
  go_wp2_with fail
  refine (H0.out.say [[114, 101, 97, 100]] (by have h := HL.out; have h3 := HLW.out; simp only [List.flatten_cons, List.flatten_nil, List.append_nil, List.length_cons, List.length_nil]; omega) (by simp) 1 rfl _ rfl).mono ?_
  rintro e v2 ⟨rfl, hs2⟩
  have H2 := Lib.hid hs2
  clear hs2 c0 c1 c2 c3 c4 c5 c6 c7
  go_wp2_with fail
  go_end0
  exact ⟨rfl, by have h := H2.out; simpa using h⟩

theorem whole_any (w0 : World) (hT : Tab w0) : ∀ (e : Ex), e.In w0 → e.fineE = true → e.Rg → e.Sm → WholeAt w0 e
  | .mk d l, hI, hf, hr, hm => by
    have hF := fields_of (fine_own hf)
    have WW : ∀ x ∈ l, WholeAt w0 x := fun x hx => whole_any w0 hT x (hI.sub x hx) (fine_sub hf x hx) (hr.sub x hx) (hm.sub x hx)
    have LL : ∀ x ∈ l, x.sh.length + 2 ≤ x.wt := fun x hx => sh_le w0 x (hI.sub x hx) (fine_sub hf x hx) (hr.sub x hx)
    have hlen : l.length = d.pn := hI.len
    have hs : d.s.length ≤ 3000000 := hm.s
    have ho := own_ge d
    have hwt : (Ex.mk d l).wt = d.own + wtL l := rfl
    show FunAt _ w0 d (Ex.mk d l).wt (Ex.mk d l).sh
    rw [sh_mk]
    have h30 : d.kind = 8 ∨ d.kind = 14 → d.ln ≤ 30 := by
      intro hk
      have h3 := hF.lists
      have hll : d.labels.length = d.ln := hI.labLen
      unfold ExD.listsB at h3
      rcases hk with hk | hk
      · rw [if_pos hk] at h3
        simp only [Bool.and_eq_true, decide_eq_true_eq] at h3
        have := labB_len h3.1
        omega
      · rw [if_neg (by omega), if_pos hk] at h3
        simp only [Bool.and_eq_true, decide_eq_true_eq] at h3
        have := labB_len h3.1.1.1
        omega
    rcases kinds_of hF with k | k | k | k | k | k | k
    · unfold ExD.shF; rw [if_pos k]
      exact whole_1 w0 d _ k hT (hF.n0 k) hr.n (by rw [hwt]; omega)
    · unfold ExD.shF; rw [if_neg (by omega), if_pos k]
      have h1 := hF.s
      unfold ExD.sB at h1
      rw [if_neg (by omega), if_neg (by omega), if_pos k] at h1
      obtain ⟨q, hq⟩ := Option.isSome_iff_exists.1 h1
      have h2 := quote_le d.s
      rw [hq] at h2 ⊢
      simp only [Option.getD_some] at h2 ⊢
      exact whole_2 w0 d _ k q hq hs (by rw [hwt]; omega)
    · unfold ExD.shF; rw [if_neg (by omega), if_neg (by omega), if_pos k]
      exact whole_3 w0 d _ k (by rw [hwt]; omega)
    · unfold ExD.shF; rw [if_neg (by omega), if_neg (by omega), if_neg (by omega), if_pos k]
      exact whole_22 w0 d _ k (by rw [hwt]; omega)
    · have hb := k
      unfold braceB at k
      have k := of_decide_eq_true k
      unfold ExD.shF
      rw [if_neg (by omega), if_neg (by omega), if_neg (by omega), if_neg (by omega), if_pos hb]
      unfold ExD.bracesF
      rcases k with k | k | k
      · rw [if_pos k]
        exact whole_8 w0 d _ k _ (braces_8 w0 d l hI k (parts_rec hF k).1 (h30 (.inl k)) WW LL)
      · obtain ⟨a, c, rfl, hp⟩ := parts_two hF hlen (by omega)
        rw [if_neg (by omega), if_pos k]
        exact whole_10 w0 d _ k _ (braces_10 w0 d a c hI k hp (LL a (by simp)) (WW a (by simp)) (LL c (by simp)) (WW c (by simp)))
      · obtain ⟨a, c, rfl, hp⟩ := parts_two hF hlen (by omega)
        rw [if_neg (by omega), if_neg (by omega)]
        exact whole_12 w0 d _ k _ (braces_12 w0 d a c hI k hp (LL a (by simp)) (WW a (by simp)) (LL c (by simp)) (WW c (by simp)))
    · have hb := k
      unfold blockB at k
      have k := of_decide_eq_true k
      have nb : ¬ braceB d.kind = true := by unfold braceB; rw [decide_eq_true_eq]; omega
      unfold ExD.shF
      rw [if_neg (by omega), if_neg (by omega), if_neg (by omega), if_neg (by omega), if_neg nb, if_pos hb]
      unfold ExD.blockF
      rcases k with k | k | k | k | k
      · obtain ⟨a, rfl, hp⟩ := parts_one hF hlen (by omega)
        rw [if_pos k]
        exact whole_4 w0 d _ k _ (block_4 w0 d a hI k hp (LL a (by simp)) (WW a (by simp)))
      · obtain ⟨a, c, rfl, hp⟩ := parts_two hF hlen (by omega)
        rw [if_neg (by omega), if_pos k]
        exact whole_6 w0 d _ k _ (block_6 w0 d a c hI k hp (LL a (by simp)) (WW a (by simp)) (LL c (by simp)) (WW c (by simp)))
      · obtain ⟨a, c, rfl, hp⟩ := parts_two hF hlen (by omega)
        rw [if_neg (by omega), if_neg (by omega), if_pos k]
        exact whole_7 w0 d _ k _ (block_7 w0 d a c hI k hp (LL a (by simp)) (WW a (by simp)) (LL c (by simp)) (WW c (by simp)))
      · obtain ⟨a, c, f, rfl, hp⟩ := parts_three hF hlen (by omega)
        rw [if_neg (by omega), if_neg (by omega), if_neg (by omega), if_pos k]
        exact whole_15 w0 d _ k _ (block_15 w0 d a c f hI k hp (LL a (by simp)) (WW a (by simp)) (LL c (by simp)) (WW c (by simp)) (LL f (by simp)) (WW f (by simp)))
      · rw [if_neg (by omega), if_neg (by omega), if_neg (by omega), if_neg (by omega)]
        obtain ⟨h4, h5, h6⟩ := parts_match hF k (by have := h30 (.inr k); omega)
        exact whole_14 w0 d _ k _ (block_14 w0 d _ _ k (match_any w0 d l hI h4 h5 (h30 (.inr k)) WW LL))
    · have nb : ¬ braceB d.kind = true := by unfold braceB; rw [decide_eq_true_eq]; omega
      have nk : ¬ blockB d.kind = true := by unfold blockB; rw [decide_eq_true_eq]; omega
      unfold ExD.shF
      rw [if_neg (by omega), if_neg (by omega), if_neg (by omega), if_neg (by omega), if_neg nb, if_neg nk]
      refine whole_0 w0 d _ (by omega) _ ?_
      rcases k with k | k | k | k | k | k | k | k | k | k
      · obtain ⟨a, rfl, hp⟩ := parts_one hF hlen (by omega)
        exact simple_9 w0 d a hI k hp (by omega) (LL a (by simp)) (WW a (by simp))
      · obtain ⟨a, rfl, hp⟩ := parts_one hF hlen (by omega)
        exact simple_11 w0 d a hI k hp (by omega) (LL a (by simp)) (WW a (by simp))
      · obtain ⟨a, rfl, hp⟩ := parts_one hF hlen (by omega)
        exact simple_0 w0 d a hI (by omega) hp (by omega) (LL a (by simp)) (WW a (by simp))
      · obtain ⟨a, rfl, hp⟩ := parts_one hF hlen (by omega)
        exact simple_0 w0 d a hI (by omega) hp (by omega) (LL a (by simp)) (WW a (by simp))
      · obtain ⟨a, rfl, hp⟩ := parts_one hF hlen (by omega)
        exact simple_0 w0 d a hI (by omega) hp (by omega) (LL a (by simp)) (WW a (by simp))
      · obtain ⟨a, rfl, hp⟩ := parts_one hF hlen (by omega)
        exact simple_0 w0 d a hI (by omega) hp (by omega) (LL a (by simp)) (WW a (by simp))
      · obtain ⟨a, rfl, hp⟩ := parts_one hF hlen (by omega)
        exact simple_0 w0 d a hI (by omega) hp (by omega) (LL a (by simp)) (WW a (by simp))
      · obtain ⟨a, c, rfl, hp⟩ := parts_two hF hlen (by omega)
        exact simple_5 w0 d a c hI k hp (by omega) (LL a (by simp)) (WW a (by simp)) (LL c (by simp)) (WW c (by simp))
      · obtain ⟨a, c, rfl, hp⟩ := parts_two hF hlen (by omega)
        exact simple_16 w0 d a c hI k hp (by omega) (LL a (by simp)) (WW a (by simp)) (LL c (by simp)) (WW c (by simp))
      · obtain ⟨a, c, rfl, hp⟩ := parts_two hF hlen (by omega)
        exact simple_19 w0 d a c hI k hp (by omega) (LL a (by simp)) (WW a (by simp)) (LL c (by simp)) (WW c (by simp))
end Go.Proofs.YtaglmmcjhlehjaaGreatDoor

namespace Go.Proofs.YtaglmmcjhlehjaaGreatDoor
open Go.ChangeShapes Go.WideShapes Go.ChangeAt Go.RowKit Go.Sort
set_option linter.unusedVariables false
set_option linter.unusedSimpArgs false

theorem digits_ne (u : Nat) : Lib.decDigits u ≠ [] := by
  unfold Lib.decDigits
  split <;> simp
theorem itoa_ne (n : Int) : Lib.itoa n ≠ [] := by
  unfold Lib.itoa
  split
  · simp
  · exact digits_ne _
theorem tokB_ne {s : Str} {k : Int} (h : tokB s k = true) : s ≠ [] := by
  rintro rfl
  rw [tokB_nil] at h
  cases h
theorem sh_ne (w : World) : ∀ (e : Ex), e.In w → e.fineE = true → e.sh ≠ []
  | .mk d l, hI, hf => by
    have hF := fields_of (fine_own hf)
    have ih : ∀ x ∈ l, x.sh ≠ [] := fun x hx => sh_ne w x (hI.sub x hx) (fine_sub hf x hx)
    have hlen : l.length = d.pn := hI.len
    have hpa : ∀ x ∈ l, x.pa ≠ [] := fun x hx => by
      have := ih x hx
      unfold Ex.pa brk
      split
      · exact this
      · simp
    rw [sh_mk]
    rcases kinds_of hF with k | k | k | k | k | k | k
    · unfold ExD.shF; rw [if_pos k]; exact itoa_ne _
    · unfold ExD.shF; rw [if_neg (by omega), if_pos k]
      have h1 := hF.s
      unfold ExD.sB at h1
      rw [if_neg (by omega), if_neg (by omega), if_pos k] at h1
      obtain ⟨q, hq⟩ := Option.isSome_iff_exists.1 h1
      rw [hq]
      unfold quoteS at hq
      split at hq
      · cases hq
      · cases hb : qbody d.s with
        | none => rw [hb] at hq; cases hq
        | some b => rw [hb] at hq; simp at hq; subst hq; simp
    · unfold ExD.shF; rw [if_neg (by omega), if_neg (by omega), if_pos k]
      have h1 := hF.s
      unfold ExD.sB at h1
      rw [if_pos (.inl k)] at h1
      exact tokB_ne h1
    · unfold ExD.shF; rw [if_neg (by omega), if_neg (by omega), if_neg (by omega), if_pos k]; simp
    · have hb := k
      unfold braceB at k
      have k := of_decide_eq_true k
      unfold ExD.shF
      rw [if_neg (by omega), if_neg (by omega), if_neg (by omega), if_neg (by omega), if_pos hb]
      simp
    · have hb := k
      unfold blockB at k
      have k := of_decide_eq_true k
      have nb : ¬ braceB d.kind = true := by unfold braceB; rw [decide_eq_true_eq]; omega
      unfold ExD.shF
      rw [if_neg (by omega), if_neg (by omega), if_neg (by omega), if_neg (by omega), if_neg nb, if_pos hb]
      unfold ExD.blockF ExD.matchF
      repeat' split
      all_goals simp
    · have nb : ¬ braceB d.kind = true := by unfold braceB; rw [decide_eq_true_eq]; omega
      have nk : ¬ blockB d.kind = true := by unfold blockB; rw [decide_eq_true_eq]; omega
      unfold ExD.shF
      rw [if_neg (by omega), if_neg (by omega), if_neg (by omega), if_neg (by omega), if_neg nb, if_neg nk]
      by_cases k2 : d.kind = 5 ∨ d.kind = 16 ∨ d.kind = 19
      · obtain ⟨a, c, rfl, _⟩ := parts_two hF hlen (by omega)
        have h1 := hpa a (by simp)
        have e0 : paAt [a, c] 0 = a.pa := rfl
        rw [e0]
        simp [h1]
      · obtain ⟨a, rfl, _⟩ := parts_one hF hlen (by omega)
        have h1 := hpa a (by simp)
        have e0 : paAt [a] 0 = a.pa := rfl
        rw [e0]
        simp [h1]

set_option maxRecDepth 100000 in
set_option maxHeartbeats 2000000 in
theorem string_any (B b : Nat) (l : Str) (w : World) (h : Wd B b l w) (h0 : l ≠ []) :
    Calls Tryz.prog 35 #[.pointer (some ⟨b, 0, none⟩)] w fun e w' => e = .returned (.string (bstr l)) ∧ Below B w w' := by
  obtain ⟨p, hB, v, hbk, hown, hne⟩ : ∃ p, Lib.BuilderAt WT U8 B b p (u8s l) w := by
    rcases h with h | h
    · exact ⟨_, h⟩
    · exact ⟨_, h⟩
  have hl0 : l.length ≠ 0 := by simpa using h0
  rw [u8s_length] at hown
  obtain ⟨g, cap, cur, rfl, hbg, hg, hnc, hcm, hcs, htake⟩ : ∃ g cap cur, v = .slice (some ⟨g, 0, none⟩) l.length cap ∧ B ≤ g ∧ w.heap[g]? = some (.cells cur U8 (0, 0)) ∧ l.length ≤ cap ∧ cap ≤ maxLen ∧ cur.size = cap * 1 ∧ cur.toList.take (l.length * 1) = u8s l := by
    rcases hown.2 with ⟨_, hz⟩ | ⟨g, cap, cur, hv, r⟩
    · exact absurd hz hl0
    · exact ⟨g, cap, cur, hv, r⟩
  have c1 : w.drew.cell? ⟨b, 1, none⟩ = some (.slice (some ⟨g, 0, none⟩) l.length cap) := by
    have : w.drew.heap[b]? = some (.cells #[p, .slice (some ⟨g, 0, none⟩) l.length cap] WT (0, 0)) := hbk
    rw [Lib.cell_of_heap this]; rfl
  have hSD : (Builtin.unsafeSliceData_ #[61] 96 #[.slice (some ⟨g, 0, none⟩) l.length cap]).run Tryz.prog w.drew = .ok (.pointer (some ⟨g, 0, none⟩)) w.drew :=
    Lib.run_unsafeSliceData_row _ _ _ _ _ _ (by omega)
  have hUS : (Builtin.unsafeString_ #[96, 3] 9 #[.pointer (some ⟨g, 0, none⟩), .int .i64 l.length]).run Tryz.prog w.drew = .ok (.string (bstr l)) (w.drew.freeze ⟨g, 0, none⟩ l.length) := by
    refine Lib.run_unsafeString_row w.drew 96 3 9 U8 Tryz.underlying96 (by kernel_rfl) g cur.size (by have hg' : w.drew.heap[g]? = some (.cells cur U8 (0, 0)) := hg; simp [World.shape?, hg']) l h0 (by omega) (by unfold maxLen at hcm; omega) ?_
    intro j x hx
    have hj : j < l.length := (List.getElem?_eq_some_iff.1 hx).1
    have := hown.cells (g := g) rfl j (.int .u8 x.toNat) (by rw [u8s_at l j hj]; rw [List.getElem?_eq_getElem hj] at hx; injection hx with hx; rw [hx])
    exact this
  have HBG := Lib.hid (show Below B w (w.drew.freeze ⟨g, 0, none⟩ l.length) from Lib.below_freeze (Below.drew (Below.refl B w)) (p := ⟨g, 0, none⟩) hbg _)
  clear h hB hbk hown hne hg hnc hcm hcs htake h0 hl0
  go_enter Tryz.func35, Tryz.ntmps35
  go_wp2_with fail
  go_region
  all_goals
    go_wp2_with fail
    go_returns
    exact ⟨rfl, HBG.out⟩

/-- What show.Text comes to. -/
def TextRes (e : Ex) (w : World) (r : Ending) (w' : World) : Prop :=
  ((mayE e 1 0).isSome = true → r = .returned (.tuple #[.string (bstr e.sh), .nilIface])) ∧ ((mayE e 1 0).isSome = false → r = .returned (.tuple #[.string ⟨#[]⟩, .iface 34 (.int .i64 1)])) ∧ Below w.heap.size w w'
set_option maxRecDepth 100000 in
set_option maxHeartbeats 2000000 in
theorem showText_any (e : Ex) (w : World) (hL : Lay w) (hT : Tab w) (hI : e.In w) (hr : e.Rg) (hm : e.Sm) (hw : e.wt ≤ 100000000) :
    Calls Tryz.prog 14 #[.agg e.d.arr] w fun r w' => TextRes e w r w' := by
  obtain ⟨d, hd⟩ : ∃ d, e.d = d := ⟨_, rfl⟩
  have hb1 : Below w.heap.size w (w.alloc (.cells d.arr 25)) := (Below.refl _ _).alloc (Nat.le_refl _) _
  have hE1 := ex_box w d
  have HIN := Lib.hid (hI.lower hb1)
  have HLT := Lib.hid (And.intro (hL.below hb1) (tab_below hT hb1))
  have HX := Lib.hid (And.intro hr (And.intro hm hw))
  have HD := Lib.hid hd
  have HB1 := Lib.hid hb1
  rw [hd]
  clear hL hT hI hr hm hw hd hb1
  go_enter Tryz.func14, Tryz.ntmps14
  go_wp2_with fail
  obtain ⟨bx, hbx⟩ : ∃ bx, w.heap.size = bx := ⟨_, rfl⟩
  rw [hbx] at hE1
  try rw [hbx]
  have HBX := Lib.hid hbx
  clear hbx
  generalize (w.alloc (.cells d.arr 25)) = w1 at *
  have HE := Lib.hid (fun W (h : Below w1.heap.size w1 W) => hE1.lower h)
  obtain ⟨c0, c1, c2, c3, c4, c5, c6, c7⟩ := hE1
  have HM := Lib.hid (may_any e w1 HLT.out.1 HIN.out)
  rw [HD.out] at HM
  go_wp2_with fail
  refine HM.out.mono ?_
  rintro r w2 ⟨rfl, hb2⟩
  have HB2 := Lib.hid hb2
  clear hb2 HM c0 c1 c2 c3 c4 c5 c6 c7
  cases hmay : (mayE e 1 0).isSome with
  | false =>
    have HN := Lib.hid hmay
    clear hmay
    go_wp2_with fail
    go_returns
    exact ⟨fun h => (by rw [HN.out] at h; cases h), fun _ => rfl, below_then HB1.out HB2.out⟩
  | true =>
    have HY := Lib.hid hmay
    have HF := Lib.hid (show e.fineE = true by
      rw [mayE_spec] at hmay
      split at hmay
      · rename_i h; exact h.1
      · cases hmay)
    clear hmay
    have HWH := Lib.hid (whole_any w2 (tab_below HLT.out.2 HB2.out) e (HIN.out.lower HB2.out) HF.out HX.out.1 HX.out.2.1)
    have HS0 := Lib.hid (show St w2 w2.heap.size [] (w2.alloc (.cells #[.pointer none, .slice none 0 0] WT)) (w2.alloc (.cells #[.pointer none, .slice none 0 0] WT)) from ⟨wd_new w2, (Below.refl _ _).alloc (Nat.le_refl _) _, Below.refl _ _, Keeps.refl _⟩)
    have HAT := Lib.hid (show e.d.At w2 bx 0 by rw [HD.out]; exact HE.out w2 HB2.out)
    go_wp2_with fail
    refine (HWH.out.step HS0.out HAT.out (by have := HX.out.2.2; simp only [List.length_nil, CAP]; omega)).mono ?_
    rintro r w3 ⟨rfl, hs3⟩
    have H3 := Lib.hid (show Wd w2.heap.size w2.heap.size e.sh w3 by have := hs3.1; simpa using this)
    have HB3 := Lib.hid (show Below w2.heap.size w2 w3 from hs3.all)
    clear hs3 HWH HS0 HAT
    have HNE := Lib.hid (sh_ne w1 e HIN.out HF.out)
    go_wp2_with fail
    refine (string_any w2.heap.size w2.heap.size e.sh w3 H3.out HNE.out).mono ?_
    rintro r w4 ⟨rfl, hb4⟩
    have HB4 := Lib.hid (below_then HB1.out (below_then HB2.out (HB3.out.trans hb4)))
    clear hb4
    go_wp2_with fail
    go_returns
    exact ⟨fun _ => rfl, fun h => (by rw [HY.out] at h; cases h), HB4.out⟩
end Go.Proofs.YtaglmmcjhlehjaaGreatDoor

namespace Go.Proofs.YtaglmmcjhlehjaaGreatDoor
open Go.ChangeShapes Go.WideShapes Go.ChangeAt Go.RowKit Go.Sort
set_option linter.unusedVariables false
set_option linter.unusedSimpArgs false

theorem elStr : ElemTy Tryz.prog 22 9 (.string ByteArray.empty) 1 16 := ⟨Tryz.underlying22, by kernel_rfl, rfl, by decide, by decide⟩
theorem elBd : ElemTy Tryz.prog 83 85 (.agg #[.string ByteArray.empty, .string ByteArray.empty]) 2 32 := ⟨Tryz.underlying83, by kernel_rfl, rfl, by decide, by decide⟩
theorem elBg : ElemTy Tryz.prog 111 115 (.agg #[.string ByteArray.empty, .string ByteArray.empty]) 2 32 := ⟨Tryz.underlying111, by kernel_rfl, rfl, by decide, by decide⟩
theorem itoa_any (n : Int) (h0 : 0 ≤ n) (h1 : n ≤ 4000000) (w : World) (hL : Tab w) : Calls Tryz.prog 73 #[.int .i64 n] w fun e w' => e = .returned (.string (bstr (Lib.itoa n))) ∧ Below w.heap.size w w' :=
  (Tryz.strconv_Itoa n (by omega) (by omega) w hL).mono fun e w' ⟨he, k, os, hw⟩ => ⟨he, by rw [hw]; exact below_growN k os⟩
def vName (k : Nat) : Str := 118 :: Lib.itoa (k : Nat)
theorem v_add (x : Str) (h : x.length ≤ 30) : ∀ w, (Op.stringOp .add ⟨#[118]⟩ (bstr x)).run Tryz.prog w = .ok (.string (bstr (118 :: x))) w := fun w => by
  have h2 := run_string_add_sum (P := Tryz.prog) (w := w) (bstr [118]) (bstr x) (by rw [bstr_size, bstr_size]; show 1 + x.length ≤ _; omega)
  rw [bstr_app] at h2
  exact h2

theorem set2n {w : World} {B : Nat} {a b x y : Value} (r0 : w.cell? ⟨B, 0, none⟩ = some a) (r1 : w.cell? ⟨B, 1, none⟩ = some b) :
    ((w.setCell ⟨B, 0, none⟩ x).setCell ⟨B, 1, none⟩ y).cell? ⟨B, 0, none⟩ = some x ∧ ((w.setCell ⟨B, 0, none⟩ x).setCell ⟨B, 1, none⟩ y).cell? ⟨B, 1, none⟩ = some y := by
  refine ⟨?_, ?_⟩
  · rw [World.cell?_setCell_other _ _ _ _ (by simp)]; exact World.cell?_setCell_same _ _ _ r0
  · exact World.cell?_setCell_same _ _ _ (by rw [World.cell?_setCell_other _ _ _ _ (by simp)]; exact r1)
theorem frozen_new (w : World) (cs : Array Value) (t : TypeId) (j : Nat) : (w.alloc (.cells cs t)).frozen? ⟨w.heap.size, j, Option.none⟩ = false := by
  have := heap_alloc_new w (.cells cs t)
  unfold World.frozen?
  rw [show (⟨w.heap.size, j, Option.none⟩ : Addr).block = w.heap.size from rfl, this]
  simp
/-- The table of powers lies below a block. -/
def TB (N : Nat) (w : World) : Prop := Tab w ∧ 1 < N
theorem TB.keep {N : Nat} {w w' : World} (h : TB N w) (hb : Below N w w') : TB N w' := by
  refine ⟨?_, h.2⟩
  have h1 := h.1
  unfold Tab Lib.TabIs World.var? at h1 ⊢
  rw [gTab] at h1 ⊢
  simp only [Option.bind_some] at h1 ⊢
  rw [hb.block _ h.2]
  exact h1
/-- The old names lie in a row of their own, the block N's first cell tells it. -/
structure NO (w : World) (N : Nat) (ol : List Str) (v : Value) : Prop where
  c : w.cell? ⟨N, 0, none⟩ = some v
  f : w.frozen? ⟨N, 0, none⟩ = false
  own : w.ownsRow (N + 1) 9 1 v ol.length (strs ol)
/-- All but the numbers' blocks is as it was. -/
structure WO (N : Nat) (w : World) (v : Value) (w' : World) (v' : Value) : Prop where
  b : Below N w w'
  oth : ∀ g, g < w.heap.size → g ≠ N → some g ≠ v.ownBlock → w'.heap[g]? = w.heap[g]?
  new : ∀ k, v'.ownBlock = some k → v.ownBlock = some k ∨ w.heap.size ≤ k
section
variable {N : Nat} {w w1 w2 : World} {ol : List Str} {v v1 v2 : Value}
theorem NO.lt (h : NO w N ol v) : N < w.heap.size := World.block_lt_of_cell? w _ h.c
theorem NO.below (h : NO w N ol v) (hb : Below w.heap.size w w1) : NO w1 N ol v :=
  ⟨cell_below hb h.c, (hb.frozen (p := ⟨N, 0, none⟩) h.lt).trans h.f, own_below h.own hb⟩
theorem WO.refl : WO N w v w v := ⟨Below.refl _ _, fun g _ _ _ => rfl, fun k h => .inl h⟩
theorem WO.trans (h : WO N w v w1 v1) (k : WO N w1 v1 w2 v2) : WO N w v w2 v2 := by
  refine ⟨h.b.trans k.b, fun g hg hn hv => ?_, fun g hg => ?_⟩
  · refine (k.oth g (Nat.lt_of_lt_of_le hg h.b.size) hn (fun e => ?_)).trans (h.oth g hg hn hv)
    rcases h.new g e.symm with q | q
    · exact hv q.symm
    · omega
  · rcases k.new g hg with q | q
    · exact h.new g q
    · exact .inr (Nat.le_trans h.b.size q)
theorem WO.below (hN : N ≤ w.heap.size) (hb : Below w.heap.size w w1) : WO N w v w1 v :=
  ⟨hb.mono hN, fun g h _ _ => hb.block g h, fun k h => .inl h⟩
theorem ownsRow_kept {base size n : Nat} {e : TypeId} {v : Value} {xs : List Value} {w w1 : World} (h : w.ownsRow base e size v n xs) (hk : ∀ g, v.ownBlock = some g → w1.heap[g]? = w.heap[g]?) : w1.ownsRow base e size v n xs := by
  refine ⟨h.1, ?_⟩
  rcases h.2 with hn | ⟨g, cap, cur, rfl, hb, hgg, rest⟩
  · exact .inl hn
  · exact .inr ⟨g, cap, cur, rfl, hb, (hk g rfl).trans hgg, rest⟩
theorem NO.kept (h : NO w N ol v) (hk : ∀ g, g = N ∨ v.ownBlock = some g → w1.heap[g]? = w.heap[g]?) : NO w1 N ol v :=
  ⟨(World.cell?_of_block (a := ⟨N, 0, none⟩) (hk N (.inl rfl))).trans h.c, (World.frozen?_of_block (a := ⟨N, 0, none⟩) (hk N (.inl rfl))).trans h.f, ownsRow_kept h.own fun g hg => hk g (.inr hg)⟩
theorem WO.set (h : WO N w v w1 v1) {r i : Nat} (hr : w.heap.size ≤ r) (hN : N ≤ r) (u : Value) : WO N w v (w1.setCell ⟨r, i, none⟩ u) v1 :=
  ⟨h.b.trans ⟨rfl, rfl, rfl, Nat.le_of_eq (World.size_setCell _ _ _).symm, fun k hk => Below.heap_setCell w1 _ _ k (by show k ≠ r; omega)⟩, fun g hg hn hv => (Below.heap_setCell w1 _ _ g (by show g ≠ r; omega)).trans (h.oth g hg hn hv), h.new⟩
/-- One more name. -/
theorem NO.app (h : NO w N ol v) {o : Obj} {v6 : Value} {w6 : World} {x : Str} (ho : w6.ownsRow (N + 1) 9 1 v6 (ol.length + 1) (strs ol ++ strs [x])) (hg : (w.alloc o).grownBy w6 v.ownBlock) (hat : v6.ownBlock = v.ownBlock ∨ v6.ownBlock = some (w.alloc o).heap.size) :
    NO (w6.setCell ⟨N, 0, none⟩ v6) N (ol ++ [x]) v6 ∧ WO N w v (w6.setCell ⟨N, 0, none⟩ v6) v6 := by
  have hlt := h.lt
  have hne : some N ≠ v.ownBlock := fun e => by have := (h.own.lt _ e.symm).1; omega
  have s1 : (w.alloc o).heap.size ≤ w6.heap.size := hg.size
  rw [World.size_alloc] at s1
  have hk : ∀ g, g < w.heap.size → some g ≠ v.ownBlock → w6.heap[g]? = w.heap[g]? := fun g hg1 hgv =>
    (hg.block g (by rw [World.size_alloc]; omega) hgv).trans (Below.heap_alloc w o g hg1)
  have hc : w6.cell? ⟨N, 0, none⟩ = some v := (World.cell?_of_block (a := ⟨N, 0, none⟩) (hk N hlt hne)).trans h.c
  have hf : w6.frozen? ⟨N, 0, none⟩ = false := (World.frozen?_of_block (a := ⟨N, 0, none⟩) (hk N hlt hne)).trans h.f
  refine ⟨⟨World.cell?_setCell_same _ _ _ hc, by rw [World.frozen?_setCell]; exact hf, ?_⟩, ⟨?_, ?_, ?_⟩⟩
  · rw [strs_append, List.length_append]
    exact ownsRow_setCell_below ho (Nat.lt_succ_self N) _
  · have hb : Below N w w6 := ((Below.refl N w).alloc (Nat.le_of_lt hlt) o).grown hg (by rw [World.size_alloc]; omega) (fun k hk => Nat.le_of_succ_le (h.own.lt k hk).1)
    exact hb.trans ⟨rfl, rfl, rfl, Nat.le_of_eq (World.size_setCell _ _ _).symm, fun k hk => Below.heap_setCell w6 _ _ k (Nat.ne_of_lt hk)⟩
  · intro g hg1 hgn hgv
    exact (Below.heap_setCell w6 _ _ g hgn).trans (hk g hg1 hgv)
  · intro k hk
    rcases hat with q | q
    · exact .inl (q ▸ hk)
    · rw [q, World.size_alloc] at hk; injection hk with hk; exact .inr (by omega)
end

set_option maxRecDepth 100000 in
set_option maxHeartbeats 1000000 in
theorem numNext_any (N : Nat) (ol : List Str) (v : Value) (x : Str) (w : World) (h : NO w N ol v) (hT : TB N w) (hm : ol.length + 1 ≤ 4000000) :
    Calls Tryz.prog 100 #[.pointer (some ⟨N, 0, none⟩), .string (bstr x)] w fun e w' => e = .returned (.string (bstr (vName ol.length))) ∧ ∃ v', NO w' N (ol ++ [x]) v' ∧ WO N w v w' v' := by
  have HN := Lib.hid h
  have HT := Lib.hid hT
  have HM := Lib.hid hm
  have hown := h.own
  have c0 := h.c
  have f0 := h.f
  have hlt := h.lt
  obtain ⟨A, cp, rfl, _, hcm, _⟩ := own_cap hown
  have HLT := Lib.hid hlt
  clear h hT hm hlt hcm
  go_enter Tryz.func100, Tryz.ntmps100
  go_upto_region 2 with (at_builtin; refine wpList_app elStr _ rfl (.tmp 9) (.tmp 11) rfl (N + 1) (.slice A ol.length cp) ol.length _ rfl (hown.alloc _) (some ⟨w.heap.size, 0, none⟩) 1 1 _ rfl (Rd.lit w #[.string (bstr x)] _ rfl) (strs_one [x]) (by have := HM.out; omega) (by have := HLT.out; simp; omega) ?_; intro v6 w6 hown6 hb6 hg6 ho6; obtain ⟨A6, c6, hv6, _⟩ := own_cap hown6; rw [hv6] at hown6 ho6 ⊢; clear hv6; have HH := Lib.hid (HN.out.app hown6 hg6 ho6); have g0 : w6.cell? ⟨N, 0, none⟩ = some (.slice A ol.length cp) := (World.cell?_of_block (a := ⟨N, 0, none⟩) (hg6.block N (by have := HLT.out; simp; omega) (fun e => by have := (hown.lt _ e.symm).1; omega))).trans (cell_alloc c0); have g1 : w6.frozen? ⟨N, 0, none⟩ = false := (World.frozen?_of_block (a := ⟨N, 0, none⟩) ((hg6.block N (by have := HLT.out; simp; omega) (fun e => by have := (hown.lt _ e.symm).1; omega)).trans (Below.heap_alloc w _ N HLT.out))).trans f0)
  have HT6 := Lib.hid (show TB N (w6.setCell ⟨N, 0, none⟩ (.slice A6 (ol.length + 1) c6)) from HT.out.keep HH.out.2.b)
  have h0 := HH.out.1.c
  generalize w6.setCell ⟨N, 0, none⟩ (.slice A6 (ol.length + 1) c6) = w7 at *
  clear hown hown6 hb6 hg6 ho6 g0 g1 c0 f0
  have z1 : wrap64 (ol.length : Int) = (ol.length : Int) := by unfold wrap64; have := HM.out; omega
  have HI := Lib.hid (itoa_any (ol.length : Int) (by omega) (by have := HM.out; omega) w7 HT6.out.1)
  go_wp2_with fail
  refine HI.out.mono ?_
  rintro e w8 ⟨rfl, hb8⟩
  have hva := v_add (Lib.itoa (ol.length : Int)) (by have := itoa_le (ol.length : Int) (by omega) (by have := HM.out; omega); omega) w8
  have H8 := Lib.hid hb8
  clear hb8
  go_wp2_with fail
  go_returns
  exact ⟨rfl, _, HH.out.1.below H8.out, HH.out.2.trans (WO.below (Nat.le_of_lt HH.out.1.lt) H8.out)⟩

/-- The document's numbers: the old names, where the first free variable stands, whether there is one. -/
structure NR (w : World) (N : Nat) (ol : List Str) (fr : Int) (any : Bool) (v : Value) : Prop where
  o : NO w N ol v
  c1 : w.cell? ⟨N, 1, none⟩ = some (.int .i64 fr)
  c2 : w.cell? ⟨N, 2, none⟩ = some (.bool any)
  f1 : w.frozen? ⟨N, 1, none⟩ = false
  f2 : w.frozen? ⟨N, 2, none⟩ = false
section
variable {N : Nat} {w w1 w2 : World} {ol : List Str} {v v1 v2 : Value} {fr : Int} {any : Bool}
theorem NR.below (h : NR w N ol fr any v) (hb : Below w.heap.size w w1) : NR w1 N ol fr any v :=
  ⟨h.o.below hb, cell_below hb h.c1, cell_below hb h.c2, (hb.frozen (p := ⟨N, 1, none⟩) h.o.lt).trans h.f1, (hb.frozen (p := ⟨N, 2, none⟩) h.o.lt).trans h.f2⟩
theorem NR.kept (h : NR w N ol fr any v) (hk : ∀ g, g = N ∨ v.ownBlock = some g → w1.heap[g]? = w.heap[g]?) : NR w1 N ol fr any v :=
  ⟨h.o.kept hk, (World.cell?_of_block (a := ⟨N, 1, none⟩) (hk N (.inl rfl))).trans h.c1, (World.cell?_of_block (a := ⟨N, 2, none⟩) (hk N (.inl rfl))).trans h.c2, (World.frozen?_of_block (a := ⟨N, 1, none⟩) (hk N (.inl rfl))).trans h.f1, (World.frozen?_of_block (a := ⟨N, 2, none⟩) (hk N (.inl rfl))).trans h.f2⟩
theorem addr_ne {N i j : Nat} (h : i ≠ j) : (⟨N, i, none⟩ : Addr) ≠ ⟨N, j, none⟩ := by intro e; injection e with _ e _; exact h e
theorem NR.app (h : NR w N ol fr any v) {o : Obj} {v6 : Value} {w6 : World} {x : Str} (ho : w6.ownsRow (N + 1) 9 1 v6 (ol.length + 1) (strs ol ++ strs [x])) (hg : (w.alloc o).grownBy w6 v.ownBlock) (hat : v6.ownBlock = v.ownBlock ∨ v6.ownBlock = some (w.alloc o).heap.size) :
    NR (w6.setCell ⟨N, 0, none⟩ v6) N (ol ++ [x]) fr any v6 ∧ WO N w v (w6.setCell ⟨N, 0, none⟩ v6) v6 := by
  obtain ⟨h1, h2⟩ := h.o.app ho hg hat
  have hlt := h.o.lt
  have hne : some N ≠ v.ownBlock := fun e => by have := (h.o.own.lt _ e.symm).1; omega
  have hk : w6.heap[N]? = w.heap[N]? := (hg.block N (by rw [World.size_alloc]; omega) hne).trans (Below.heap_alloc w o N hlt)
  refine ⟨⟨h1, ?_, ?_, ?_, ?_⟩, h2⟩
  · rw [World.cell?_setCell_other _ _ _ _ (addr_ne (by decide))]; exact (World.cell?_of_block (a := ⟨N, 1, none⟩) hk).trans h.c1
  · rw [World.cell?_setCell_other _ _ _ _ (addr_ne (by decide))]; exact (World.cell?_of_block (a := ⟨N, 2, none⟩) hk).trans h.c2
  · rw [World.frozen?_setCell]; exact (World.frozen?_of_block (a := ⟨N, 1, none⟩) hk).trans h.f1
  · rw [World.frozen?_setCell]; exact (World.frozen?_of_block (a := ⟨N, 2, none⟩) hk).trans h.f2
end

set_option maxRecDepth 100000 in
set_option maxHeartbeats 1000000 in
theorem bind_any (N : Nat) (ol : List Str) (fr : Int) (any : Bool) (v : Value) (x : Str) (w : World) (h : NR w N ol fr any v) (hT : TB N w) (hm : ol.length + 1 ≤ 4000000) :
    Calls Tryz.prog 49 #[.pointer (some ⟨N, 0, none⟩), .string (bstr x)] w fun e w' => e = .returned (.agg #[.string (bstr x), .string (bstr (vName ol.length))]) ∧ ∃ v', NR w' N (ol ++ [x]) fr any v' ∧ WO N w v w' v' := by
  obtain ⟨A, cp, rfl, _, _, _⟩ := own_cap h.o.own
  have hb0 : Below w.heap.size w (w.alloc (.cells #[.string ⟨#[]⟩, .string ⟨#[]⟩] 85)) := (Below.refl _ _).alloc (Nat.le_refl _) _
  have HN := Lib.hid (h.below hb0)
  have HT := Lib.hid (hT.keep (hb0.mono (Nat.le_of_lt h.o.lt)))
  have HM := Lib.hid hm
  have HW := Lib.hid (WO.below (v := .slice A ol.length cp) (Nat.le_of_lt h.o.lt) hb0)
  have hr0 : (w.alloc (.cells #[.string ⟨#[]⟩, .string ⟨#[]⟩] 85)).cell? ⟨w.heap.size, 0, none⟩ = some (.string ⟨#[]⟩) := cell_new w _ _ 0 rfl
  have hr1 : (w.alloc (.cells #[.string ⟨#[]⟩, .string ⟨#[]⟩] 85)).cell? ⟨w.heap.size, 1, none⟩ = some (.string ⟨#[]⟩) := cell_new w _ _ 1 rfl
  have HLR := Lib.hid (show ∀ k, (Value.slice A ol.length cp).ownBlock = some k → k < w.heap.size from fun k hk => (h.o.own.lt k hk).2)
  have HLN := Lib.hid h.o.lt
  clear h hT hm hb0
  go_enter Tryz.func49, Tryz.ntmps49
  go_upto_region 1 with fail
  obtain ⟨r, hr⟩ : ∃ r, w.heap.size = r := ⟨_, rfl⟩
  have hrl : w.heap.size < (w.alloc (.cells #[.string ⟨#[]⟩, .string ⟨#[]⟩] 85)).heap.size := by simp
  have hfz : (w.alloc (.cells #[.string ⟨#[]⟩, .string ⟨#[]⟩] 85)).frozen? ⟨w.heap.size, 0, none⟩ = false ∧ (w.alloc (.cells #[.string ⟨#[]⟩, .string ⟨#[]⟩] 85)).frozen? ⟨w.heap.size, 1, none⟩ = false := ⟨frozen_new w _ _ _, frozen_new w _ _ _⟩
  have HRW := Lib.hid hr
  rw [hr] at hr0 hr1 HLR HLN hrl hfz ⊢
  generalize w.alloc (.cells #[.string ⟨#[]⟩, .string ⟨#[]⟩] 85) = w1 at *
  have HR := Lib.hid (And.intro hr0 (And.intro hr1 (And.intro hrl hfz)))
  have hown := HN.out.o.own
  have c0 := HN.out.o.c
  have f0 := HN.out.o.f
  have HLT := Lib.hid HN.out.o.lt
  clear hr0 hr1 hrl hfz hr
  go_upto_region 2 with (at_builtin; refine wpList_app elStr _ rfl (.tmp 9) (.tmp 11) rfl (N + 1) (.slice A ol.length cp) ol.length _ rfl (hown.alloc _) (some ⟨w1.heap.size, 0, none⟩) 1 1 _ rfl (Rd.lit w1 #[.string (bstr x)] _ rfl) (strs_one [x]) (by have := HM.out; omega) (by have := HLT.out; simp; omega) ?_; intro v6 w6 hown6 hb6 hg6 ho6; obtain ⟨A6, c6, hv6, _⟩ := own_cap hown6; rw [hv6] at hown6 ho6 ⊢; clear hv6; have HH := Lib.hid (HN.out.app hown6 hg6 ho6); have g0 : w6.cell? ⟨N, 0, none⟩ = some (.slice A ol.length cp) := (World.cell?_of_block (a := ⟨N, 0, none⟩) (hg6.block N (by have := HLT.out; simp; omega) (fun e => by have := (hown.lt _ e.symm).1; omega))).trans (cell_alloc c0); have g1 : w6.frozen? ⟨N, 0, none⟩ = false := (World.frozen?_of_block (a := ⟨N, 0, none⟩) ((hg6.block N (by have := HLT.out; simp; omega) (fun e => by have := (hown.lt _ e.symm).1; omega)).trans (Below.heap_alloc w1 _ N HLT.out))).trans f0)
  have HT6 := Lib.hid (show TB N (w6.setCell ⟨N, 0, none⟩ (.slice A6 (ol.length + 1) c6)) from HT.out.keep HH.out.2.b)
  have h0 := HH.out.1.o.c
  generalize w6.setCell ⟨N, 0, none⟩ (.slice A6 (ol.length + 1) c6) = w7 at *
  have hkr := HH.out.2.oth r HR.out.2.2.1 (by have := HLN.out; omega) (fun e => by have := HLR.out r e.symm; omega)
  have HKR := Lib.hid hkr
  clear hown hown6 hb6 hg6 ho6 g0 g1 c0 f0 hkr
  have z1 : wrap64 (ol.length : Int) = (ol.length : Int) := by unfold wrap64; have := HM.out; omega
  have HI := Lib.hid (itoa_any (ol.length : Int) (by omega) (by have := HM.out; omega) w7 HT6.out.1)
  go_wp2_with fail
  refine HI.out.mono ?_
  rintro e w8 ⟨rfl, hb8⟩
  have hva := v_add (Lib.itoa (ol.length : Int)) (by have := itoa_le (ol.length : Int) (by omega) (by have := HM.out; omega); omega) w8
  have H8 := Lib.hid hb8
  have hrl7 : r < w7.heap.size := Nat.lt_of_lt_of_le HR.out.2.2.1 HH.out.2.b.size
  have r0 : w8.cell? ⟨r, 0, none⟩ = some (.string ⟨#[]⟩) := cell_below hb8 ((World.cell?_of_block (a := ⟨r, 0, none⟩) HKR.out).trans HR.out.1)
  have r1 : w8.cell? ⟨r, 1, none⟩ = some (.string ⟨#[]⟩) := cell_below hb8 ((World.cell?_of_block (a := ⟨r, 1, none⟩) HKR.out).trans HR.out.2.1)
  have q0 : w8.frozen? ⟨r, 0, none⟩ = false := (hb8.frozen (p := ⟨r, 0, none⟩) hrl7).trans ((World.frozen?_of_block (a := ⟨r, 0, none⟩) HKR.out).trans HR.out.2.2.2.1)
  have q1 : w8.frozen? ⟨r, 1, none⟩ = false := (hb8.frozen (p := ⟨r, 1, none⟩) hrl7).trans ((World.frozen?_of_block (a := ⟨r, 1, none⟩) HKR.out).trans HR.out.2.2.2.2)
  clear hb8 h0
  go_wp2_with fail
  obtain ⟨s0, s1⟩ := set2n (x := .string (bstr x)) (y := .string (bstr (118 :: Lib.itoa (ol.length : Int)))) r0 r1
  refine bodyPost_ret (v := .agg #[.string (bstr x), .string (bstr (118 :: Lib.itoa (ol.length : Int)))]) (by simp [results, Tryz.results49, go_sem, s0, s1]) rfl ?_
  have hle : w.heap.size ≤ r := Nat.le_of_eq HRW.out
  have hNr : N ≤ r := Nat.le_of_lt HLN.out
  refine ⟨rfl, _, (HH.out.1.below H8.out).kept ?_, (((HW.out.trans HH.out.2).trans (WO.below (Nat.le_of_lt HH.out.1.o.lt) H8.out)).set hle hNr _).set hle hNr _⟩
  intro g hg
  have hgr : g ≠ r := by
    rcases hg with rfl | hg
    · have := HLN.out; omega
    · intro e
      rcases HH.out.2.new g hg with q | q
      · have := HLR.out g q; omega
      · have := HR.out.2.2.1; omega
  exact (Below.heap_setCell _ _ _ g hgr).trans (Below.heap_setCell _ _ _ g hgr)
end Go.Proofs.YtaglmmcjhlehjaaGreatDoor

namespace Go.Proofs.YtaglmmcjhlehjaaGreatDoor
open Go.ChangeShapes Go.WideShapes Go.ChangeAt Go.RowKit Go.Sort
set_option linter.unusedVariables false
set_option linter.unusedSimpArgs false

/-- 'append' in a region that draws its order, and where the new row lies. -/
theorem step_app {P : Program} {t e : TypeId} {z : Value} {size bytes : Nat} (T : ElemTy P t e z size bytes) (w : World) {ops : Array Oper} {o : Oper} {a : Act} {K : Act → World → Prop} {Q : Exit → Act → World → Prop} {E : Prop} (hgd : o.guard = none) (s x : Operand)
    (ho : o.op = .call { callee := .builtin .append, args := #[s, x], argTypes := #[t, t] }) (base : Nat)
    (v : Value) (n : Nat) (xs : List Value) (hs : a.eval s = v) (hown : w.ownsRow base e size v n xs) (A : Option Addr) (m c : Nat) (news : List Value) (hx : a.eval x = .slice A m c) (hr : Rd w size A m news) (h1 : ∀ u ∈ news, u.oneCell' = true)
    (hbytes : (n + m) * bytes ≤ 140737488355328) (hbase : base ≤ w.heap.size)
    (h : ∀ v' w', w'.ownsRow base e size v' (n + m) (xs ++ news) → w.grownBy w' v.ownBlock → (v'.ownBlock = v.ownBlock ∨ v'.ownBlock = some w.heap.size) → K (a.put o.dst v') w') :
    if Region.wanted o (yielded ops a.tmps) = true then Oper.wp P o a w K Q else E := by
  have hw : Region.wanted o (yielded ops a.tmps) = true := by simp [Region.wanted, hgd]
  rw [if_pos hw]
  obtain ⟨v', w', hrun, h2, h3, h4⟩ := run_app T w o.type base v n xs hown A m c news hr h1 hbytes hbase
  unfold Oper.wp execOp
  simp only [ho, resolve, invoke, builtin, Sem.run_bind, Sem.run_pure, Result.andThen_ok, List.map_toArray, List.map_cons, List.map_nil, hs, hx, hrun]
  exact h v' w' h2 h3 h4


theorem rd_grown {w w' : World} {size n g : Nat} {cs : List Value} {row : Option Nat} (h : Rd w size (some ⟨g, 0, none⟩) n cs) (hl : g < w.heap.size) (hne : some g ≠ row) (hg : w.grownBy w' row) : Rd w' size (some ⟨g, 0, none⟩) n cs := by
  refine ⟨h.1, fun h0 => ?_⟩
  obtain ⟨a, e, hh⟩ := h.2 h0
  cases e
  refine ⟨_, rfl, fun j u hu => ?_⟩
  rw [← hh j u hu]
  exact World.cell?_of_block (by rw [add_block]; exact hg.block g hl hne)
theorem bd_one (p : Bd) : ∀ u ∈ bd2 p, u.oneCell' = true := by
  intro u hu; simp only [bd2, List.mem_cons, List.not_mem_nil, or_false] at hu; rcases hu with rfl | rfl <;> rfl
theorem bds_one (l : List Bd) : ∀ u ∈ bds l, u.oneCell' = true := by
  intro u hu; obtain ⟨p, _, hp⟩ := List.mem_flatMap.1 hu; exact bd_one p u hp
/-- What one more binding tells. -/
def MR (l : List Bd) (w : World) (e : Ending) (w' : World) : Prop := ∃ A c, e = .returned (.slice A l.length c) ∧ Rd w' 2 A l.length (bds l) ∧ Below w.heap.size w w' ∧ ∀ a, A = some a → w.heap.size ≤ a.block

set_option maxRecDepth 100000 in
set_option maxHeartbeats 1000000 in
theorem more_any (A : Option Addr) (env : List Bd) (n c : Nat) (p : Bd) (w : World) (hr : Rd w 2 A n (bds env)) (hm : n + 1 ≤ 4000000) :
    Calls Tryz.prog 50 #[.slice A n c, .agg #[.string (bstr p.1), .string (bstr p.2)]] w fun e w' => MR (env ++ [p]) w e w' := by
  have hlen := bd_len hr
  subst hlen
  have hb1 : Below w.heap.size w (w.alloc (.cells #[.string (bstr p.1), .string (bstr p.2)] 85)) := (Below.refl _ _).alloc (Nat.le_refl _) _
  have r0 : (w.alloc (.cells #[.string (bstr p.1), .string (bstr p.2)] 85)).cell? ⟨w.heap.size, 0, none⟩ = some (.string (bstr p.1)) := cell_new w _ _ 0 rfl
  have r1 : (w.alloc (.cells #[.string (bstr p.1), .string (bstr p.2)] 85)).cell? ⟨w.heap.size, 1, none⟩ = some (.string (bstr p.2)) := cell_new w _ _ 1 rfl
  have HR := Lib.hid (hr.below hb1)
  have HB := Lib.hid hb1
  have HM := Lib.hid hm
  clear hr hb1 hm
  go_enter Tryz.func50, Tryz.ntmps50
  go_upto_region 1 with fail
  obtain ⟨B, hB⟩ : ∃ B, w.heap.size = B := ⟨_, rfl⟩
  have hlt : w.heap.size < (w.alloc (.cells #[.string (bstr p.1), .string (bstr p.2)] 85)).heap.size := by simp
  have HB2 := Lib.hid hB
  rw [hB] at r0 r1 hlt ⊢
  generalize w.alloc (.cells #[.string (bstr p.1), .string (bstr p.2)] 85) = w1 at *
  have HS := Lib.hid (fun (w6 : World) (h6 : Below w1.heap.size w1 w6) => And.intro (cell_below h6 r0) (cell_below h6 r1))
  have HLT := Lib.hid hlt
  clear hB hlt
  have HW1 := Lib.hid (show (w1.alloc (.cells #[] 85)).drew.ownsRow w1.heap.size 85 2 (.slice (some ⟨w1.heap.size, 0, none⟩) 0 0) 0 [] from (show (w1.alloc (.cells #[] 85)).ownsRow w1.heap.size 85 2 (.slice (some ⟨w1.heap.size, 0, none⟩) 0 0) 0 [] from World.ownsRow_made w1 #[] 0 (Nat.le_refl _) (by simp [maxLen]) rfl))
  have HW2 := Lib.hid (show ((w1.alloc (.cells #[] 85)).alloc (.cells #[.string (bstr p.1), .string (bstr p.2)] 85)).drew.ownsRow w1.heap.size 85 2 (.slice (some ⟨w1.heap.size, 0, none⟩) 0 0) 0 [] from (show ((w1.alloc (.cells #[] 85)).alloc (.cells #[.string (bstr p.1), .string (bstr p.2)] 85)).ownsRow w1.heap.size 85 2 (.slice (some ⟨w1.heap.size, 0, none⟩) 0 0) 0 [] from (World.ownsRow_made w1 #[] 0 (Nat.le_refl _) (by simp [maxLen]) rfl : (w1.alloc (.cells #[] 85)).ownsRow w1.heap.size 85 2 (.slice (some ⟨w1.heap.size, 0, none⟩) 0 0) 0 []).alloc _))
  have HW3 := Lib.hid (show ((w1.alloc (.cells #[.string (bstr p.1), .string (bstr p.2)] 85)).alloc (.cells #[] 85)).drew.ownsRow w1.heap.size 85 2 (.slice (some ⟨(w1.heap.size + 1), 0, none⟩) 0 0) 0 [] from (by have h : ((w1.alloc (.cells #[.string (bstr p.1), .string (bstr p.2)] 85)).alloc (.cells #[] 85)).ownsRow w1.heap.size 85 2 (.slice (some ⟨(w1.alloc (.cells #[.string (bstr p.1), .string (bstr p.2)] 85)).heap.size, 0, none⟩) 0 0) 0 [] := World.ownsRow_made (w1.alloc (.cells #[.string (bstr p.1), .string (bstr p.2)] 85)) #[] 0 (by simp) (by simp [maxLen]) rfl; rw [World.size_alloc] at h; exact h))
  have HB1 := Lib.hid (show Below w1.heap.size w1 (w1.alloc (.cells #[] 85)).drew from ((Below.refl _ _).alloc (Nat.le_refl _) _).drew)
  have HB2' := Lib.hid (show Below w1.heap.size w1 ((w1.alloc (.cells #[] 85)).alloc (.cells #[.string (bstr p.1), .string (bstr p.2)] 85)).drew from (((Below.refl _ _).alloc (Nat.le_refl _) _).alloc (by simp) _).drew)
  have HB3 := Lib.hid (show Below w1.heap.size w1 ((w1.alloc (.cells #[.string (bstr p.1), .string (bstr p.2)] 85)).alloc (.cells #[] 85)).drew from (((Below.refl _ _).alloc (Nat.le_refl _) _).alloc (by simp) _).drew)
  have HL2 := Lib.hid (show Rd ((w1.alloc (.cells #[] 85)).alloc (.cells #[.string (bstr p.1), .string (bstr p.2)] 85)).drew 2 (some ⟨w1.heap.size + 1, 0, none⟩) 1 (bd2 p) from (by have h := Rd.lit (size := 2) (n := 1) (w1.alloc (.cells #[] 85)) #[.string (bstr p.1), .string (bstr p.2)] 85 rfl (fr := (0, 0)); rw [World.size_alloc] at h; exact h.drew))
  have HL3 := Lib.hid (show Rd ((w1.alloc (.cells #[.string (bstr p.1), .string (bstr p.2)] 85)).alloc (.cells #[] 85)).drew 2 (some ⟨w1.heap.size, 0, none⟩) 1 (bd2 p) from (((Rd.lit (size := 2) (n := 1) w1 #[.string (bstr p.1), .string (bstr p.2)] 85 rfl (fr := (0, 0))).alloc _).drew))
  have HZ := Lib.hid (show (w1.alloc (.cells #[] 85)).drew.heap.size = w1.heap.size + 1 ∧ ((w1.alloc (.cells #[] 85)).alloc (.cells #[.string (bstr p.1), .string (bstr p.2)] 85)).drew.heap.size = w1.heap.size + 2 ∧ ((w1.alloc (.cells #[.string (bstr p.1), .string (bstr p.2)] 85)).alloc (.cells #[] 85)).drew.heap.size = w1.heap.size + 2 from ⟨by simp, by simp, by simp⟩)
  go_region_held3 (fun w' => w'.cell? ⟨B, 0, none⟩ = some (.string (bstr p.1)) ∧ w'.cell? ⟨B, 1, none⟩ = some (.string (bstr p.2)))
    (first | exact HS.out _ hb7 | exact HS.out _ hb6 | exact HS.out _ HB1.out | exact HS.out _ HB2'.out | exact HS.out _ HB3.out | go_keep | fail)
    (first
      | (refine step_app elBd _ (by rfl) (.tmp 7) (.tmp 9) (by rfl) w1.heap.size v6 env.length _ (by rfl) (hown6.alloc _) (some ⟨w6.heap.size, 0, none⟩) 1 1 _ (by rfl) (Rd.lit w6 #[.string (bstr p.1), .string (bstr p.2)] _ rfl) (bd_one p) (by have := HM.out; omega) (by have := hb6.size; simp; omega) ?_; intro v7 w7 hown7 hg7 hat7; have hb7 : Below w1.heap.size w1 w7 := (hb6.alloc hb6.size _).grown hg7 (by have := hb6.size; simp; omega) (fun k hk => (hown6.lt k hk).1))
      | (refine step_app elBd _ (by rfl) (.tmp 7) (.tmp 9) (by rfl) w1.heap.size v6 env.length _ (by rfl) hown6 _ 1 1 _ (by rfl) HL6.out (bd_one p) (by have := HM.out; omega) hb6.size ?_; intro v7 w7 hown7 hg7 hat7; have hb7 : Below w1.heap.size w1 w7 := hb6.grown hg7 hb6.size (fun k hk => (hown6.lt k hk).1))
      | (refine step_app elBd _ (by rfl) (.tmp 5) (.tmp 6) (by rfl) w1.heap.size (.slice (some ⟨w1.heap.size, 0, none⟩) 0 0) 0 [] (by rfl) HW1.out A env.length c _ (by rfl) (HR.out.below HB1.out) (bds_one env) (by have := HM.out; omega) HB1.out.size ?_; intro v6 w6 hown6 hg6 hat6; rw [Nat.zero_add] at hown6; rw [List.nil_append] at hown6; have hb6 : Below w1.heap.size w1 w6 := HB1.out.trans ((Below.refl _ _).grown hg6 HB1.out.size (fun k hk => (HW1.out.lt k hk).1)))
      | (refine step_app elBd _ (by rfl) (.tmp 5) (.tmp 6) (by rfl) w1.heap.size (.slice (some ⟨w1.heap.size, 0, none⟩) 0 0) 0 [] (by rfl) HW2.out A env.length c _ (by rfl) (HR.out.below HB2'.out) (bds_one env) (by have := HM.out; omega) HB2'.out.size ?_; intro v6 w6 hown6 hg6 hat6; rw [Nat.zero_add] at hown6; rw [List.nil_append] at hown6; have hb6 : Below w1.heap.size w1 w6 := HB2'.out.trans ((Below.refl _ _).grown hg6 HB2'.out.size (fun k hk => (HW2.out.lt k hk).1)); have HL6 := Lib.hid (rd_grown HL2.out (by have := HZ.out; show (w1.heap.size + 1) < ((w1.alloc (.cells #[] 85)).alloc (.cells #[.string (bstr p.1), .string (bstr p.2)] 85)).drew.heap.size; omega) (by show some (w1.heap.size + 1) ≠ some w1.heap.size; intro e; injection e with e; omega) hg6))
      | (refine step_app elBd _ (by rfl) (.tmp 5) (.tmp 6) (by rfl) w1.heap.size (.slice (some ⟨(w1.heap.size + 1), 0, none⟩) 0 0) 0 [] (by rfl) HW3.out A env.length c _ (by rfl) (HR.out.below HB3.out) (bds_one env) (by have := HM.out; omega) HB3.out.size ?_; intro v6 w6 hown6 hg6 hat6; rw [Nat.zero_add] at hown6; rw [List.nil_append] at hown6; have hb6 : Below w1.heap.size w1 w6 := HB3.out.trans ((Below.refl _ _).grown hg6 HB3.out.size (fun k hk => (HW3.out.lt k hk).1)); have HL6 := Lib.hid (rd_grown HL3.out (by have := HZ.out; show w1.heap.size < ((w1.alloc (.cells #[.string (bstr p.1), .string (bstr p.2)] 85)).alloc (.cells #[] 85)).drew.heap.size; omega) (by show some w1.heap.size ≠ some (w1.heap.size + 1); intro e; injection e with e; omega) hg6))
      | fail)
  all_goals
    obtain ⟨A7, c7, rfl, _⟩ := own_cap hown7
    have HH := Lib.hid (And.intro hown7 hb7)
    clear hown7 hb7
    go_wp2_with fail
    go_returns
    refine ⟨A7, c7, by rw [List.length_append]; rfl, ?_, below_then HB.out HH.out.2, fun a ha => Nat.le_trans HB.out.size (HH.out.1.lt a.block (by rw [ha]; rfl)).1⟩
    rw [bds_snoc, List.length_append]
    exact Rd.of_own HH.out.1
end Go.Proofs.YtaglmmcjhlehjaaGreatDoor

namespace Go.Proofs.YtaglmmcjhlehjaaGreatDoor
open Go.ChangeShapes Go.WideShapes Go.ChangeAt Go.RowKit Go.Sort
set_option linter.unusedVariables false
set_option linter.unusedSimpArgs false

/-- Where the row of an 'append' lies: nothing came to it; or it is new, and nothing else has changed; or it lies in the old one's room. -/
def AppR (w w' : World) (v v' : Value) (n m : Nat) : Prop :=
  (v' = v ∧ m = 0 ∧ w' = w) ∨ (v'.ownBlock = some w.heap.size ∧ Below w.heap.size w w') ∨ (∃ g cap, v = .slice (some ⟨g, 0, none⟩) n cap ∧ v' = .slice (some ⟨g, 0, none⟩) (n + m) cap)

theorem run_app2 {P : Program} {t e : TypeId} {z : Value} {size bytes : Nat} (T : ElemTy P t e z size bytes) (w : World) (ty : TypeId) (base : Nat)
    (v : Value) (n : Nat) (xs : List Value) (hown : w.ownsRow base e size v n xs) (A : Option Addr) (m c : Nat) (news : List Value) (hr : Rd w size A m news) (h1 : ∀ u ∈ news, u.oneCell' = true)
    (hbytes : (n + m) * bytes ≤ 140737488355328) (hbase : base ≤ w.heap.size) :
    ∃ v' w', (Builtin.append_ #[t, t] ty #[v, .slice A m c]).run P w = .ok v' w' ∧ w'.ownsRow base e size v' (n + m) (xs ++ news) ∧ w.grownBy w' v.ownBlock ∧ AppR w w' v v' n m := by
  obtain ⟨v', w', hrun, hown', hg, hat⟩ := run_app T w ty base v n xs hown A m c news hr h1 hbytes hbase
  refine ⟨v', w', hrun, hown', hg, ?_⟩
  obtain ⟨i, hi, hz, hs, hb⟩ := info_parts T.info
  have h63 : n + m ≤ maxLen := by
    have := Nat.le_mul_of_pos_right (n + m) T.posb
    simp only [maxLen]; omega
  rcases Nat.eq_zero_or_pos m with h0 | h0
  · subst h0
    have hn : news = [] := List.eq_nil_of_length_eq_zero (by have := hr.1; omega)
    subst hn
    have hrun2 : (Builtin.append_ #[t, t] ty #[v, .slice A 0 c]).run P w = .ok v w := by
      rcases hown.2 with ⟨rfl, rfl⟩ | ⟨g, cap, cur, rfl, _, _, hnc, _⟩
      · cases A with
        | none => simp [Builtin.append_, run_underlying T.under, sizeOf, typeInfo, hi, Builtin.lenOf, Builtin.firstCells]
        | some a => simp [Builtin.append_, run_underlying T.under, sizeOf, typeInfo, hi, Builtin.lenOf, Builtin.firstCells, loadCells, loadCellsFrom]
      · cases A with
        | none => simp [Builtin.append_, run_underlying T.under, sizeOf, typeInfo, hi, Builtin.lenOf, Builtin.firstCells, hnc, storeCells]
        | some a => simp [Builtin.append_, run_underlying T.under, sizeOf, typeInfo, hi, Builtin.lenOf, Builtin.firstCells, hnc, storeCells, loadCells, loadCellsFrom]
    rw [hrun2] at hrun
    injection hrun with e1 e2
    exact .inl ⟨e1.symm, rfl, e2.symm⟩
  · have hl : 0 < news.length := by rw [hr.1]; exact Nat.mul_pos h0 T.pos
    obtain ⟨a, rfl, hh⟩ := hr.2 hl
    rcases hown.2 with ⟨rfl, rfl⟩ | ⟨g, cap, cur, rfl, hbg, hgg, hnc, hcm, hcs, htake⟩
    · right; left
      have hr2 := run_append_nil (P := P) w t ty e i z T.under hi hz a m c news (by rw [hs]; exact hr.1) hh h0 (by simp only [maxLen] at h63; omega) (by rw [hb]; simp only [Nat.zero_add] at hbytes; omega)
      rw [hr2] at hrun
      injection hrun with e1 e2
      rw [← e1, ← e2]
      exact ⟨rfl, ((Below.refl w.heap.size w).drew).alloc (Nat.le_refl _) _⟩
    · by_cases hroom : n + m ≤ cap
      · right; right
        have hr2 := run_append_room (P := P) w t ty e i T.under hi g n cap cur hgg a m c news (by rw [hs]; exact hr.1) hh h1 hroom (by rw [hr.1, hcs, hs, ← Nat.add_mul]; exact Nat.mul_le_mul_right _ hroom)
        rw [hr2] at hrun
        injection hrun with e1 e2
        exact ⟨g, cap, rfl, e1.symm⟩
      · right; left
        have holds : ∀ j u, xs[j]? = some u → w.cell? ((⟨g, 0, none⟩ : Addr).add j) = some u := hown.cells (g := g) rfl
        have hr2 := run_append_grow (P := P) w t ty e i z T.under hi hz ⟨g, 0, none⟩ n cap xs (by rw [hs]; exact hown.1) holds a m c news (by rw [hs]; exact hr.1) hh (by omega) (by simp only [maxLen] at h63; omega) (growslice_fits (by omega) (by rw [hb]; exact hbytes))
        rw [hr2] at hrun
        injection hrun with e1 e2
        rw [← e1, ← e2]
        exact ⟨rfl, ((Below.refl w.heap.size w).drew).alloc (Nat.le_refl _) _⟩

/-- At a step of a region that draws its order. -/
theorem step_app2 {P : Program} {t e : TypeId} {z : Value} {size bytes : Nat} (T : ElemTy P t e z size bytes) (w : World) {ops : Array Oper} {o : Oper} {a : Act} {K : Act → World → Prop} {Q : Exit → Act → World → Prop} {E : Prop} (hgd : o.guard = none) (s x : Operand)
    (ho : o.op = .call { callee := .builtin .append, args := #[s, x], argTypes := #[t, t] }) (base : Nat)
    (v : Value) (n : Nat) (xs : List Value) (hs : a.eval s = v) (hown : w.ownsRow base e size v n xs) (A : Option Addr) (m c : Nat) (news : List Value) (hx : a.eval x = .slice A m c) (hr : Rd w size A m news) (h1 : ∀ u ∈ news, u.oneCell' = true)
    (hbytes : (n + m) * bytes ≤ 140737488355328) (hbase : base ≤ w.heap.size)
    (h : ∀ v' w', w'.ownsRow base e size v' (n + m) (xs ++ news) → w.grownBy w' v.ownBlock → AppR w w' v v' n m → K (a.put o.dst v') w') :
    if Region.wanted o (yielded ops a.tmps) = true then Oper.wp P o a w K Q else E := by
  have hw : Region.wanted o (yielded ops a.tmps) = true := by simp [Region.wanted, hgd]
  rw [if_pos hw]
  obtain ⟨v', w', hrun, h2, h3, h4⟩ := run_app2 T w o.type base v n xs hown A m c news hr h1 hbytes hbase
  unfold Oper.wp execOp
  simp only [ho, resolve, invoke, builtin, Sem.run_bind, Sem.run_pure, Result.andThen_ok, List.map_toArray, List.map_cons, List.map_nil, hs, hx, hrun]
  exact h v' w' h2 h3 h4
/-- In a region in its order. -/
theorem wpList_app2 {P : Program} {t e : TypeId} {z : Value} {size bytes : Nat} (T : ElemTy P t e z size bytes) (w : World) {ops : Array Oper} {rest : List Oper} {o : Oper} {a : Act} {Q : Exit → Act → World → Prop} (hgd : o.guard = none) (s x : Operand)
    (ho : o.op = .call { callee := .builtin .append, args := #[s, x], argTypes := #[t, t] }) (base : Nat)
    (v : Value) (n : Nat) (xs : List Value) (hs : a.eval s = v) (hown : w.ownsRow base e size v n xs) (A : Option Addr) (m c : Nat) (news : List Value) (hx : a.eval x = .slice A m c) (hr : Rd w size A m news) (h1 : ∀ u ∈ news, u.oneCell' = true)
    (hbytes : (n + m) * bytes ≤ 140737488355328) (hbase : base ≤ w.heap.size)
    (h : ∀ v' w', w'.ownsRow base e size v' (n + m) (xs ++ news) → w.grownBy w' v.ownBlock → AppR w w' v v' n m → wpList P ops Q rest (a.put o.dst v') w') : wpList P ops Q (o :: rest) a w :=
  wpList_plain hgd fun _ hK => by
    obtain ⟨v', w', hrun, h2, h3, h4⟩ := run_app2 T w o.type base v n xs hown A m c news hr h1 hbytes hbase
    unfold Oper.wp execOp
    simp only [ho, resolve, invoke, builtin, Sem.run_bind, Sem.run_pure, Result.andThen_ok, List.map_toArray, List.map_cons, List.map_nil, hs, hx, hrun]
    exact hK _ _ (h v' w' h2 h3 h4)

/-- All but a row's room is as it was. -/
structure FW (B : Nat) (e : TypeId) (size : Nat) (v : Value) (n : Nat) (xs : List Value) (w w' : World) : Prop where
  b : Below B w w'
  oth : ∀ g, g < w.heap.size → some g ≠ v.ownBlock → w'.heap[g]? = w.heap[g]?
  own : w'.ownsRow B e size v n xs
section
variable {B : Nat} {e : TypeId} {size n m : Nat} {v v3 : Value} {xs news : List Value} {w w1 w2 w3 w4 : World}
theorem FW.refl (h : w.ownsRow B e size v n xs) : FW B e size v n xs w w := ⟨Below.refl _ _, fun _ _ _ => rfl, h⟩
theorem FW.below (h : w.ownsRow B e size v n xs) (hB : B ≤ w.heap.size) (hb : Below w.heap.size w w1) : FW B e size v n xs w w1 :=
  ⟨hb.mono hB, fun g hg _ => hb.block g hg, own_below h hb⟩
theorem FW.trans (h : FW B e size v n xs w w1) (k : FW B e size v n xs w1 w2) : FW B e size v n xs w w2 :=
  ⟨h.b.trans k.b, fun g hg hv => (k.oth g (Nat.lt_of_lt_of_le hg h.b.size) hv).trans (h.oth g hg hv), k.own⟩
theorem own_back {g cap : Nat} (hx : xs.length = n * size) (h : w.ownsRow B e size (.slice (some ⟨g, 0, none⟩) (n + m) cap) (n + m) (xs ++ news)) : w.ownsRow B e size (.slice (some ⟨g, 0, none⟩) n cap) n xs := by
  refine ⟨hx, .inr ?_⟩
  rcases h.2 with ⟨h, _⟩ | ⟨g', cap', cur, hv, hb, hg, hnc, hcm, hcs, ht⟩
  · cases h
  · injection hv with q1 q2 q3
    injection q1 with q1
    injection q1 with q1
    subst q1 q3
    refine ⟨g, cap, cur, rfl, hb, hg, by omega, hcm, hcs, ?_⟩
    have h2 := congrArg (List.take (n * size)) ht
    rw [List.take_take, Nat.min_eq_left (Nat.mul_le_mul_right _ (by omega)), ← hx, List.take_left] at h2
    rw [← hx]; exact h2
/-- What a call leaves that got the row with more. -/
theorem FW.app (h : w.ownsRow B e size v n xs) (hB : B ≤ w.heap.size) (hg : w.grownBy w3 v.ownBlock) (ha : AppR w w3 v v3 n m) (hn : news.length = m * size) (k : FW B e size v3 (n + m) (xs ++ news) w3 w4) : FW B e size v n xs w w4 := by
  have hb3 : Below B w w3 := (Below.refl B w).grown hg hB (fun k hk => (h.lt k hk).1)
  refine ⟨hb3.trans k.b, fun g hg1 hgv => ?_, ?_⟩
  · refine (k.oth g (Nat.lt_of_lt_of_le hg1 hg.size) ?_).trans (hg.block g hg1 hgv)
    rcases ha with ⟨rfl, _, _⟩ | ⟨q, _⟩ | ⟨g', cap, rfl, rfl⟩
    · exact hgv
    · rw [q]; intro e; injection e with e; omega
    · exact hgv
  · rcases ha with ⟨rfl, rfl, rfl⟩ | ⟨q, hb⟩ | ⟨g', cap, rfl, rfl⟩
    · have hnil : news = [] := List.eq_nil_of_length_eq_zero (by omega)
      subst hnil
      have := k.own
      rwa [Nat.add_zero, List.append_nil] at this
    · refine ownsRow_kept h fun g hg1 => ?_
      have hlt := (h.lt g hg1).2
      refine (k.oth g (Nat.lt_of_lt_of_le hlt hg.size) ?_).trans (hb.block g hlt)
      rw [q]; intro e; injection e with e; omega
    · exact own_back h.1 k.own
end
end Go.Proofs.YtaglmmcjhlehjaaGreatDoor

namespace Go.Proofs.YtaglmmcjhlehjaaGreatDoor
open Go.ChangeShapes Go.WideShapes Go.ChangeAt Go.RowKit Go.Sort
set_option linter.unusedVariables false
set_option linter.unusedSimpArgs false

mutual
/-- Where the first variable stands that is not among the names. -/
def Ex.firstF : Ex → List Str → Option Int
  | .mk d l, ns => if d.kind = 3 ∧ d.s ∉ ns then some d.at_ else firstFL d l 0 ns
def firstFL (d : ExD) : List Ex → Nat → List Str → Option Int
  | [], _, _ => none
  | x :: l, i, ns => match x.firstF (ns ++ d.boundC i) with
    | some a => some a
    | none => firstFL d l (i + 1) ns
end
theorem firstFL_snoc (d : ExD) (x : Ex) (ns : List Str) : ∀ (l : List Ex) (i : Nat), firstFL d l i ns = none → firstFL d (l ++ [x]) i ns = x.firstF (ns ++ d.boundC (i + l.length))
  | [], i, _ => by simp only [List.nil_append, firstFL, List.length_nil, Nat.add_zero]; cases x.firstF (ns ++ d.boundC i) <;> rfl
  | y :: l, i, h => by
    simp only [List.cons_append, firstFL] at h ⊢
    cases hy : y.firstF (ns ++ d.boundC i) with
    | some a => rw [hy] at h; cases h
    | none =>
      rw [hy] at h
      have := firstFL_snoc d x ns l (i + 1) h
      rw [List.length_cons, show i + (l.length + 1) = i + 1 + l.length from by omega]
      exact this
theorem firstFL_some (d : ExD) (ns : List Str) (a : Int) : ∀ (l r : List Ex) (i : Nat), firstFL d l i ns = some a → firstFL d (l ++ r) i ns = some a
  | [], r, i, h => by simp [firstFL] at h
  | y :: l, r, i, h => by
    simp only [List.cons_append, firstFL] at h ⊢
    cases hy : y.firstF (ns ++ d.boundC i) with
    | some a' => rw [hy] at h; exact h
    | none => rw [hy] at h; exact firstFL_some d ns a l r (i + 1) h
/-- What firstFree tells. -/
def ffV : Option Int → Value
  | some a => .tuple #[.int .i64 a, .bool true]
  | none => .tuple #[.int .i64 0, .bool false]
abbrev FFW (B : Nat) (v : Value) (ns : List Str) (w w' : World) : Prop := FW B 9 1 v ns.length (strs ns) w w'
/-- The children's part of the walk. -/
def KidsF (w0 : World) (l : List Ex) : Prop :=
  ∀ x ∈ l, ∀ (ns : List Str) (v : Value) (W : World) (b o : Nat), Below w0.heap.size w0 W → W.ownsRow w0.heap.size 9 1 v ns.length (strs ns) → x.d.At w0 b o → ns.length + 2 * x.depth ≤ 4000000 →
    Calls Tryz.prog 46 #[.pointer (some ⟨b, o, none⟩), v] W fun e w' => e = .returned (ffV (x.firstF ns)) ∧ FFW w0.heap.size v ns W w'

set_option maxRecDepth 100000 in
set_option maxHeartbeats 1000000 in
theorem first_var (w0 : World) (d : ExD) (l : List Ex) (ns : List Str) (A : Option Addr) (c : Nat) (w : World) (b o : Nat) (hb : Below w0.heap.size w0 w)
    (hown : w.ownsRow w0.heap.size 9 1 (.slice A ns.length c) ns.length (strs ns)) (hA : d.At w0 b o) (hd : ns.length ≤ 4000000) (h3 : d.kind = 3) (hm : d.s ∉ ns) :
    Calls Tryz.prog 46 #[.pointer (some ⟨b, o, none⟩), .slice A ns.length c] w fun e w' => e = .returned (ffV ((Ex.mk d l).firstF ns)) ∧ FFW w0.heap.size (.slice A ns.length c) ns w w' := by
  have HB := Lib.hid hb
  have HO := Lib.hid hown
  obtain ⟨c0, c1, _, c3, _, _, _, c7⟩ := hA.lower hb
  have hc := (contains_any d.s A ns ns.length c w (Rd.of_own hown) hd)
  rw [decide_eq_false hm] at hc
  have HC := Lib.hid hc
  have HE := Lib.hid (show (Ex.mk d l).firstF ns = some d.at_ by unfold Ex.firstF; rw [if_pos ⟨h3, hm⟩])
  have q3 : (d.kind == 3) = true := by simpa using h3
  clear hb hown hA hd hm hc
  go_enter Tryz.func46, Tryz.ntmps46
  go_wp2_with fail
  refine HC.out.mono ?_
  rintro e w1 ⟨rfl, hb1⟩
  have H1 := Lib.hid hb1
  have c1' := cell_below hb1 c1
  clear hb1 HC c0 c1 c3 c7
  go_wp2_with fail
  go_returns
  rw [HE.out]
  exact ⟨rfl, FW.below HO.out HB.out.size H1.out⟩

set_option maxRecDepth 100000 in
set_option maxHeartbeats 1000000 in
theorem first_loop (w0 : World) (d : ExD) (l : List Ex) (hI : (Ex.mk d l).In w0) (hK : KidsF w0 l) (ns : List Str) (A : Option Addr) (c : Nat) (w : World) (b o : Nat) (hb : Below w0.heap.size w0 w)
    (hown : w.ownsRow w0.heap.size 9 1 (.slice A ns.length c) ns.length (strs ns)) (hA : d.At w0 b o) (hd : ns.length + 2 * (depthL l + 1) ≤ 4000000) (hno : ¬ (d.kind = 3 ∧ d.s ∉ ns)) :
    Calls Tryz.prog 46 #[.pointer (some ⟨b, o, none⟩), .slice A ns.length c] w fun e w' => e = .returned (ffV ((Ex.mk d l).firstF ns)) ∧ FFW w0.heap.size (.slice A ns.length c) ns w w' := by
  have HI := Lib.hid hI
  have HK := Lib.hid hK
  have HB := Lib.hid hb
  have HO := Lib.hid hown
  have HA := Lib.hid hA
  have HD := Lib.hid hd
  have HNO := Lib.hid hno
  obtain ⟨c0, c1, _, c3, _, _, _, c7⟩ := hA.lower hb
  have HC := Lib.hid (contains_any d.s A ns ns.length c w (Rd.of_own hown) (by omega))
  obtain ⟨r, hr⟩ : ∃ r, (Ex.mk d l).firstF ns = r := ⟨_, rfl⟩
  have HR := Lib.hid (show firstFL d l 0 ns = r by rw [← hr]; unfold Ex.firstF; rw [if_neg hno])
  rw [hr]
  clear hI hK hb hown hA hd hno hr
  go_enter Tryz.func46, Tryz.ntmps46
  go_upto_region 1 with fail
  go_cut [22] from 9 to 26 (fun x wx => x = .bool false ∧ Below w.heap.size w wx)
  case first =>
    by_cases h3 : d.kind = 3
    · have q3 : (d.kind == 3) = true := by simpa using h3
      have hm : d.s ∈ ns := Classical.byContradiction fun h => HNO.out ⟨h3, h⟩
      go_wp2_with fail
      refine HC.out.mono ?_
      rintro e w1 ⟨rfl, hb1⟩
      have H1 := Lib.hid hb1
      have c1' := cell_below hb1 c1
      clear hb1 HC
      have qm : decide (d.s ∈ ns) = true := decide_eq_true hm
      rw [qm]
      clear hm qm
      go_wp2_with fail
      go_meet
      exact ⟨rfl, H1.out⟩
    · have q3 : (d.kind == 3) = false := by simpa using h3
      go_wp2_with fail
      go_meet
      exact ⟨rfl, Below.refl _ _⟩
  case rest =>
  obtain ⟨rfl, hcut⟩ := hcut
  have HW := Lib.hid (FW.below HO.out HB.out.size hcut)
  obtain ⟨c0, c1, _, c3, _, _, _, c7⟩ := HA.out.lower (HB.out.trans (hcut.mono HB.out.size))
  have HPN := Lib.hid (show l.length = d.pn from HI.out.len)
  have HP4 := Lib.hid (show d.pn ≤ 9223372036854775807 from HI.out.cap.2.2.1.2.2)
  clear hcut HC HNO
  go_wp2_with fail
  clear c0 c1 c3 c7
  go_loopw [32] (fun i wr => ∃ k : Nat, i = .int .i64 k ∧ k ≤ d.pn ∧ firstFL d (l.take k) 0 ns = none ∧ FFW w0.heap.size (.slice A ns.length c) ns w wr) (fun i _ => d.pn - (intOf i).toNat)
  case atStart => exact ⟨0, rfl, Nat.zero_le _, by rw [List.take_zero]; simp [firstFL], HW.out⟩
  case round =>
    obtain ⟨k, rfl, hk, hno, hfw⟩ := hrel
    have HF := Lib.hid (And.intro hno hfw)
    have hwr : Below w0.heap.size w0 wr := HB.out.trans hfw.b
    have HWR := Lib.hid hwr
    clear hno hfw
    by_cases hlt : k < d.pn
    · have hjl : k < l.length := by rw [HPN.out]; exact hlt
      obtain ⟨pb, po, hpA, hAtP⟩ := HI.out.part (k := k) hjl
      have hpA' : d.pA = some ⟨pb, po, none⟩ := hpA
      have hAt0 : (l[k]).d.At w0 pb (po + k * 8) := hAtP k hjl
      obtain ⟨x, hx⟩ : ∃ x, l[k] = x := ⟨_, rfl⟩
      rw [hx] at hAt0
      have hxm : x ∈ l := by rw [← hx]; exact List.getElem_mem hjl
      have htk : l.take (k + 1) = l.take k ++ [x] := by rw [List.take_succ_eq_append_getElem hjl, hx]
      have htl : (l.take k).length = k := by rw [List.length_take]; omega
      have hdx := depthL_mem l x hxm
      have hbl := d.boundC_le k
      have hd6 : d.At wr b o := HA.out.lower hwr
      have HBND := Lib.hid (fun (W : World) (h : Below wr.heap.size wr W) => boundC_any d l b o k (by have := HP4.out; omega) W (hd6.lower h) (HI.out.lower (hwr.trans (h.mono hwr.size))))
      obtain ⟨bs, hbs⟩ : ∃ bs, d.boundC k = bs := ⟨_, rfl⟩
      have hsn := fun h : firstFL d (l.take k) 0 ns = none => firstFL_snoc d x ns (l.take k) 0 h
      have hsn2 : firstFL d (l.take (k + 1)) 0 ns = x.firstF (ns ++ bs) := by rw [htk, hsn HF.out.1, Nat.zero_add, htl, hbs]
      rw [hbs] at HBND hbl
      have hkx : ∀ (v : Value) (W : World), Below w0.heap.size w0 W → W.ownsRow w0.heap.size 9 1 v (ns ++ bs).length (strs (ns ++ bs)) → Calls Tryz.prog 46 #[.pointer (some ⟨pb, po + k * 8, none⟩), v] W fun e w' => e = .returned (ffV (x.firstF (ns ++ bs))) ∧ FFW w0.heap.size v (ns ++ bs) W w' :=
        fun v W h1 h2 => HK.out x hxm (ns ++ bs) v W pb (po + k * 8) h1 h2 hAt0 (by rw [List.length_append]; have := HD.out; omega)
      obtain ⟨rx, hrx⟩ : ∃ rx, x.firstF (ns ++ bs) = rx := ⟨_, rfl⟩
      rw [hrx] at hkx hsn2
      have HKX := Lib.hid hkx
      have HSN := Lib.hid hsn2
      have HNL := Lib.hid (show (ns.length + bs.length) * 16 ≤ 140737488355328 by have := HD.out; omega)
      obtain ⟨_, _, _, _, _, _, _, c7⟩ := hd6
      rw [hpA'] at c7
      have HS := Lib.hid (fun (w6 : World) (h6 : Below w0.heap.size wr w6) => (h6.cell (p := ⟨b, o + 7, none⟩) (HA.out.lt)).trans c7)
      have hji : (k : Int) < (d.pn : Int) := by omega
      have hj0 : (0 : Int) ≤ (k : Int) := by omega
      have hj4 : (k : Int) ≤ 9223372036854775806 := by have := HP4.out; omega
      have HBW := Lib.hid hwr.size
      have HOW := Lib.hid HF.out.2.own
      have HOWD := Lib.hid (show wr.drew.ownsRow w0.heap.size 9 1 (.slice A ns.length c) ns.length (strs ns) from HF.out.2.own)
      have HDR := Lib.hid (show Below wr.heap.size wr wr.drew from (Below.refl _ _).drew)
      have HDR0 := Lib.hid (show Below w0.heap.size wr wr.drew from (Below.refl _ _).drew)
      clear hpA hpA' hAtP hAt0 hx hxm hjl htk htl hdx hbl hbs hsn hsn2 hkx hrx hwr
      cases rx with
      | some a =>
        have HKA := Lib.hid (show ∀ (v : Value) (W : World), Below w0.heap.size w0 W → W.ownsRow w0.heap.size 9 1 v (ns ++ bs).length (strs (ns ++ bs)) → Calls Tryz.prog 46 #[.pointer (some ⟨pb, po + k * 8, none⟩), v] W fun e w' => e = .returned (.tuple #[.int .i64 a, .bool true]) ∧ FFW w0.heap.size v (ns ++ bs) W w' from HKX.out)
        clear HKX
        go_wp2_with fail
        go_region_held3 (fun w' => w'.cell? ⟨b, o + 7, none⟩ = some (.slice (some ⟨pb, po, none⟩) d.pn d.pc))
          (first | exact HS.out _ hq8 | exact HS.out _ hq6 | exact HS.out _ hq5 | exact c7 | go_keep | fail)
          (first
            | (go_at_call 70; refine (HBND.out _ HDR.out).mono ?_; rintro e w5 ⟨A2, n2, c2, rfl, hr2, hn2, hb5, _⟩; have hl2 := rd_len hr2; subst hl2; have hq5 : Below w0.heap.size wr w5 := HDR0.out.trans (hb5.mono HBW.out))
            | (refine step_app2 elStr _ (by rfl) (.tmp 42) (.tmp 45) (by rfl) w0.heap.size (.slice A ns.length c) ns.length _ (by rfl) (own_below HOWD.out hb5) A2 bs.length c2 (strs bs) (by rfl) hr2 (strs_one bs) HNL.out (Nat.le_trans HBW.out hq5.size) ?_; intro v6 w6 hown6 hg6 ha6; rw [← List.length_append, ← strs_append] at hown6; have hq6 : Below w0.heap.size wr w6 := hq5.grown hg6 (Nat.le_trans HBW.out hq5.size) (fun k hk => (HOW.out.lt k hk).1))
            | (go_at_call 46; refine (HKA.out v6 w6 (HWR.out.trans hq6) hown6).mono ?_; rintro e w8 ⟨rfl, hf8⟩; have hq8 : Below w0.heap.size wr w8 := hq6.trans hf8.b)
            | fail)
        have HFW := Lib.hid (show FFW w0.heap.size (.slice A ns.length c) ns w w8 from by
          have k1 : FFW w0.heap.size (.slice A ns.length c) ns wr w5 := FW.below HOW.out HBW.out (HDR.out.trans (hb5.mono (Nat.le_of_eq rfl)))
          have k2 : FFW w0.heap.size (.slice A ns.length c) ns w5 w8 := FW.app (m := bs.length) (news := strs bs) k1.own (Nat.le_trans HBW.out hq5.size) hg6 ha6 (by rw [strs_length]; omega) (by rw [← List.length_append, ← strs_append]; exact hf8)
          exact (HF.out.2.trans k1).trans k2)
        clear hf8 hq8 hg6 ha6 hown6 hq6 hr2 hn2 hb5 hq5 HKA
        have HE := Lib.hid (show r = some a by
          rw [← HR.out]
          have h := firstFL_some d ns a (l.take (k + 1)) (l.drop (k + 1)) 0 HSN.out
          rwa [List.take_append_drop] at h)
        go_wp2_with fail
        go_returns
        rw [HE.out]
        exact ⟨rfl, HFW.out⟩
      | none =>
        have HKA := Lib.hid (show ∀ (v : Value) (W : World), Below w0.heap.size w0 W → W.ownsRow w0.heap.size 9 1 v (ns ++ bs).length (strs (ns ++ bs)) → Calls Tryz.prog 46 #[.pointer (some ⟨pb, po + k * 8, none⟩), v] W fun e w' => e = .returned (.tuple #[.int .i64 0, .bool false]) ∧ FFW w0.heap.size v (ns ++ bs) W w' from HKX.out)
        clear HKX
        go_wp2_with fail
        go_region_held3 (fun w' => w'.cell? ⟨b, o + 7, none⟩ = some (.slice (some ⟨pb, po, none⟩) d.pn d.pc))
          (first | exact HS.out _ hq8 | exact HS.out _ hq6 | exact HS.out _ hq5 | exact c7 | go_keep | fail)
          (first
            | (go_at_call 70; refine (HBND.out _ HDR.out).mono ?_; rintro e w5 ⟨A2, n2, c2, rfl, hr2, hn2, hb5, _⟩; have hl2 := rd_len hr2; subst hl2; have hq5 : Below w0.heap.size wr w5 := HDR0.out.trans (hb5.mono HBW.out))
            | (refine step_app2 elStr _ (by rfl) (.tmp 42) (.tmp 45) (by rfl) w0.heap.size (.slice A ns.length c) ns.length _ (by rfl) (own_below HOWD.out hb5) A2 bs.length c2 (strs bs) (by rfl) hr2 (strs_one bs) HNL.out (Nat.le_trans HBW.out hq5.size) ?_; intro v6 w6 hown6 hg6 ha6; rw [← List.length_append, ← strs_append] at hown6; have hq6 : Below w0.heap.size wr w6 := hq5.grown hg6 (Nat.le_trans HBW.out hq5.size) (fun k hk => (HOW.out.lt k hk).1))
            | (go_at_call 46; refine (HKA.out v6 w6 (HWR.out.trans hq6) hown6).mono ?_; rintro e w8 ⟨rfl, hf8⟩; have hq8 : Below w0.heap.size wr w8 := hq6.trans hf8.b)
            | fail)
        have HFW := Lib.hid (show FFW w0.heap.size (.slice A ns.length c) ns w w8 from by
          have k1 : FFW w0.heap.size (.slice A ns.length c) ns wr w5 := FW.below HOW.out HBW.out (HDR.out.trans (hb5.mono (Nat.le_of_eq rfl)))
          have k2 : FFW w0.heap.size (.slice A ns.length c) ns w5 w8 := FW.app (m := bs.length) (news := strs bs) k1.own (Nat.le_trans HBW.out hq5.size) hg6 ha6 (by rw [strs_length]; omega) (by rw [← List.length_append, ← strs_append]; exact hf8)
          exact (HF.out.2.trans k1).trans k2)
        clear hf8 hq8 hg6 ha6 hown6 hq6 hr2 hn2 hb5 hq5 HKA
        go_wp2_with fail
        go_roundw
        case rel => exact ⟨k + 1, by go_num, hlt, HSN.out, HFW.out⟩
        case measure => simp [intOf] <;> omega
    · have hji : ¬ (k : Int) < (d.pn : Int) := by omega
      have HE := Lib.hid (show r = none by
        rw [← HR.out]
        have h := HF.out.1
        rwa [List.take_of_length_le (by rw [HPN.out]; omega)] at h)
      clear hwr
      go_wp2_with fail
      go_returns
      rw [HE.out]
      exact ⟨rfl, HF.out.2⟩

set_option maxRecDepth 100000 in
/-- The first free variable, at every expression. -/
theorem first_any (w0 : World) (t : Ex) (hI : t.In w0) : ∀ (ns : List Str) (v : Value) (W : World) (b o : Nat), Below w0.heap.size w0 W → W.ownsRow w0.heap.size 9 1 v ns.length (strs ns) → t.d.At w0 b o → ns.length + 2 * t.depth ≤ 4000000 →
    Calls Tryz.prog 46 #[.pointer (some ⟨b, o, none⟩), v] W fun e w' => e = .returned (ffV (t.firstF ns)) ∧ FFW w0.heap.size v ns W w' := by
  induction hI with
  | mk d l lab nam par cap sub ih =>
  intro ns v W b o hb hown hA hd
  obtain ⟨A, c, rfl, _⟩ := own_cap hown
  by_cases h : d.kind = 3 ∧ d.s ∉ ns
  · exact first_var w0 d l ns A c W b o hb hown hA (by omega) h.1 h.2
  · exact first_loop w0 d l (.mk d l lab nam par cap sub) ih ns A c W b o hb hown hA (by simpa [Ex.depth] using hd) h
end Go.Proofs.YtaglmmcjhlehjaaGreatDoor

namespace Go.Proofs.YtaglmmcjhlehjaaGreatDoor
open Go.ChangeShapes Go.WideShapes Go.ChangeAt Go.RowKit
set_option linter.unusedVariables false

/- Two errors that are numbers of one integer type: equal where the numbers are. -/
theorem equal_codes {P : Program} {ti tn : TypeId} {ms : Array (String × TypeId)} {i : TypeInfo} {k : IntKind} (hi : P.underlying ti = some (.interface ms)) (hn : P.underlying tn = some (.int k)) (hinfo : P.info? tn = some i) (hcomp : i.comparable = true) (a b : Int) (w : World) :
    (Op.equal ti (.iface tn (.int k a)) (.iface tn (.int k b))).run P w = .ok (a == b) w := by
  have h : ∀ d : Nat, (Op.equalIn (d + 2) ti (.iface tn (.int k a)) (.iface tn (.int k b))).run P w = .ok (a == b) w := fun d => by
    simp [Op.equalIn, run_underlying hi, run_underlying hn, typeInfo, hinfo, hcomp]
  simp only [Op.equal, Op.maxDepth]
  exact h 9998
theorem codeInfo : ∃ i, Tryz.prog.info? 34 = some i ∧ i.comparable = true := by
  have h : (Tryz.prog.info? 34).map (·.comparable) = some true := by kernel_rfl
  obtain ⟨i, hi, hc⟩ := Option.map_eq_some_iff.1 h
  exact ⟨i, hi, hc⟩
@[go_sem] theorem eql_codes (a b : Int) (w : World) : (binOp .eql 31 (.iface 34 (.int .i64 a)) (.iface 34 (.int .i64 b))).run Tryz.prog w = .ok (.bool (a == b)) w := by
  obtain ⟨i, hi, hc⟩ := codeInfo
  have h := equal_codes (P := Tryz.prog) Tryz.underlying31 Tryz.underlying34 hi hc a b w
  simp only [binOp]
  simp [h]
@[go_sem] theorem neq_codes (a b : Int) (w : World) : (binOp .neq 31 (.iface 34 (.int .i64 a)) (.iface 34 (.int .i64 b))).run Tryz.prog w = .ok (.bool (a != b)) w := by
  obtain ⟨i, hi, hc⟩ := codeInfo
  have h := equal_codes (P := Tryz.prog) Tryz.underlying31 Tryz.underlying34 hi hc a b w
  simp only [binOp]
  simp [h, bne]
end Go.Proofs.YtaglmmcjhlehjaaGreatDoor
