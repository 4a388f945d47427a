/-
  Whether an expression may be, by the code: all of it.
-/
import Derived.Test.YtaglmmcjhlehjaaDoorExF
namespace Go.Proofs.YtaglmmcjhlehjaaDoor
open Go.ChangeShapes Go.WideShapes Go.ChangeAt Go.RowKit Go.Sort
set_option linter.unusedVariables false
set_option linter.unusedSimpArgs false
attribute [local irreducible] Go.wpQuiet

theorem fieldsMay_any (d : ExD) (l : List Ex) (b o : Nat) (w : World) (h : d.At w b o) (hI : (Ex.mk d l).In w) (hL : Lay w) :
    Calls Tryd.prog 20 #[.pointer (some ⟨b, o, none⟩)] w fun e w' => e = .returned (.bool d.fieldsB) ∧ Below w.heap.size w w' := by
  have hcap := hI.cap
  simp only [Ex.d] at hcap
  obtain ⟨tb, htb⟩ : ∃ tb, (!(bstr d.t).toList.isEmpty) = tb := ⟨_, rfl⟩
  have htd : (!decide (d.t = [])) = tb := by
    rw [← htb, bstr_toList]
    cases d.t with
    | nil => rfl
    | cons a r => rfl
  have CP := Lib.hid (fun dd os => Calls.regrown_of ((parts_any d.kind d.ln tb (by omega) (by have := hcap.1.2.2; omega) (grow (redrawn w dd) os)).mono fun e w' h => ⟨h.1, by rw [← h.2]; exact Below.refl _ _⟩))
  have CS := Lib.hid (fun dd os => Calls.regrown_of ((sMay_any d b o (grow (redrawn w dd) os) (h.lower (below_regrown w dd os)) (hL.below (below_regrown w dd os)) hcap.2.2.2.1).mono fun e w' h => ⟨h.1, h.2⟩))
  have CT := Lib.hid (fun dd os => Calls.regrown_of ((tMay_any d b o (grow (redrawn w dd) os) (h.lower (below_regrown w dd os)) (hL.below (below_regrown w dd os)) hcap.2.2.2.2.1).mono fun e w' h => ⟨h.1, h.2⟩))
  have CL := Lib.hid (fun dd os => Calls.regrown_of ((listsMay_any d l b o (grow (redrawn w dd) os) (h.lower (below_regrown w dd os)) (hI.lower (below_regrown w dd os)) (hL.below (below_regrown w dd os))).mono fun e w' h => ⟨h.1, h.2⟩))
  have e : d.fieldsB = (decide ((d.pn : Int) = partsF d.kind d.ln tb) && (decide (d.n = 0) || (decide (d.kind = 1) && decide (0 < d.n))) && d.sB && d.tB && d.listsB) := by unfold ExD.fieldsB; rw [htd]
  rw [e]
  clear e htd
  by_cases hp : (d.pn : Int) = partsF d.kind d.ln tb
  · have p1 : ((d.pn : Int) == partsF d.kind d.ln tb) = true := by simpa using hp
    rw [decide_eq_true hp, Bool.true_and]
    by_cases hn : d.n = 0
    · have n1 : (d.n == 0) = true := by simpa using hn
      rw [decide_eq_true hn, Bool.true_or, Bool.true_and]
      cases hs : d.sB with
      | false =>
        rw [hs] at CS
        exact fm_sa d b o w h CP CS CT CL htb p1 n1
      | true =>
        rw [hs] at CS
        cases ht : d.tB with
        | false =>
          rw [ht] at CT
          exact fm_ta d b o w h CP CS CT CL htb p1 n1
        | true =>
          rw [ht] at CT
          exact fm_la d b o w h CP CS CT CL htb p1 n1
    · have n0 : (d.n == 0) = false := by simpa using hn
      rw [decide_eq_false hn, Bool.false_or]
      by_cases hk : d.kind = 1
      · have k1 : (d.kind == 1) = true := by simpa using hk
        rw [decide_eq_true hk, Bool.true_and]
        by_cases hg : 0 < d.n
        · rw [decide_eq_true hg, Bool.true_and]
          cases hs : d.sB with
          | false =>
            rw [hs] at CS
            exact fm_sb d b o w h CP CS CT CL htb p1 n0 k1 (decide_eq_true hg)
          | true =>
            rw [hs] at CS
            cases ht : d.tB with
            | false =>
              rw [ht] at CT
              exact fm_tb d b o w h CP CS CT CL htb p1 n0 k1 (decide_eq_true hg)
            | true =>
              rw [ht] at CT
              exact fm_lb d b o w h CP CS CT CL htb p1 n0 k1 (decide_eq_true hg)
        · rw [decide_eq_false hg]
          exact fm_n2 d b o w h CP CS CT CL htb p1 n0 k1 (decide_eq_false hg)
      · have k0 : (d.kind == 1) = false := by simpa using hk
        rw [decide_eq_false hk]
        exact fm_n1 d b o w h CP CS CT CL htb p1 n0 k0
  · have p0 : ((d.pn : Int) == partsF d.kind d.ln tb) = false := by simpa using hp
    rw [decide_eq_false hp]
    exact fm_p d b o w h CP CS CT CL htb p0

theorem mayEL_le : ∀ (l : List Ex) (dep k j : Nat), mayEL l dep k = some j → k ≤ j ∧ (k ≤ 1500 → j ≤ 1500)
  | [], dep, k, j, h => by simp [mayEL] at h; omega
  | x :: l, dep, k, j, h => by
    unfold mayEL at h
    cases hx : mayE x dep k with
    | none => rw [hx] at h; cases h
    | some m =>
      rw [hx] at h
      have h2 := mayEL_le l dep m j h
      rw [mayE_spec] at hx
      split at hx
      · rename_i hc; injection hx with hx; omega
      · cases hx

set_option maxRecDepth 100000 in
set_option maxHeartbeats 1000000 in
theorem mayBe_any (w0 : World) (hL : Lay w0) (t : Ex) (hIn : t.In w0) :
    ∀ (b o dep : Nat) (q : Addr) (k : Nat) (w : World), t.d.At w0 b o → Below w0.heap.size w0 w → w0.heap.size ≤ q.block → w.cell? q = some (.int .i64 k) → w.frozen? q = false → k ≤ 1500 → dep ≤ 61 →
    Calls Tryd.prog 13 #[.pointer (some ⟨b, o, none⟩), .int .i64 dep, .pointer (some q)] w fun e w' => e = .returned (.bool (mayE t dep k).isSome) ∧ Below w0.heap.size w0 w' ∧ w.heap.size ≤ w'.heap.size ∧ w'.frozen? q = false ∧ ∃ j : Nat, w'.cell? q = some (.int .i64 j) ∧ ∀ m, mayE t dep k = some m → j = m := by
  induction hIn with
  | mk d l lab nam par cap sub ih =>
  intro b o dep q k w hAt0 hb hq hcq hfq hk hdep
  have hAt : d.At w0 b o := hAt0
  have hII : (Ex.mk d l).In w0 := .mk d l lab nam par cap sub
  have hlen : l.length = d.pn := by have := par.1; rw [flat_len Ex.cells_len] at this; omega
  have hqlt : q.block < w.heap.size := World.block_lt_of_cell? w _ hcq
  have hb1 : Below w0.heap.size w0 (w.setCell q (.int .i64 ((k + 1 : Nat) : Int))) := hb.setCell hq _
  have hc1 : (w.setCell q (.int .i64 ((k + 1 : Nat) : Int))).cell? q = some (.int .i64 ((k + 1 : Nat) : Int)) := World.cell?_setCell_same _ _ _ hcq
  have hf1 : (w.setCell q (.int .i64 ((k + 1 : Nat) : Int))).frozen? q = false := by rw [World.frozen?_setCell]; exact hfq
  have hs1 : (w.setCell q (.int .i64 ((k + 1 : Nat) : Int))).heap.size = w.heap.size := by simp
  have ek : ((k + 1 : Nat) : Int) = (k : Int) + 1 := by omega
  rw [ek] at hb1 hc1 hf1 hs1
  have hki : (k : Int) ≤ 1500 := by omega
  have HAll := Lib.hid (And.intro hb1 (And.intro hc1 (And.intro hf1 (And.intro hs1 (And.intro hAt (And.intro hII hlen))))))
  have HCAP := Lib.hid cap
  have HIH := Lib.hid (And.intro sub ih)
  have HQ := Lib.hid (And.intro hq hqlt)
  clear hb1 hc1 hf1 hs1 hAt hII lab nam par cap hlen sub ih hq hqlt hb hAt0 ek
  by_cases hd60 : 60 < dep
  · have e : mayE (.mk d l) dep k = none := by unfold mayE; rw [if_pos (.inl hd60)]
    rw [e]
    have hdi : (60 : Int) < (dep : Int) := by omega
    clear hd60 e hk
    go_enter Tryd.func13, Tryd.ntmps13
    go_wp2_with fail
    go_returns
    exact ⟨rfl, HAll.out.1, by simp, HAll.out.2.2.1, k + 1, by have := HAll.out.2.1; rwa [show ((k : Int) + 1) = ((k + 1 : Nat) : Int) from by omega] at this, fun m hm => by cases hm⟩
  have hdi : ¬ (60 : Int) < (dep : Int) := by omega
  by_cases hk4 : 1500 < k + 1
  · obtain rfl : k = 1500 := by omega
    have e : mayE (.mk d l) dep 1500 = none := by unfold mayE; rw [if_pos (by omega)]
    rw [e]
    clear hk4 e hki hk hd60
    go_enter Tryd.func13, Tryd.ntmps13
    go_wp2_with fail
    go_returns
    refine ⟨rfl, HAll.out.1, by simp, HAll.out.2.2.1, ?_⟩
    exact ⟨1501, HAll.out.2.1⟩
  have hki2 : (k : Int) + 1 ≤ 1500 := by omega
  have hki3 : ¬ (1500 : Int) < (k : Int) + 1 := by omega
  have HK := Lib.hid (And.intro hk4 hd60)
  have hd6 : (dep : Int) ≤ 61 := by omega
  clear hk4 hk hki hd60
  have HF := Lib.hid (fieldsMay_any d l b o _ (HAll.out.2.2.2.2.1.lower HAll.out.1) (HAll.out.2.2.2.2.2.1.lower HAll.out.1) (hL.below HAll.out.1))
  have HLAY := Lib.hid hL
  clear hL
  go_enter Tryd.func13, Tryd.ntmps13
  go_wp2_with fail
  refine HF.out.mono ?_
  rintro e w2 ⟨rfl, hb2⟩
  have HF2 := Lib.hid hb2
  clear HF hb2
  cases hfb : d.fieldsB with
  | false =>
    have e : mayE (.mk d l) dep k = none := by unfold mayE; rw [if_neg (by have := HK.out; omega), if_neg (by rw [hfb]; simp)]
    have HE := Lib.hid e
    clear e hfb
    go_wp2_with fail
    go_returns
    have hq2 : q.block < (w.setCell q (.int .i64 ((k : Int) + 1))).heap.size := by rw [HAll.out.2.2.2.1]; exact HQ.out.2
    refine ⟨by rw [HE.out]; rfl, HAll.out.1.trans (HF2.out.mono (by rw [HAll.out.2.2.2.1]; exact Nat.le_of_lt (Nat.lt_of_le_of_lt HQ.out.1 HQ.out.2))), by have := HF2.out.size; rw [HAll.out.2.2.2.1] at this; exact this, (HF2.out.frozen hq2).trans HAll.out.2.2.1, k + 1, ?_, fun m hm => by rw [HE.out] at hm; cases hm⟩
    rw [HF2.out.cell hq2, HAll.out.2.1]; rfl
  | true =>
    have hq2 : q.block < (w.setCell q (.int .i64 ((k : Int) + 1))).heap.size := by rw [HAll.out.2.2.2.1]; exact HQ.out.2
    have e : mayE (.mk d l) dep k = mayEL l (dep + 1) (k + 1) := by unfold mayE; rw [if_neg (by have := HK.out; omega), if_pos hfb]
    have hb3 : Below w0.heap.size w0 w2 := HAll.out.1.trans (HF2.out.mono (by rw [HAll.out.2.2.2.1]; exact Nat.le_of_lt (Nat.lt_of_le_of_lt HQ.out.1 HQ.out.2)))
    have hc3 : w2.cell? q = some (.int .i64 ((k + 1 : Nat) : Int)) := by rw [HF2.out.cell hq2, HAll.out.2.1]; rfl
    have hf3 : w2.frozen? q = false := (HF2.out.frozen hq2).trans HAll.out.2.2.1
    have hs3 : w.heap.size ≤ w2.heap.size := by have := HF2.out.size; rw [HAll.out.2.2.2.1] at this; exact this
    have HE := Lib.hid (And.intro e (And.intro hb3 (And.intro hc3 (And.intro hf3 hs3))))
    have c7 := (HAll.out.2.2.2.2.1.lower hb3).c7
    clear e hfb hb3 hc3 hf3 hs3 hq2
    go_wp2_with fail
    clear c7
    go_loopw [31] (fun i wr => ∃ m j : Nat, i = .int .i64 m ∧ m ≤ d.pn ∧ mayEL (l.take m) (dep + 1) (k + 1) = some j ∧ wr.cell? q = some (.int .i64 j) ∧ wr.frozen? q = false ∧ Below w0.heap.size w0 wr ∧ w.heap.size ≤ wr.heap.size) (fun i _ => d.pn - (intOf i).toNat)
    case atStart => exact ⟨0, k + 1, rfl, Nat.zero_le _, by simp [mayEL], HE.out.2.2.1, HE.out.2.2.2.1, HE.out.2.1, HE.out.2.2.2.2⟩
    case round =>
      obtain ⟨m, j, rfl, hm, hLL, hcj, hfj, hbj, hsj⟩ := hrel
      have HJ := Lib.hid (And.intro hLL (And.intro hcj (And.intro hfj (And.intro hbj hsj))))
      clear hLL hcj hfj hbj hsj
      by_cases hlt : m < d.pn
      · have hml : m < l.length := by rw [HAll.out.2.2.2.2.2.2]; exact hlt
        obtain ⟨pb, po, hpA, hAtP⟩ := HAll.out.2.2.2.2.2.1.part (k := m) hml
        have hpA' : d.pA = some ⟨pb, po, none⟩ := hpA
        have hAtM : (l[m]).d.At w0 pb (po + m * 8) := hAtP m hml
        have c7 := (HAll.out.2.2.2.2.1.lower HJ.out.2.2.2.1).c7
        rw [hpA'] at c7
        have hlti : (m : Int) < (d.pn : Int) := by omega
        have hmi : (m : Int) ≤ 9223372036854775806 := by have := HCAP.out.2.2.1.2.2; omega
        have hk1 : k + 1 ≤ 1500 := by omega
        have hj4 := (mayEL_le _ _ _ _ HJ.out.1).2 hk1
        obtain ⟨x, hx⟩ : ∃ x, l[m] = x := ⟨_, rfl⟩
        rw [hx] at hAtM
        have hxm : x ∈ l := by rw [← hx]; exact List.getElem_mem hml
        have htk : l.take (m + 1) = l.take m ++ [x] := by rw [List.take_succ_eq_append_getElem hml, hx]
        have HM := Lib.hid (HIH.out.2 x hxm pb (po + m * 8) (dep + 1) q j wr hAtM HJ.out.2.2.2.1 HQ.out.1 HJ.out.2.1 HJ.out.2.2.1 hj4 (by have := HK.out.2; omega))
        rw [show ((dep + 1 : Nat) : Int) = (dep : Int) + 1 from by omega] at HM
        have HS := Lib.hid htk
        clear hpA hpA' hAtP hAtM hx hxm htk hml hk1 hj4
        go_wp2_with fail
        refine HM.out.mono ?_
        rintro e w3 ⟨rfl, hb3, hs3, hf3, j3, hc3, hj3⟩
        have H3 := Lib.hid (And.intro hb3 (And.intro hs3 (And.intro hf3 (And.intro hc3 hj3))))
        clear HM hb3 hs3 hf3 hc3 hj3
        have hsn : mayEL (l.take (m + 1)) (dep + 1) (k + 1) = mayE x (dep + 1) j := by
          rw [HS.out, mayEL_snoc, HJ.out.1]
        have HN := Lib.hid hsn
        clear hsn
        cases hmf : mayE x (dep + 1) j with
        | none =>
          have he : mayEL l (dep + 1) (k + 1) = none := mayEL_take_none (i := m + 1) (by rw [HN.out, hmf])
          have HE2 := Lib.hid he
          clear he hmf
          go_wp2_with fail
          go_returns
          exact ⟨by rw [HE.out.1, HE2.out]; rfl, H3.out.1, Nat.le_trans HJ.out.2.2.2.2 H3.out.2.1, H3.out.2.2.1, j3, H3.out.2.2.2.1, fun y hy => by rw [HE.out.1, HE2.out] at hy; cases hy⟩
        | some j4 =>
          have hj34 : j3 = j4 := H3.out.2.2.2.2 j4 hmf
          have HE2 := Lib.hid (And.intro hj34 hmf)
          clear hj34 hmf
          go_wp2_with fail
          go_roundw
          case rel => exact ⟨m + 1, j4, by go_num, hlt, by rw [HN.out, HE2.out.2], by rw [← HE2.out.1]; exact H3.out.2.2.2.1, H3.out.2.2.1, H3.out.1, Nat.le_trans HJ.out.2.2.2.2 H3.out.2.1⟩
          case measure => simp [intOf] <;> omega
      · have hlti : ¬ (m : Int) < (d.pn : Int) := by omega
        go_wp2_with fail
        go_returns
        have hmm : l.take m = l := List.take_of_length_le (by rw [HAll.out.2.2.2.2.2.2]; omega)
        have hLL := HJ.out.1
        rw [hmm] at hLL
        exact ⟨by rw [HE.out.1, hLL]; rfl, HJ.out.2.2.2.1, HJ.out.2.2.2.2, HJ.out.2.2.1, j, HJ.out.2.1, fun x hx => by rw [HE.out.1, hLL] at hx; exact Option.some.inj hx⟩

/-- May: whether an expression may be. -/
theorem may_any (t : Ex) (w : World) (hL : Lay w) (hIn : t.In w) :
    Calls Tryd.prog 9 #[.agg t.d.arr] w fun e w' => e = .returned (.bool (mayE t 1 0).isSome) ∧ Below w.heap.size w w' := by
  have hb1 : Below w.heap.size w (w.alloc (.cells t.d.arr 25)) := (Below.refl _ _).alloc (Nat.le_refl _) _
  have hb2 : Below (w.alloc (.cells t.d.arr 25)).heap.size (w.alloc (.cells t.d.arr 25)) ((w.alloc (.cells t.d.arr 25)).alloc (.cells #[.int .i64 0] 3)) := (Below.refl _ _).alloc (Nat.le_refl _) _
  have HM := Lib.hid (mayBe_any _ (hL.below hb1) t (hIn.lower hb1) w.heap.size 0 1 ⟨w.heap.size + 1, 0, none⟩ 0 _ (ex_box w t.d) hb2 (by simp) (by simp [World.cell?_alloc_at]) (by simp) (by omega) (by omega))
  have HB := Lib.hid hb1
  clear hb1 hb2 hL hIn
  go_enter Tryd.func9, Tryd.ntmps9
  go_wp2_with fail
  refine HM.out.mono ?_
  rintro e w' ⟨rfl, hb, _⟩
  go_wp2_with fail
  go_returns
  exact ⟨rfl, HB.out.trans (hb.mono (by simp))⟩
end Go.Proofs.YtaglmmcjhlehjaaDoor
