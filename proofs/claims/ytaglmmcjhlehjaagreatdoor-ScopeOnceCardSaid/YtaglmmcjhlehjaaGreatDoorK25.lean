/-
  Whether two expressions are alike, by the document's answer.
  Whether two expressions' places are alike, by the document's answer; what is numbered alike is alike.
  The law on closedness and numbers, walked.
  Texts, and lists of texts, that came in.
  Expressions that came in, opened.
  From a walk to a statement: a law that returns true and turns nothing that was there meets its row.
-/
import Derived.Test.YtaglmmcjhlehjaaGreatDoorK24
import Derived.Test.YtaglmmcjhlehjaaGreatDoorK04
import Derived.Test.YtaglmmcjhlehjaaGreatDoorK03
import Derived.Test.YtaglmmcjhlehjaaGreatDoorK18
import Derived.Test.YtaglmmcjhlehjaaGreatDoorK12
import Derived.Test.YtaglmmcjhlehjaaGreatDoorK00
import Derived.ChangeMaps5
import Derived.Test.YtaglmmcjhlehjaaGreatDoorRows
import Derived.Deep.Slices
import Derived.Deep.Fields
import Derived.Lib.SmallJoins
import Derived.WalkKit
import Derived.ProofKit
import Derived.OpenShut
import Derived.ShutString
import Derived.ChangeOld
import Derived.Below
import Derived.Carry
namespace Go.Proofs.YtaglmmcjhlehjaaGreatDoor
open Go.ChangeShapes Go.WideShapes Go.ChangeAt Go.RowKit Go.Sort
set_option linter.unusedVariables false
set_option linter.unusedSimpArgs false
attribute [local irreducible] Go.wpQuiet

noncomputable def eqB (x y : Ex) : Bool := @decide (x.eqv y) (Classical.propDecidable _)
theorem eqB_true {x y : Ex} (h : x.eqv y) : eqB x y = true := @decide_eq_true _ (Classical.propDecidable _) h
theorem eqB_false {x y : Ex} (h : ¬ x.eqv y) : eqB x y = false := @decide_eq_false _ (Classical.propDecidable _) h
theorem eqB_iff {x y : Ex} : eqB x y = true ↔ x.eqv y := @decide_eq_true_iff _ (Classical.propDecidable _)
theorem eqvL_iff : ∀ (l m : List Ex), l.length = m.length → (eqvL l m ↔ ∀ j (h : j < l.length) (h' : j < m.length), l[j].eqv m[j])
  | [], [], _ => by simp [eqvL]
  | x :: l, y :: m, h => by
    simp only [eqvL]
    rw [eqvL_iff l m (by simpa using h)]
    constructor
    · intro hh j hj hj'
      cases j with
      | zero => exact hh.1
      | succ j => exact hh.2 j (by simpa using hj) (by simpa using hj')
    · intro hh
      exact ⟨hh 0 (by simp) (by simp), fun j hj hj' => hh (j + 1) (by simpa using hj) (by simpa using hj')⟩
  | [], y :: m, h => by simp at h
  | x :: l, [], h => by simp at h
theorem eqvL_len : ∀ {l m : List Ex}, eqvL l m → l.length = m.length
  | [], [], _ => rfl
  | x :: l, y :: m, h => by simp only [eqvL] at h; rw [List.length_cons, List.length_cons, eqvL_len h.2]
  | [], y :: m, h => by simp [eqvL] at h
  | x :: l, [], h => by simp [eqvL] at h
theorem list_eq {l m : List Str} (h : l.length = m.length) (hh : ∀ j (h : j < l.length) (h' : j < m.length), l[j] = m[j]) : l = m := List.ext_getElem h (fun j h1 h2 => hh j h1 h2)
theorem ne_facts (s t : Str) (b : Bool) (h : decide (s = t) = b) : ((bstr s).toList == (bstr t).toList) = b ∧ ((bstr s).toList != (bstr t).toList) = !b := by
  have h1 : ((bstr s).toList == (bstr t).toList) = b := by rw [beq_bstr, ← h]; first | done | rfl | exact decide_eq_decide.2 Iff.rfl
  exact ⟨h1, by simp only [bne, h1]⟩

set_option maxRecDepth 100000 in
set_option maxHeartbeats 2000000 in
theorem refTexts_any (A B : Option Addr) (l m : List Str) (n n' c c' : Nat) (w : World) (hr : Rd w 1 A n (strs l)) (hr' : Rd w 1 B n' (strs m)) (hm : n ≤ 9223372036854775807) (hm' : n' ≤ 9223372036854775807) :
    Calls Tryz.prog 51 #[.slice A n c, .slice B n' c'] w fun e w' => e = .returned (.bool (decide (l = m))) ∧ Below w.heap.size w w' := by
  have hl := rd_len hr
  have hl' := rd_len hr'
  have HR := Lib.hid (And.intro hr (And.intro hr' (And.intro hl hl')))
  by_cases hne : n = n'
  · have q1 : ((n : Int) != (n' : Int)) = false := by rw [hne]; simp
    have HNE := Lib.hid hne
    clear hr hr' hl hl' hne
    go_enter Tryz.func51, Tryz.ntmps51
    go_wp2_with fail
    go_loopw [5] (fun i wr => ∃ k : Nat, i = .int .i64 k ∧ k ≤ n ∧ (∀ j (h : j < l.length) (h' : j < m.length), j < k → l[j] = m[j]) ∧ Below w.heap.size w wr) (fun i _ => n - (intOf i).toNat)
    case atStart => exact ⟨0, rfl, Nat.zero_le _, (by intro j _ _ h; omega), Below.refl _ _⟩
    case round =>
      obtain ⟨k, rfl, hk, hall, hb⟩ := hrel
      have HALL := Lib.hid hall
      have HB := Lib.hid hb
      clear hall
      by_cases hlt : k < n
      · have hkl : k < l.length := by rw [HR.out.2.2.1]; exact hlt
        have hkm : k < m.length := by rw [HR.out.2.2.2, ← HNE.out]; exact hlt
        obtain ⟨b1, o1, rfl, hc1⟩ := (HR.out.1.below hb).str hkl
        obtain ⟨b2, o2, rfl, hc2⟩ := (HR.out.2.1.below hb).str hkm
        have h1 := hc1 k hkl
        have h2 := hc2 k hkm
        have hki : (k : Int) < (n : Int) := by omega
        have hki' : (k : Int) < (n' : Int) := by rw [← HNE.out]; omega
        have hk0 : (0 : Int) ≤ (k : Int) := by omega
        have hk9 : (k : Int) ≤ 9223372036854775806 := by omega
        have hwr : IntKind.i64.wrap (k : Int) = (k : Int) := by rw [IntKind.wrap_i64]; omega
        by_cases he : l[k] = m[k]
        · have hf := ne_facts l[k] m[k] true (decide_eq_true he)
          have HE := Lib.hid he
          obtain ⟨x, hx⟩ : ∃ x, l[k] = x := ⟨_, rfl⟩
          obtain ⟨y, hy⟩ : ∃ y, m[k] = y := ⟨_, rfl⟩
          rw [hx] at h1 hf
          rw [hy] at h2 hf
          obtain ⟨g1, g2⟩ := hf
          simp only [Bool.not_true] at g2
          clear hc1 hc2 hb hx hy he
          go_wp2_with fail
          go_quiet (fail)
          clear h1 h2
          go_wp2_with fail
          go_roundw
          case rel => exact ⟨k + 1, by go_num, hlt, fun j hj hj' hjk => (Nat.lt_succ_iff_lt_or_eq.1 hjk).elim (fun h => HALL.out j hj hj' h) (fun h => by subst h; exact HE.out), below_drewN HB.out _⟩
          case measure => simp [intOf] <;> omega
        · have hf := ne_facts l[k] m[k] false (decide_eq_false he)
          have HA := Lib.hid (show decide (l = m) = false from decide_eq_false (fun e => he (by subst e; rfl)))
          obtain ⟨x, hx⟩ : ∃ x, l[k] = x := ⟨_, rfl⟩
          obtain ⟨y, hy⟩ : ∃ y, m[k] = y := ⟨_, rfl⟩
          rw [hx] at h1 hf
          rw [hy] at h2 hf
          obtain ⟨g1, g2⟩ := hf
          simp only [Bool.not_false] at g2
          clear hc1 hc2 hb hx hy he
          go_wp2_with fail
          go_quiet (fail)
          clear h1 h2
          go_wp2_with fail
          go_returns
          exact ⟨by rw [HA.out]; rfl, below_drewN HB.out _⟩
      · have hki : ¬ (k : Int) < (n : Int) := by omega
        have HA := Lib.hid (show decide (l = m) = true from decide_eq_true (list_eq (by rw [HR.out.2.2.1, HR.out.2.2.2, HNE.out]) (fun j h h' => HALL.out j h h' (by rw [HR.out.2.2.1] at h; omega))))
        clear hb
        go_wp2_with fail
        go_returns
        exact ⟨by rw [HA.out]; rfl, HB.out⟩
  · have q1 : ((n : Int) != (n' : Int)) = true := by rw [bne_iff_ne]; omega
    have HA := Lib.hid (show decide (l = m) = false from decide_eq_false (fun e => hne (by rw [← hl, ← hl', e])))
    clear hr hr' hl hl' hne
    go_enter Tryz.func51, Tryz.ntmps51
    go_wp2_with fail
    go_returns
    exact ⟨by rw [HA.out]; rfl, Below.refl _ _⟩

set_option maxRecDepth 100000 in
set_option maxHeartbeats 8000000 in
theorem refSame_any (w0 : World) (x : Ex) (hIn : x.In w0) : ∀ (y : Ex), y.In w0 → ∀ (W : World), Below w0.heap.size w0 W →
    Calls Tryz.prog 23 #[.agg x.d.arr, .agg y.d.arr] W fun r w' => r = .returned (.bool (eqB x y)) ∧ Below W.heap.size W w' := by
  induction hIn with
  | mk d l lab nam par cap sub ih =>
  intro y hy W hb
  obtain ⟨e, m⟩ := y
  have HI := Lib.hid (Ex.In.mk d l lab nam par cap sub)
  have HY := Lib.hid hy
  have HIH := Lib.hid ih
  have hX0 := ex_box W d
  have hb1 : Below W.heap.size W (W.alloc (.cells d.arr 25)) := (Below.refl _ _).alloc (Nat.le_refl _) _
  have hY0 := ex_box (W.alloc (.cells d.arr 25)) e
  have hb2 : Below W.heap.size W ((W.alloc (.cells d.arr 25)).alloc (.cells e.arr 25)) := hb1.alloc hb1.size _
  have hb12 : Below (W.alloc (.cells d.arr 25)).heap.size (W.alloc (.cells d.arr 25)) ((W.alloc (.cells d.arr 25)).alloc (.cells e.arr 25)) := (Below.refl _ _).alloc (Nat.le_refl _) _
  have hX1 := hX0.lower hb12
  have HB2 := Lib.hid hb2
  have HW := Lib.hid (below_then hb hb2)
  have hsz : (W.alloc (.cells d.arr 25)).heap.size = W.heap.size + 1 := by simp
  rw [hsz] at hY0
  have HLP := Lib.hid (And.intro (show l.length = d.pn from HI.out.len) (show m.length = e.pn from HY.out.len))
  have HCX := Lib.hid (show _ from HI.out.cap)
  have HCY := Lib.hid (show _ from HY.out.cap)
  have HLX := Lib.hid (And.intro (show Rd w0 1 d.lA d.ln (strs d.labels) from HI.out.lab) (show Rd w0 1 d.nA d.nn (strs d.names) from HI.out.nam))
  have HLY := Lib.hid (And.intro (show Rd w0 1 e.lA e.ln (strs e.labels) from HY.out.lab) (show Rd w0 1 e.nA e.nn (strs e.names) from HY.out.nam))
  clear lab nam par cap sub ih hy hb hb1 hb2 hb12 hX0 hsz
  show Calls Tryz.prog 23 #[.agg d.arr, .agg e.arr] W _
  go_enter Tryz.func23, Tryz.ntmps23
  go_wp2_with fail
  obtain ⟨bx, hbx⟩ : ∃ bx, W.heap.size = bx := ⟨_, rfl⟩
  rw [hbx] at hX1 hY0
  try rw [hbx]
  obtain ⟨bY, hbY⟩ : ∃ bY, bx + 1 = bY := ⟨_, rfl⟩
  rw [hbY] at hY0
  try rw [hbY]
  clear hbx hbY
  generalize ((W.alloc (.cells d.arr 25)).alloc (.cells e.arr 25)) = w1 at *
  have HX := Lib.hid (fun V (h : Below w1.heap.size w1 V) => hX1.lower h)
  have HYA := Lib.hid (fun V (h : Below w1.heap.size w1 V) => hY0.lower h)
  obtain ⟨c0, c1, c2, c3, c4, c5, c6, c7⟩ := hX1
  obtain ⟨f0, f1, f2, f3, f4, f5, f6, f7⟩ := hY0
  go_wp2_with fail
  refine (refTexts_any d.lA e.lA d.labels e.labels d.ln e.ln d.lc e.lc w1 (HLX.out.1.below HW.out) (HLY.out.1.below HW.out) HCX.out.1.2.2 HCY.out.1.2.2).mono ?_
  rintro r w2 ⟨rfl, hb2⟩
  have H2 := Lib.hid hb2
  clear hb2 c0 c1 c2 c3 c4 c5 c6 c7 f0 f1 f2 f3 f4 f5 f6 f7
  obtain ⟨c0, c1, c2, c3, c4, c5, c6, c7⟩ := HX.out _ H2.out
  obtain ⟨f0, f1, f2, f3, f4, f5, f6, f7⟩ := HYA.out _ H2.out
  go_wp2_with fail
  refine (refTexts_any d.nA e.nA d.names e.names d.nn e.nn d.nc e.nc w2 (HLX.out.2.below (below_then HW.out H2.out)) (HLY.out.2.below (below_then HW.out H2.out)) HCX.out.2.1.2.2 HCY.out.2.1.2.2).mono ?_
  rintro r w3 ⟨rfl, hb3⟩
  have H3 := Lib.hid (below_then H2.out hb3)
  clear hb3 c0 c1 c2 c3 c4 c5 c6 c7 f0 f1 f2 f3 f4 f5 f6 f7
  obtain ⟨c0, c1, c2, c3, c4, c5, c6, c7⟩ := HX.out _ H3.out
  obtain ⟨f0, f1, f2, f3, f4, f5, f6, f7⟩ := HYA.out _ H3.out
  obtain ⟨bl, hbl⟩ : ∃ b, decide (d.labels = e.labels) = b := ⟨_, rfl⟩
  obtain ⟨bn, hbn⟩ : ∃ b, decide (d.names = e.names) = b := ⟨_, rfl⟩
  rw [hbl, hbn]
  have HBL := Lib.hid (And.intro hbl hbn)
  clear hbl hbn
  by_cases h1 : ¬ (d.kind = e.kind)
  · have HA := Lib.hid (show eqB (.mk d l) (.mk e m) = false from eqB_false (fun h => h1 (h.1)))
    have q : (d.kind != e.kind) = true := by rw [bne_iff_ne]; omega
    clear h1
    go_wp2_with fail
    go_returns
    exact ⟨by rw [HA.out]; rfl, below_then HB2.out H3.out⟩
  have h1 : d.kind = e.kind := Classical.not_not.1 h1
  have qh1 : (d.kind != e.kind) = false := by rw [h1]; simp
  by_cases h2 : ¬ (d.n = e.n)
  · have HA := Lib.hid (show eqB (.mk d l) (.mk e m) = false from eqB_false (fun h => h2 (h.2.1)))
    have q : (d.n != e.n) = true := by rw [bne_iff_ne]; omega
    clear h2
    go_wp2_with fail
    go_returns
    exact ⟨by rw [HA.out]; rfl, below_then HB2.out H3.out⟩
  have h2 : d.n = e.n := Classical.not_not.1 h2
  have qh2 : (d.n != e.n) = false := by rw [h2]; simp
  by_cases h3 : ¬ (d.s = e.s)
  · have HA := Lib.hid (show eqB (.mk d l) (.mk e m) = false from eqB_false (fun h => h3 (h.2.2.1)))
    obtain ⟨g1, g2⟩ := ne_facts d.s e.s false (decide_eq_false h3)
    simp only [Bool.not_false] at g2
    clear h3
    go_wp2_with fail
    go_returns
    exact ⟨by rw [HA.out]; rfl, below_then HB2.out H3.out⟩
  have h3 : d.s = e.s := Classical.not_not.1 h3
  obtain ⟨gh3, kh3⟩ := ne_facts d.s e.s true (decide_eq_true h3)
  simp only [Bool.not_true] at kh3
  by_cases h4 : ¬ (d.t = e.t)
  · have HA := Lib.hid (show eqB (.mk d l) (.mk e m) = false from eqB_false (fun h => h4 (h.2.2.2.1)))
    obtain ⟨g1, g2⟩ := ne_facts d.t e.t false (decide_eq_false h4)
    simp only [Bool.not_false] at g2
    clear h4
    go_wp2_with fail
    go_returns
    exact ⟨by rw [HA.out]; rfl, below_then HB2.out H3.out⟩
  have h4 : d.t = e.t := Classical.not_not.1 h4
  obtain ⟨gh4, kh4⟩ := ne_facts d.t e.t true (decide_eq_true h4)
  simp only [Bool.not_true] at kh4
  cases bl with
  | false =>
    have HA := Lib.hid (show eqB (.mk d l) (.mk e m) = false from eqB_false (fun h => absurd h.2.2.2.2.1 (of_decide_eq_false HBL.out.1)))
    go_wp2_with fail
    go_returns
    exact ⟨by rw [HA.out]; rfl, below_then HB2.out H3.out⟩
  | true =>
  cases bn with
  | false =>
    have HA := Lib.hid (show eqB (.mk d l) (.mk e m) = false from eqB_false (fun h => absurd h.2.2.2.2.2.1 (of_decide_eq_false HBL.out.2)))
    go_wp2_with fail
    go_returns
    exact ⟨by rw [HA.out]; rfl, below_then HB2.out H3.out⟩
  | true =>
  by_cases h7 : ¬ (d.pn = e.pn)
  · have HA := Lib.hid (show eqB (.mk d l) (.mk e m) = false from eqB_false (fun h => h7 (by rw [← HLP.out.1, ← HLP.out.2]; exact eqvL_len h.2.2.2.2.2.2)))
    have q : ((d.pn : Int) != (e.pn : Int)) = true := by rw [bne_iff_ne]; omega
    clear h7
    go_wp2_with fail
    go_returns
    exact ⟨by rw [HA.out]; rfl, below_then HB2.out H3.out⟩
  have h7 : d.pn = e.pn := Classical.not_not.1 h7
  have qh7 : ((d.pn : Int) != (e.pn : Int)) = false := by rw [h7]; simp
  have HQ := Lib.hid (And.intro h1 (And.intro h2 (And.intro h3 (And.intro h4 h7))))
  clear h1 h2 h3 h4 h7
  go_wp2_with fail
  clear c0 c1 c2 c3 c4 c5 c6 c7 f0 f1 f2 f3 f4 f5 f6 f7
  go_loopw [7] (fun i wr => ∃ k : Nat, i = .int .i64 k ∧ k ≤ d.pn ∧ (∀ j (h : j < l.length) (h' : j < m.length), j < k → (l[j]).eqv m[j]) ∧ Below w1.heap.size w1 wr) (fun i _ => d.pn - (intOf i).toNat)
  case atStart => exact ⟨0, rfl, Nat.zero_le _, (by intro j _ _ h; omega), H3.out⟩
  case round =>
    obtain ⟨k, rfl, hk, hall, hbr⟩ := hrel
    have HALL := Lib.hid hall
    have HR := Lib.hid hbr
    clear hall
    have c7 := (HX.out _ hbr).c7
    by_cases hlt : k < d.pn
    · have hkl : k < l.length := by rw [HLP.out.1]; exact hlt
      have hkm : k < m.length := by rw [HLP.out.2, ← HQ.out.2.2.2.2]; exact hlt
      obtain ⟨pb, po, hpA, hAtP⟩ := HI.out.part (k := k) hkl
      have hpA' : d.pA = some ⟨pb, po, none⟩ := hpA
      obtain ⟨pb', po', hpB, hAtQ⟩ := HY.out.part (k := k) hkm
      have hpB' : e.pA = some ⟨pb', po', none⟩ := hpB
      have f7 := (HYA.out _ hbr).c7
      rw [hpA'] at c7
      rw [hpB'] at f7
      have hAx : (l[k]).d.At w0 pb (po + k * 8) := hAtP k hkl
      have hAy : (m[k]).d.At w0 pb' (po' + k * 8) := hAtQ k hkm
      have hy : (m[k]).In w0 := HY.out.sub m[k] (List.getElem_mem hkm)
      have HC := HIH.out l[k] (List.getElem_mem hkl) m[k] hy
      obtain ⟨p0, p1, p2, p3, p4, p5, p6, p7⟩ := hAx.lower (below_then HW.out hbr)
      obtain ⟨r0, r1, r2, r3, r4, r5, r6, r7⟩ := hAy.lower (below_then HW.out hbr)
      have CX := Lib.hid (fun dd os => Calls.regrown_of ((HC (grow (redrawn wr dd) os) (below_then (below_then HW.out HR.out) (below_regrown wr dd os))).mono fun e w' hh => ⟨hh.1, hh.2⟩))
      have HEX := Lib.hid (show ∀ (h : k < l.length) (h' : k < m.length), eqB l[k] m[k] = true → (l[k]).eqv m[k] from fun _ _ h => eqB_iff.1 h)
      have HEN := Lib.hid (show eqB l[k] m[k] = false → eqB (.mk d l) (.mk e m) = false from fun h => eqB_false (fun hh => by
        have := (eqvL_iff l m (eqvL_len hh.2.2.2.2.2.2)).1 hh.2.2.2.2.2.2 k hkl hkm
        rw [eqB_true this] at h; cases h))
      obtain ⟨x, hx⟩ : ∃ x, l[k] = x := ⟨_, rfl⟩
      obtain ⟨z, hz⟩ : ∃ z, m[k] = z := ⟨_, rfl⟩
      rw [hx] at p0 p1 p2 p3 p4 p5 p6 p7 CX HEN
      rw [hz] at r0 r1 r2 r3 r4 r5 r6 r7 CX HEN
      have HXZ := Lib.hid (And.intro hx hz)
      obtain ⟨v, hv⟩ : ∃ v, eqB x z = v := ⟨_, rfl⟩
      rw [hv] at CX HEN
      have HV := Lib.hid hv
      obtain ⟨dx, hdx⟩ : ∃ dx, x.d = dx := ⟨_, rfl⟩
      rw [hdx] at p0 p1 p2 p3 p4 p5 p6 p7 CX
      obtain ⟨dz, hdz⟩ : ∃ dz, z.d = dz := ⟨_, rfl⟩
      rw [hdz] at r0 r1 r2 r3 r4 r5 r6 r7 CX
      have kc := cell_regrown c7
      have kf := cell_regrown f7
      have kp0 := cell_regrown p0
      have kr0 := cell_regrown r0
      have kp1 := cell_regrown p1
      have kr1 := cell_regrown r1
      have kp2 := cell_regrown p2
      have kr2 := cell_regrown r2
      have kp3 := cell_regrown p3
      have kr3 := cell_regrown r3
      have kp4 := cell_regrown p4
      have kr4 := cell_regrown r4
      have kp5 := cell_regrown p5
      have kr5 := cell_regrown r5
      have kp6 := cell_regrown p6
      have kr6 := cell_regrown r6
      have kp7 := cell_regrown p7
      have kr7 := cell_regrown r7
      have hki : (k : Int) < (d.pn : Int) := by omega
      have hki' : (k : Int) < (e.pn : Int) := by rw [← HQ.out.2.2.2.2]; omega
      have hk0 : (0 : Int) ≤ (k : Int) := by omega
      have hk9 : (k : Int) ≤ 9223372036854775806 := by have := HCX.out.2.2.1.2.2; simp only [Ex.d] at this; omega
      have hwr : IntKind.i64.wrap (k : Int) = (k : Int) := by rw [IntKind.wrap_i64]; omega
      clear hbr hpA hpA' hpB hpB' hAtP hAtQ hAx hAy hy HC hx hz hv hdx hdz p0 p1 p2 p3 p4 p5 p6 p7 r0 r1 r2 r3 r4 r5 r6 r7 f7
      go_wp2_with fail
      refine wp_region_quiet_below (by kernel_rfl) (by kernel_rfl) ?_
      iterate 12 (quiet_step ((go_at_call 23; with_reducible exact CX.out _ _)))
      refine wpQuiet_nil ?_
      intro _ hw
      obtain ⟨⟨dq, osq⟩, hw''⟩ := hw
      subst hw''
      have hbq := below_regrown wr dq osq
      have H5 := Lib.hid (below_then HR.out hbq)
      clear hbq
      cases v with
      | true =>
        go_wp2_with fail
        go_roundw
        case rel => exact ⟨k + 1, by go_num, hlt, fun j hj hj' hjk => (Nat.lt_succ_iff_lt_or_eq.1 hjk).elim (fun h => HALL.out j hj hj' h) (fun h => by subst h; exact HEX.out hj hj' (by rw [HXZ.out.1, HXZ.out.2]; exact HV.out)), H5.out⟩
        case measure => simp [intOf] <;> omega
      | false =>
        have HA := Lib.hid (HEN.out rfl)
        go_wp2_with fail
        go_returns
        exact ⟨by rw [HA.out]; rfl, below_then HB2.out H5.out⟩
    · have hki : ¬ (k : Int) < (d.pn : Int) := by omega
      have HA := Lib.hid (show eqB (.mk d l) (.mk e m) = true from eqB_true ⟨HQ.out.1, HQ.out.2.1, HQ.out.2.2.1, HQ.out.2.2.2.1, of_decide_eq_true HBL.out.1, of_decide_eq_true HBL.out.2, (eqvL_iff l m (by rw [HLP.out.1, HLP.out.2, HQ.out.2.2.2.2])).2 (fun j h h' => HALL.out j h h' (by rw [HLP.out.1] at h; omega))⟩)
      clear hbr
      go_wp2_with fail
      go_returns
      exact ⟨by rw [HA.out]; rfl, below_then HB2.out HR.out⟩
end Go.Proofs.YtaglmmcjhlehjaaGreatDoor

namespace Go.Proofs.YtaglmmcjhlehjaaGreatDoor
open Go.ChangeShapes Go.WideShapes Go.ChangeAt Go.RowKit Go.Sort
set_option linter.unusedVariables false
set_option linter.unusedSimpArgs false
attribute [local irreducible] Go.wpQuiet

mutual
def Ex.pl : Ex → Ex → Prop
  | .mk d l, .mk e m => d.at_ = e.at_ ∧ plL l m
def plL : List Ex → List Ex → Prop
  | [], [] => True
  | x :: l, y :: m => x.pl y ∧ plL l m
  | _, _ => False
end
theorem plL_len : ∀ {l m : List Ex}, plL l m → l.length = m.length
  | [], [], _ => rfl
  | x :: l, y :: m, h => by simp only [plL] at h; rw [List.length_cons, List.length_cons, plL_len h.2]
  | [], y :: m, h => by simp [plL] at h
  | x :: l, [], h => by simp [plL] at h
theorem plL_get : ∀ {l m : List Ex}, plL l m → ∀ j (h : j < l.length) (h' : j < m.length), (l[j]).pl m[j]
  | x :: l, y :: m, h, j, hj, hj' => by
    simp only [plL] at h
    cases j with
    | zero => exact h.1
    | succ j => exact plL_get h.2 j (by simpa using hj) (by simpa using hj')
mutual
theorem pl_lk : ∀ {x y u : Ex}, x.lk u → y.lk u → x.pl y
  | .mk d l, .mk e m, .mk f n, h, k => by
    simp only [Ex.lk] at h k
    exact ⟨h.1.2.1.trans k.1.2.1.symm, plL_lk h.2 k.2⟩
theorem plL_lk : ∀ {l m n : List Ex}, lkL l n → lkL m n → plL l m
  | [], [], [], _, _ => trivial
  | x :: l, y :: m, z :: n, h, k => by
    simp only [lkL] at h k
    exact ⟨pl_lk h.1 k.1, plL_lk h.2 k.2⟩
  | _ :: _, _, [], h, _ => by simp [lkL] at h
  | [], _, _ :: _, h, _ => by simp [lkL] at h
  | _, _ :: _, [], _, k => by simp [lkL] at k
  | _, [], _ :: _, _, k => by simp [lkL] at k
end
mutual
theorem eqv_lk : ∀ {x y u : Ex}, x.lk u → y.lk u → x.eqv y
  | .mk d l, .mk e m, .mk f n, h, k => by
    simp only [Ex.lk] at h k
    obtain ⟨⟨h1, h2, h3, h4, h5, h6, h7⟩, hl⟩ := h
    obtain ⟨⟨k1, k2, k3, k4, k5, k6, k7⟩, kl⟩ := k
    exact ⟨h1.trans k1.symm, h3.trans k3.symm, h4.trans k4.symm, h5.trans k5.symm, h6.trans k6.symm, h7.trans k7.symm, eqvL_lk hl kl⟩
theorem eqvL_lk : ∀ {l m n : List Ex}, lkL l n → lkL m n → eqvL l m
  | [], [], [], _, _ => trivial
  | x :: l, y :: m, z :: n, h, k => by
    simp only [lkL] at h k
    exact ⟨eqv_lk h.1 k.1, eqvL_lk h.2 k.2⟩
  | _ :: _, _, [], h, _ => by simp [lkL] at h
  | [], _, _ :: _, h, _ => by simp [lkL] at h
  | _, _ :: _, [], _, k => by simp [lkL] at k
  | _, [], _ :: _, _, k => by simp [lkL] at k
end

set_option maxRecDepth 100000 in
set_option maxHeartbeats 8000000 in
theorem refPlaces_any (w0 : World) (x : Ex) (hIn : x.In w0) : ∀ (y : Ex), y.In w0 → x.pl y → ∀ (W : World), Below w0.heap.size w0 W →
    Calls Tryz.prog 24 #[.agg x.d.arr, .agg y.d.arr] W fun r w' => r = .returned (.bool true) ∧ Below W.heap.size W w' := by
  induction hIn with
  | mk d l lab nam par cap sub ih =>
  intro y hy hpl W hb
  obtain ⟨e, m⟩ := y
  have HPL := Lib.hid (show d.at_ = e.at_ ∧ plL l m from hpl)
  have HI := Lib.hid (Ex.In.mk d l lab nam par cap sub)
  have HY := Lib.hid hy
  have HIH := Lib.hid ih
  have hX0 := ex_box W d
  have hb1 : Below W.heap.size W (W.alloc (.cells d.arr 25)) := (Below.refl _ _).alloc (Nat.le_refl _) _
  have hY0 := ex_box (W.alloc (.cells d.arr 25)) e
  have hb2 : Below W.heap.size W ((W.alloc (.cells d.arr 25)).alloc (.cells e.arr 25)) := hb1.alloc hb1.size _
  have hb12 : Below (W.alloc (.cells d.arr 25)).heap.size (W.alloc (.cells d.arr 25)) ((W.alloc (.cells d.arr 25)).alloc (.cells e.arr 25)) := (Below.refl _ _).alloc (Nat.le_refl _) _
  have hX1 := hX0.lower hb12
  have HB2 := Lib.hid hb2
  have HW := Lib.hid (below_then hb hb2)
  have hsz : (W.alloc (.cells d.arr 25)).heap.size = W.heap.size + 1 := by simp
  rw [hsz] at hY0
  have HLP := Lib.hid (And.intro (show l.length = d.pn from HI.out.len) (show m.length = e.pn from HY.out.len))
  have HCX := Lib.hid (show _ from HI.out.cap)
  have HCY := Lib.hid (show _ from HY.out.cap)
  have HLX := Lib.hid (And.intro (show Rd w0 1 d.lA d.ln (strs d.labels) from HI.out.lab) (show Rd w0 1 d.nA d.nn (strs d.names) from HI.out.nam))
  have HLY := Lib.hid (And.intro (show Rd w0 1 e.lA e.ln (strs e.labels) from HY.out.lab) (show Rd w0 1 e.nA e.nn (strs e.names) from HY.out.nam))
  clear lab nam par cap sub ih hy hpl hb hb1 hb2 hb12 hX0 hsz
  show Calls Tryz.prog 24 #[.agg d.arr, .agg e.arr] W _
  go_enter Tryz.func24, Tryz.ntmps24
  go_upto_region 1 with fail
  obtain ⟨bx, hbx⟩ : ∃ bx, W.heap.size = bx := ⟨_, rfl⟩
  rw [hbx] at hX1 hY0
  try rw [hbx]
  obtain ⟨bY, hbY⟩ : ∃ bY, bx + 1 = bY := ⟨_, rfl⟩
  rw [hbY] at hY0
  try rw [hbY]
  clear hbx hbY
  generalize ((W.alloc (.cells d.arr 25)).alloc (.cells e.arr 25)) = w1 at *
  have HX := Lib.hid (fun V (h : Below w1.heap.size w1 V) => hX1.lower h)
  have HYA := Lib.hid (fun V (h : Below w1.heap.size w1 V) => hY0.lower h)
  obtain ⟨c0, c1, c2, c3, c4, c5, c6, c7⟩ := hX1
  obtain ⟨f0, f1, f2, f3, f4, f5, f6, f7⟩ := hY0
  have h7 : d.pn = e.pn := by rw [← HLP.out.1, ← HLP.out.2]; exact plL_len HPL.out.2
  have qh1 : (d.at_ != e.at_) = false := by rw [HPL.out.1]; simp
  have qh7 : ((d.pn : Int) != (e.pn : Int)) = false := by rw [h7]; simp
  have H3 := Lib.hid (Below.refl w1.heap.size w1)
  have HQ := Lib.hid h7
  clear h7
  go_wp2_with fail
  clear c0 c1 c2 c3 c4 c5 c6 c7 f0 f1 f2 f3 f4 f5 f6 f7
  go_loopw [5] (fun i wr => ∃ k : Nat, i = .int .i64 k ∧ k ≤ d.pn ∧ Below w1.heap.size w1 wr) (fun i _ => d.pn - (intOf i).toNat)
  case atStart => exact ⟨0, rfl, Nat.zero_le _, H3.out⟩
  case round =>
    obtain ⟨k, rfl, hk, hbr⟩ := hrel
    have HR := Lib.hid hbr
    have c7 := (HX.out _ hbr).c7
    by_cases hlt : k < d.pn
    · have hkl : k < l.length := by rw [HLP.out.1]; exact hlt
      have hkm : k < m.length := by rw [HLP.out.2, ← HQ.out]; exact hlt
      obtain ⟨pb, po, hpA, hAtP⟩ := HI.out.part (k := k) hkl
      have hpA' : d.pA = some ⟨pb, po, none⟩ := hpA
      obtain ⟨pb', po', hpB, hAtQ⟩ := HY.out.part (k := k) hkm
      have hpB' : e.pA = some ⟨pb', po', none⟩ := hpB
      have f7 := (HYA.out _ hbr).c7
      rw [hpA'] at c7
      rw [hpB'] at f7
      have hAx : (l[k]).d.At w0 pb (po + k * 8) := hAtP k hkl
      have hAy : (m[k]).d.At w0 pb' (po' + k * 8) := hAtQ k hkm
      have hy : (m[k]).In w0 := HY.out.sub m[k] (List.getElem_mem hkm)
      have HC := HIH.out l[k] (List.getElem_mem hkl) m[k] hy (plL_get HPL.out.2 k hkl hkm)
      obtain ⟨p0, p1, p2, p3, p4, p5, p6, p7⟩ := hAx.lower (below_then HW.out hbr)
      obtain ⟨r0, r1, r2, r3, r4, r5, r6, r7⟩ := hAy.lower (below_then HW.out hbr)
      have CX := Lib.hid (fun dd os => Calls.regrown_of ((HC (grow (redrawn wr dd) os) (below_then (below_then HW.out HR.out) (below_regrown wr dd os))).mono fun e w' hh => ⟨hh.1, hh.2⟩))
      obtain ⟨x, hx⟩ : ∃ x, l[k] = x := ⟨_, rfl⟩
      obtain ⟨z, hz⟩ : ∃ z, m[k] = z := ⟨_, rfl⟩
      rw [hx] at p0 p1 p2 p3 p4 p5 p6 p7 CX
      rw [hz] at r0 r1 r2 r3 r4 r5 r6 r7 CX
      obtain ⟨dx, hdx⟩ : ∃ dx, x.d = dx := ⟨_, rfl⟩
      rw [hdx] at p0 p1 p2 p3 p4 p5 p6 p7 CX
      obtain ⟨dz, hdz⟩ : ∃ dz, z.d = dz := ⟨_, rfl⟩
      rw [hdz] at r0 r1 r2 r3 r4 r5 r6 r7 CX
      have kc := cell_regrown c7
      have kf := cell_regrown f7
      have kp0 := cell_regrown p0
      have kr0 := cell_regrown r0
      have kp1 := cell_regrown p1
      have kr1 := cell_regrown r1
      have kp2 := cell_regrown p2
      have kr2 := cell_regrown r2
      have kp3 := cell_regrown p3
      have kr3 := cell_regrown r3
      have kp4 := cell_regrown p4
      have kr4 := cell_regrown r4
      have kp5 := cell_regrown p5
      have kr5 := cell_regrown r5
      have kp6 := cell_regrown p6
      have kr6 := cell_regrown r6
      have kp7 := cell_regrown p7
      have kr7 := cell_regrown r7
      have hki : (k : Int) < (d.pn : Int) := by omega
      have hki' : (k : Int) < (e.pn : Int) := by rw [← HQ.out]; omega
      have hk0 : (0 : Int) ≤ (k : Int) := by omega
      have hk9 : (k : Int) ≤ 9223372036854775806 := by have := HCX.out.2.2.1.2.2; simp only [Ex.d] at this; omega
      have hwr : IntKind.i64.wrap (k : Int) = (k : Int) := by rw [IntKind.wrap_i64]; omega
      clear hbr hpA hpA' hpB hpB' hAtP hAtQ hAx hAy hy HC hx hz hdx hdz p0 p1 p2 p3 p4 p5 p6 p7 r0 r1 r2 r3 r4 r5 r6 r7 f7
      go_wp2_with fail
      refine wp_region_quiet_below (by kernel_rfl) (by kernel_rfl) ?_
      iterate 12 (quiet_step ((go_at_call 24; with_reducible exact CX.out _ _)))
      refine wpQuiet_nil ?_
      intro _ hw
      obtain ⟨⟨dq, osq⟩, hw''⟩ := hw
      subst hw''
      have hbq := below_regrown wr dq osq
      have H5 := Lib.hid (below_then HR.out hbq)
      clear hbq
      go_wp2_with fail
      go_roundw
      case rel => exact ⟨k + 1, by go_num, hlt, H5.out⟩
      case measure => simp [intOf] <;> omega
    · have hki : ¬ (k : Int) < (d.pn : Int) := by omega
      clear hbr
      go_wp2_with fail
      go_returns
      exact ⟨rfl, below_then HB2.out HR.out⟩
end Go.Proofs.YtaglmmcjhlehjaaGreatDoor

namespace Go.Proofs.YtaglmmcjhlehjaaGreatDoor
open Go.ChangeShapes Go.WideShapes Go.ChangeAt Go.RowKit Go.Sort
set_option linter.unusedVariables false
set_option linter.unusedSimpArgs false

set_option maxRecDepth 100000 in
set_option maxHeartbeats 2000000 in
theorem refTextsP_any (A B : Option Addr) (l m : List Str) (n n' c c' : Nat) (w : World) (hr : Rd w 1 A n (strs l)) (hr' : Rd w 1 B n' (strs m)) (hm : n ≤ 9223372036854775807) (hm' : n' ≤ 9223372036854775807) :
    Calls Tryz.prog 25 #[.slice A n c, .slice B n' c'] w fun e w' => e = .returned (.bool (decide (l = m))) ∧ Below w.heap.size w w' := by
  have HX := Lib.hid (refTexts_any A B l m n n' c c' w hr hr' hm hm')
  clear hr hr'
  go_enter Tryz.func25, Tryz.ntmps25
  go_wp2_with fail
  refine HX.out.mono ?_
  rintro e w1 ⟨rfl, hb⟩
  have HB := Lib.hid hb
  clear hb HX
  go_wp2_with fail
  go_returns
  exact ⟨rfl, HB.out⟩

set_option maxRecDepth 100000 in
set_option maxHeartbeats 4000000 in
theorem scopeTells_any (d : ExD) (l : List Ex) (w : World) (hL : Lay w) (hT : Tab w) (hE : ET w) (hI : (Ex.mk d l).In w) (hm : (Ex.mk d l).Sm) (hn : (Ex.mk d l).nodes ≤ 3000000) :
    Calls Tryz.prog 5 #[.agg d.arr] w fun e w' => e = .returned (.bool true) ∧ Below w.heap.size w w' := by
  have hb1 : Below w.heap.size w (w.alloc (.cells d.arr 25)) := (Below.refl _ _).alloc (Nat.le_refl _) _
  have hE1 := ex_box w d
  have HI := Lib.hid (And.intro hI (And.intro hm (And.intro hn (And.intro hL (And.intro hT hE)))))
  clear hI hm hn hL hT hE
  go_enter Tryz.func5, Tryz.ntmps5
  go_wp2_with fail
  obtain ⟨bx, hbx⟩ : ∃ bx, w.heap.size = bx := ⟨_, rfl⟩
  rw [hbx] at hE1
  try rw [hbx]
  clear hbx
  generalize (w.alloc (.cells d.arr 25)) = w1 at *
  have HE := Lib.hid (fun W (h : Below w1.heap.size w1 W) => hE1.lower h)
  have HB1 := Lib.hid hb1
  clear hb1 hE1
  refine (up8_any w1 (HI.out.2.2.2.1.below HB1.out) (tab_below HI.out.2.2.2.2.1 HB1.out) (HI.out.2.2.2.2.2.below HB1.out)).mono ?_
  rintro e w2 ⟨rfl, hb2⟩
  have HB2 := Lib.hid hb2
  obtain ⟨c0, c1, c2, c3, c4, c5, c6, c7⟩ := HE.out w2 hb2
  clear hb2
  go_wp2_with fail
  refine (Few_any w (Ex.mk d l) HI.out.1 w2 (below_then HB1.out HB2.out)).mono ?_
  rintro e w3 ⟨⟨v, rfl⟩, hb3⟩
  have HB3 := Lib.hid (below_then HB2.out hb3)
  clear hb3 c0 c1 c2 c3 c4 c5 c6 c7
  obtain ⟨c0, c1, c2, c3, c4, c5, c6, c7⟩ := HE.out w3 HB3.out
  cases v with
  | false =>
    go_wp2_with fail
    go_returns
    exact ⟨rfl, below_then HB1.out HB3.out⟩
  | true =>
  have HB03 := Lib.hid (below_then HB1.out HB3.out)
  go_wp2_with fail
  refine (refCheck_any (Ex.mk d l) w3 (tab_below HI.out.2.2.2.2.1 HB03.out) (HI.out.1.lower HB03.out) HI.out.2.2.1 HI.out.2.1).mono ?_
  rintro e w4 ⟨rfl, hb4⟩
  have HB4 := Lib.hid (below_then HB3.out hb4)
  clear hb4 c0 c1 c2 c3 c4 c5 c6 c7
  obtain ⟨c0, c1, c2, c3, c4, c5, c6, c7⟩ := HE.out w4 HB4.out
  have HB04 := Lib.hid (below_then HB1.out HB4.out)
  have HC := Lib.hid (check_any (Ex.mk d l) w4 (HI.out.2.2.2.1.below HB04.out) (HI.out.1.lower HB04.out))
  obtain ⟨ck, hck⟩ : ∃ ck, (Ex.mk d l).chk = ck := ⟨_, rfl⟩
  rw [hck] at HC ⊢
  have HCK := Lib.hid hck
  obtain ⟨k1, k2⟩ := ck
  clear hck
  go_wp2_with fail
  refine HC.out.mono ?_
  rintro e w5 ⟨ve, rfl, herr, hb5⟩
  have HB5 := Lib.hid (below_then HB4.out hb5)
  have HB05 := Lib.hid (below_then HB1.out HB5.out)
  have HO := Lib.hid (of_any ve k1 k2 w5 (HI.out.2.2.2.2.2.below HB05.out) herr)
  clear herr hb5 c0 c1 c2 c3 c4 c5 c6 c7 HC
  go_wp2_with fail
  refine HO.out.mono ?_
  rintro e w6 ⟨rfl, hb6⟩
  have HB6 := Lib.hid (below_then HB5.out hb6)
  have HB06 := Lib.hid (below_then HB1.out HB6.out)
  clear hb6 HO
  obtain ⟨c0, c1, c2, c3, c4, c5, c6, c7⟩ := HE.out w6 HB6.out
  have n1 : (k1 != k1) = false := by simp
  have n2 : (k2 != k2) = false := by simp
  have HN := Lib.hid (scNumber_any (Ex.mk d l) w6 (HI.out.2.2.2.1.below HB06.out) (tab_below HI.out.2.2.2.2.1 HB06.out) (HI.out.1.lower HB06.out))
  go_wp2_with fail
  refine HN.out.mono ?_
  rintro e w7 ⟨hb7, hr⟩
  have HB7 := Lib.hid (below_then HB6.out hb7)
  clear hb7 c0 c1 c2 c3 c4 c5 c6 c7 HN
  cases hmay : (mayE (Ex.mk d l) 1 0).isSome with
  | false =>
    rw [hmay, if_neg (by simp)] at hr
    subst hr
    have hk : k1 = 1 := by
      have h := HCK.out
      unfold Ex.chk at h
      rw [hmay, if_neg (by simp)] at h
      injection h with h1 _
      exact h1.symm
    subst hk
    clear hmay
    go_wp2_with fail
    go_returns
    exact ⟨rfl, (below_then HB1.out HB7.out).alloc (Nat.le_trans HB1.out.size HB7.out.size) _⟩
  | true =>
    rw [hmay, if_pos rfl] at hr
    obtain ⟨t', A', n', c', rfl, hn', hlk', hin', hrd'⟩ := hr
    have hk : (k1 == 1) = false := by
      have h := HCK.out
      unfold Ex.chk at h
      rw [hmay, if_pos rfl] at h
      cases hf : (Ex.mk d l).firstF [] with
      | none => rw [hf] at h; injection h with h1 _; rw [← h1]; rfl
      | some a => rw [hf] at h; injection h with h1 _; rw [← h1]; rfl
    have HMY := Lib.hid hmay
    have HY := Lib.hid (And.intro hlk' (And.intro hin' (And.intro hrd' hn')))
    clear hmay hlk' hin' hrd' hn'
    go_upto_region 12 with fail
    have hb8 : Below w7.heap.size w7 (w7.alloc (.cells #[.int .i64 t'.d.kind, .int .i64 t'.d.at_, .int .i64 t'.d.n, .string (bstr t'.d.s), .string (bstr t'.d.t), .slice t'.d.lA t'.d.ln t'.d.lc, .slice t'.d.nA t'.d.nn t'.d.nc, .slice t'.d.pA t'.d.pn t'.d.pc] 25)) := (Below.refl _ _).alloc (Nat.le_refl _) _
    have HA9 := Lib.hid (show t'.d.At (w7.alloc (.cells #[.int .i64 t'.d.kind, .int .i64 t'.d.at_, .int .i64 t'.d.n, .string (bstr t'.d.s), .string (bstr t'.d.t), .slice t'.d.lA t'.d.ln t'.d.lc, .slice t'.d.nA t'.d.nn t'.d.nc, .slice t'.d.pA t'.d.pn t'.d.pc] 25)) w7.heap.size 0 from ex_box w7 t'.d)
    have HI8 := Lib.hid (And.intro (HY.out.2.1.lower hb8) (HY.out.2.2.1.below hb8))
    have HB8 := Lib.hid (below_then HB7.out hb8)
    clear hb8
    generalize w7.alloc (.cells #[.int .i64 t'.d.kind, .int .i64 t'.d.at_, .int .i64 t'.d.n, .string (bstr t'.d.s), .string (bstr t'.d.t), .slice t'.d.lA t'.d.ln t'.d.lc, .slice t'.d.nA t'.d.nn t'.d.nc, .slice t'.d.pA t'.d.pn t'.d.pc] 25) = w8 at *
    obtain ⟨p9, hp9⟩ : ∃ p9, w7.heap.size = p9 := ⟨_, rfl⟩
    rw [hp9] at HA9 ⊢
    clear hp9
    have HB08 := Lib.hid (below_then HB1.out HB8.out)
    go_upto_region 13 with fail
    have HDO := Lib.hid (do_new (.mk d l) w8 (tab_below HI.out.2.2.2.2.1 HB08.out) (HI.out.1.lower HB08.out) HMY.out)
    have HBN := Lib.hid (show Below w8.heap.size w8 (w8.alloc (.cells #[.slice none 0 0, .int .i64 0, .bool false] 44)) from (Below.refl _ _).alloc (Nat.le_refl _) _)
    obtain ⟨c0, c1, c2, c3, c4, c5, c6, c7⟩ := HE.out _ (below_then HB8.out HBN.out)
    generalize w8.alloc (.cells #[.slice none 0 0, .int .i64 0, .bool false] 44) = w9 at *
    obtain ⟨N, hN⟩ : ∃ N, w8.heap.size = N := ⟨_, rfl⟩
    have HNE := Lib.hid hN
    rw [hN] at HDO ⊢
    clear hN
    go_wp2_with fail
    refine HDO.out.mono ?_
    rintro e w10 ⟨t2, v2, rfl, hlk2, hin2, _, hnr2, hfd2, _⟩
    obtain ⟨A2, c2', rfl, _⟩ := own_cap hnr2.o.own
    have hb10 : Below w8.heap.size w8 w10 := HBN.out.trans (by rw [HNE.out]; exact hfd2.b)
    have HZ := Lib.hid (And.intro hlk2 (And.intro hin2 hnr2))
    have HB10 := Lib.hid hb10
    clear c0 c1 c2 c3 c4 c5 c6 c7 hlk2 hin2 hnr2 hfd2 hb10 HDO
    go_upto_region 14 with fail
    have hb11 : Below w10.heap.size w10 (w10.alloc (.cells #[.int .i64 t2.d.kind, .int .i64 t2.d.at_, .int .i64 t2.d.n, .string (bstr t2.d.s), .string (bstr t2.d.t), .slice t2.d.lA t2.d.ln t2.d.lc, .slice t2.d.nA t2.d.nn t2.d.nc, .slice t2.d.pA t2.d.pn t2.d.pc] 25)) := (Below.refl _ _).alloc (Nat.le_refl _) _
    obtain ⟨e0, e1, e2, e3, e4, e5, e6, e7⟩ := (show t2.d.At (w10.alloc (.cells #[.int .i64 t2.d.kind, .int .i64 t2.d.at_, .int .i64 t2.d.n, .string (bstr t2.d.s), .string (bstr t2.d.t), .slice t2.d.lA t2.d.ln t2.d.lc, .slice t2.d.nA t2.d.nn t2.d.nc, .slice t2.d.pA t2.d.pn t2.d.pc] 25)) w10.heap.size 0 from ex_box w10 t2.d)
    have HE13 := Lib.hid (show t2.d.At (w10.alloc (.cells #[.int .i64 t2.d.kind, .int .i64 t2.d.at_, .int .i64 t2.d.n, .string (bstr t2.d.s), .string (bstr t2.d.t), .slice t2.d.lA t2.d.ln t2.d.lc, .slice t2.d.nA t2.d.nn t2.d.nc, .slice t2.d.pA t2.d.pn t2.d.pc] 25)) w10.heap.size 0 from ex_box w10 t2.d)
    have HB811 := Lib.hid (below_then HB10.out hb11)
    have HX := Lib.hid (And.intro (HI8.out.1.lower (below_then HB10.out hb11)) (And.intro (HZ.out.2.1.lower hb11) (And.intro (HI8.out.2.below (below_then HB10.out hb11)) (And.intro ((Rd.of_own HZ.out.2.2.o.own).below hb11) (cell_below hb11 HZ.out.2.2.o.c)))))
    obtain ⟨a0, a1, a2, a3, a4, a5, a6, a7⟩ := HA9.out.lower (below_then HB10.out hb11)
    clear hb11
    generalize w10.alloc (.cells #[.int .i64 t2.d.kind, .int .i64 t2.d.at_, .int .i64 t2.d.n, .string (bstr t2.d.s), .string (bstr t2.d.t), .slice t2.d.lA t2.d.ln t2.d.lc, .slice t2.d.nA t2.d.nn t2.d.nc, .slice t2.d.pA t2.d.pn t2.d.pc] 25) = w11 at *
    obtain ⟨p13, hp13⟩ : ∃ p13, w10.heap.size = p13 := ⟨_, rfl⟩
    rw [hp13] at e0 e1 e2 e3 e4 e5 e6 e7 HE13 ⊢
    clear hp13
    have HA11 := Lib.hid (HA9.out.lower HB811.out)
    have HS := Lib.hid (refSame_any w11 t' HX.out.1 t2 HX.out.2.1 w11 (Below.refl _ _))
    go_wp2_with fail
    refine HS.out.mono ?_
    rintro e w12 ⟨rfl, hb12⟩
    rw [eqB_true (eqv_lk HY.out.1 HZ.out.1)]
    have HB12 := Lib.hid hb12
    clear a0 a1 a2 a3 a4 a5 a6 a7 e0 e1 e2 e3 e4 e5 e6 e7 hb12 HS
    have HP := Lib.hid (refPlaces_any w11 t' HX.out.1 t2 HX.out.2.1 (pl_lk HY.out.1 HZ.out.1) w12 HB12.out)
    obtain ⟨a0, a1, a2, a3, a4, a5, a6, a7⟩ := HA11.out.lower HB12.out
    obtain ⟨e0, e1, e2, e3, e4, e5, e6, e7⟩ := HE13.out.lower HB12.out
    go_wp2_with fail
    refine HP.out.mono ?_
    rintro e w13 ⟨rfl, hb13⟩
    have HB13 := Lib.hid (below_then HB12.out hb13)
    clear a0 a1 a2 a3 a4 a5 a6 a7 e0 e1 e2 e3 e4 e5 e6 e7 hb13 HP
    have n0 := cell_below HB13.out HX.out.2.2.2.2
    have hlen : ((Ex.mk d l).num [] []).2.length ≤ 9223372036854775807 := by
      rw [num_len, List.length_nil]
      have h1 := bsN_le w (.mk d l) HI.out.1 (may_fine HMY.out)
      have h2 := may_le HMY.out
      omega
    have HT := Lib.hid ((refTextsP_any A' A2 ((Ex.mk d l).num [] []).2 ((Ex.mk d l).num [] []).2 n' ((Ex.mk d l).num [] []).2.length c' c2' w13 (HX.out.2.2.1.below HB13.out) (HX.out.2.2.2.1.below HB13.out) (by rw [HY.out.2.2.2]; exact hlen) hlen).mono (R' := fun e w' => e = .returned (.bool true) ∧ Below w13.heap.size w13 w') (fun e w' h => ⟨by rw [h.1, decide_eq_true rfl], h.2⟩))
    clear hlen
    go_wp2_with fail
    refine HT.out.mono ?_
    rintro e w14 ⟨rfl, hb14⟩
    have HB14 := Lib.hid (below_then HB13.out hb14)
    clear hb14 n0 HT
    go_wp2_with fail
    go_returns
    exact ⟨rfl, below_then HB08.out (below_then HB811.out HB14.out)⟩
end Go.Proofs.YtaglmmcjhlehjaaGreatDoor

namespace Go.Proofs.YtaglmmcjhlehjaaGreatDoor
open Go.ChangeShapes Go.WideShapes Go.ChangeAt Go.RowKit
set_option linter.unusedVariables false

set_option maxRecDepth 100000 in
theorem open_str {H : Type} {enc : TypeId × Value → H} {W : World} {base : Nat} {sp : Nat → Bool} {held : Bool} {b0 : Nat} {r : Reach} {v : Value} {d : DataW H} {ps : List MemPlace}
    (hv : Value.okWide Tryz.prog W r b0 9 v) (h : DataW.Trod enc Tryz.prog W base sp held 9 v d ps) :
    ∃ s : Str, v = .string (bstr s) ∧ s.length ≤ maxLen := by
  obtain ⟨s, rfl⟩ := okWide_string Tryz.underlying9 hv
  obtain ⟨fuel, hf⟩ := h
  obtain ⟨s', hc, _, hw⟩ := DataW.trod_string Tryz.underlying9 hf
  simp [Value.cells] at hc
  subst hc
  refine ⟨s.data.toList, by rw [bstr_of], ?_⟩
  have e : s.data.toList.length = s.size := by rw [Array.length_toList]; rfl
  rw [e]; exact hw

set_option maxRecDepth 100000 in
theorem open_strs {H : Type} {enc : TypeId × Value → H} {W : World} {base : Nat} {sp : Nat → Bool} {held : Bool} {b0 : Nat} {r : Reach} {v : Value} {d : DataW H} {ps : List MemPlace}
    (hv : Value.okWide Tryz.prog W r b0 22 v) (h : DataW.Trod enc Tryz.prog W base sp held 22 v d ps) :
    ∃ (A : Option Addr) (n c : Nat) (l : List Str), v = .slice A n c ∧ n ≤ c ∧ c ≤ maxLen ∧ Rd W 1 A n (strs l) := by
  obtain ⟨A, n, c, l, h1, h2, h3, h4, h5, _⟩ := open_elems (α := Str) (cells := fun b => [.string (bstr b)]) (good := fun _ => True) Tryz.underlying22 (by kernel_rfl : Tryz.prog.cellsOf 9 = 1) (fun _ => rfl) (by omega)
    (fun n cs x hx => by
      obtain ⟨s, rfl, _, hw⟩ := DataW.trod_string Tryz.underlying9 hx
      exact ⟨s.data.toList, by rw [bstr_of], trivial⟩) hv h
  refine ⟨A, n, c, l, h1, h2, h3, ?_⟩
  have e : strs l = l.flatMap fun b => [.string (bstr b)] := by
    clear h5 h4
    induction l with
    | nil => rfl
    | cons x r ih => simp [strs] at ih ⊢; exact ih
  rw [e]
  exact h5
end Go.Proofs.YtaglmmcjhlehjaaGreatDoor

namespace Go.Proofs.YtaglmmcjhlehjaaGreatDoor
open Go.ChangeShapes Go.WideShapes Go.ChangeAt Go.RowKit Go.Sort Go.Maps Go.Deep
set_option linter.unusedVariables false
set_option linter.unusedSimpArgs false

theorem bulk_pos {H : Type} (d : DataW H) : 1 ≤ Rows.uptoBulk d := by
  cases d with
  | lit l => cases l <;> simp [Rows.uptoBulk]
  | _ => simp [Rows.uptoBulk]
theorem bulk_app {H : Type} (l r : List (DataW H)) : Rows.uptoBulkAll (l ++ r) = Rows.uptoBulkAll l + Rows.uptoBulkAll r := by
  induction l with
  | nil => simp [Rows.uptoBulkAll]
  | cons x l ih => simp only [List.cons_append, Rows.uptoBulkAll, ih]; omega
theorem bulk_mem {H : Type} {d : DataW H} : ∀ {l : List (DataW H)}, d ∈ l → Rows.uptoBulk d ≤ Rows.uptoBulkAll l
  | [], h => by cases h
  | x :: r, h => by
    simp only [Rows.uptoBulkAll]
    rcases List.mem_cons.1 h with rfl | h
    · omega
    · have := bulk_mem h; omega
theorem bulk_len {H : Type} : ∀ (l : List (DataW H)), l.length ≤ Rows.uptoBulkAll l
  | [] => by simp
  | x :: r => by have := bulk_pos x; have := bulk_len r; simp only [Rows.uptoBulkAll, List.length_cons]; omega

section
variable {H : Type} {enc : TypeId × Value → H} {P : Program} {W : World} {base : Nat} {sp : Nat → Bool} {held : Bool}

/-- A slice's elements under a bound on what is read; 'wt': what an element weighs. -/
theorem open_rowU {α : Type} {cells : α → List Value} {good : α → Prop} (wt : α → Nat) (B : Nat) {t e : TypeId} {size : Nat} (ht : P.underlying t = some (.slice e)) (hC : P.cellsOf e = size) (hsz : ∀ y, (cells y).length = size)
    (hel : ∀ (n : Nat) (cs : List Value) (x : DataW H × List MemPlace), DataW.trod enc P W base sp held n e cs = some x → Rows.uptoBulk x.1 ≤ B → ∃ y, cells y = cs ∧ good y ∧ wt y ≤ Rows.uptoBulk x.1)
    {fuel : Nat} {cs : List Value} {x : DataW H × List MemPlace} (hf : DataW.trod enc P W base sp held fuel t cs = some x) (hB : Rows.uptoBulk x.1 ≤ B + 1) :
    ∃ (A : Option Addr) (n c : Nat) (l : List α), cs = [.slice A n c] ∧ n ≤ c ∧ c ≤ maxLen ∧ l.length = n ∧ Rd W size A n (l.flatMap cells) ∧ (∀ y ∈ l, good y) ∧ n + 1 ≤ Rows.uptoBulk x.1 ∧ (l.map wt).sum + 1 ≤ Rows.uptoBulk x.1 := by
  rcases Go.Deep.open_slice ht hf with ⟨hcs, hx⟩ | ⟨a, n, c, m, k, D, Pl, hcs, _, hl, hm, hmm, hx, hi⟩
  · have := bulk_pos x.1
    exact ⟨none, 0, 0, [], hcs, Nat.le_refl _, by simp [maxLen], rfl, Rd.nil _ _ _, (fun y hy => by cases hy), by omega, by simpa using this⟩
  · rw [hC] at hi
    have hlm : n ≤ m := by rw [hmm]; split <;> omega
    have hbx : Rows.uptoBulkAll ((List.range n).map D) + 1 ≤ Rows.uptoBulk x.1 := by
      rw [hx]
      simp only [Rows.uptoBulk]
      omega
    have hD : ∀ i, i < n → Rows.uptoBulk (D i) ≤ B := fun i hi' => by
      have := bulk_mem (List.mem_map.2 ⟨i, List.mem_range.2 hi', rfl⟩ : D i ∈ (List.range n).map D)
      omega
    have key : ∀ q, q ≤ n → ∃ l : List α, l.length = q ∧ (∀ y ∈ l, good y) ∧ Held W a (l.flatMap cells) ∧ (l.map wt).sum ≤ Rows.uptoBulkAll ((List.range q).map D) := by
      intro q
      induction q with
      | zero => intro _; exact ⟨[], rfl, (fun y hy => by cases hy), (fun j u hu => by simp at hu), by simp⟩
      | succ q ih =>
        intro hq
        obtain ⟨l, hlen, hg, hh, hw⟩ := ih (by omega)
        obtain ⟨cs', hc, htr⟩ := hi q (by omega)
        obtain ⟨y, rfl, hy, hwy⟩ := hel _ _ _ htr (hD q (by omega))
        obtain ⟨_, hcl, hat⟩ := World.cells?_some hc
        have hfl : (l.flatMap cells).length = q * size := by rw [flat_len hsz, hlen]
        refine ⟨l ++ [y], by simp [hlen], ?_, ?_, ?_⟩
        · intro z hz
          rcases List.mem_append.1 hz with hz | hz
          · exact hg z hz
          · simp at hz; subst hz; exact hy
        · intro j u hu
          simp only [List.flatMap_append, List.flatMap_cons, List.flatMap_nil, List.append_nil] at hu
          rw [List.getElem?_append] at hu
          split at hu
          · exact hh j u hu
          · rename_i hj
            rw [hfl] at hu hj
            have hjs : j - q * size < size := by
              have := (List.getElem?_eq_some_iff.1 hu).1; rw [hsz] at this; omega
            have := hat _ hjs
            rw [Go.Proofs.YtaglmmcjhlehjaaGreatDoor.add_add, show q * size + (j - q * size) = j from by omega] at this
            rw [this, hu]
        · simp only [List.range_succ, List.map_append, bulk_app, List.sum_append, List.map_cons, List.map_nil, List.sum_cons, List.sum_nil, Rows.uptoBulkAll]
          have h1 : wt y ≤ Rows.uptoBulk (D q) := hwy
          omega
    obtain ⟨l, hlen, hg, hh, hw⟩ := key n (Nat.le_refl _)
    have hln := bulk_len ((List.range n).map D)
    rw [List.length_map, List.length_range] at hln
    exact ⟨some a, n, c, l, hcs, hl, hm, hlen, ⟨by rw [flat_len hsz, hlen], fun _ => ⟨a, rfl, hh⟩⟩, hg, by omega, by omega⟩
end


section
variable {H : Type} {enc : TypeId × Value → H} {W : World} {base : Nat} {sp : Nat → Bool} {held : Bool}
theorem strs_of (l : List Str) : l.flatMap (fun b => [Value.string (bstr b)]) = strs l := by
  induction l with
  | nil => rfl
  | cons x r ih => simp only [List.flatMap_cons, ih]; rfl
theorem openB_strs {fuel : Nat} {cs : List Value} {x : DataW H × List MemPlace} (hf : DataW.trod enc Tryz.prog W base sp held fuel 22 cs = some x) :
    ∃ (A : Option Addr) (n c : Nat) (l : List Str), cs = [.slice A n c] ∧ n ≤ c ∧ c ≤ maxLen ∧ l.length = n ∧ Rd W 1 A n (strs l) ∧ ∀ y ∈ l, y.length ≤ maxLen := by
  obtain ⟨A, n, c, l, h1, h2, h3, h4, h5, hg, h6, _⟩ := open_rowU (α := Str) (cells := fun b => [.string (bstr b)]) (good := fun y => y.length ≤ maxLen) (fun _ => 0) (Rows.uptoBulk x.1) Tryz.underlying22 (by kernel_rfl : Tryz.prog.cellsOf 9 = 1) (fun _ => rfl)
    (fun n cs x hx _ => by
      obtain ⟨s, rfl, _, hw⟩ := DataW.trod_string Tryz.underlying9 hx
      exact ⟨s.data.toList, by rw [bstr_of], (by rw [Array.length_toList]; exact hw), Nat.zero_le _⟩) hf (by omega)
  exact ⟨A, n, c, l, h1, h2, h3, h4, by rw [← strs_of]; exact h5, hg⟩
set_option maxRecDepth 100000 in
theorem trod8 {t : TypeId} {f0 f1 f2 f3 f4 f5 f6 f7 : Field} {fuel : Nat} {cs : List Value} {x : DataW H × List MemPlace} (hs : Tryz.prog.underlying t = some (.struct #[f0, f1, f2, f3, f4, f5, f6, f7])) (hone : oneCellFields Tryz.prog #[f0, f1, f2, f3, f4, f5, f6, f7] = true) (hC : Tryz.prog.cellsOf t = 8) (h : DataW.trod enc Tryz.prog W base sp held fuel t cs = some x) :
    ∃ c0 c1 c2 c3 c4 c5 c6 c7 y0 y1 y2 y3 y4 y5 y6 y7 n, cs = [c0, c1, c2, c3, c4, c5, c6, c7] ∧ x.1 = .agg [y0.1, y1.1, y2.1, y3.1, y4.1, y5.1, y6.1, y7.1] ∧ DataW.trod enc Tryz.prog W base sp held n f0.type [c0] = some y0 ∧ DataW.trod enc Tryz.prog W base sp held n f1.type [c1] = some y1 ∧ DataW.trod enc Tryz.prog W base sp held n f2.type [c2] = some y2 ∧ DataW.trod enc Tryz.prog W base sp held n f3.type [c3] = some y3 ∧ DataW.trod enc Tryz.prog W base sp held n f4.type [c4] = some y4 ∧ DataW.trod enc Tryz.prog W base sp held n f5.type [c5] = some y5 ∧ DataW.trod enc Tryz.prog W base sp held n f6.type [c6] = some y6 ∧ DataW.trod enc Tryz.prog W base sp held n f7.type [c7] = some y7 := by
  obtain ⟨xs, n, _, hx, hl, hlen, hg⟩ := DataW.trod_struct hs h
  obtain ⟨o0, k0⟩ := hone_of hone 0 f0 rfl
  obtain ⟨o1, k1⟩ := hone_of hone 1 f1 rfl
  obtain ⟨o2, k2⟩ := hone_of hone 2 f2 rfl
  obtain ⟨o3, k3⟩ := hone_of hone 3 f3 rfl
  obtain ⟨o4, k4⟩ := hone_of hone 4 f4 rfl
  obtain ⟨o5, k5⟩ := hone_of hone 5 f5 rfl
  obtain ⟨o6, k6⟩ := hone_of hone 6 f6 rfl
  obtain ⟨o7, k7⟩ := hone_of hone 7 f7 rfl
  match cs, hl.trans hC, xs, hlen with
  | [c0, c1, c2, c3, c4, c5, c6, c7], _, [y0, y1, y2, y3, y4, y5, y6, y7], _ => exact ⟨c0, c1, c2, c3, c4, c5, c6, c7, y0, y1, y2, y3, y4, y5, y6, y7, n, rfl, by rw [hx]; rfl, by simpa [o0, k0] using hg 0 f0 rfl, by simpa [o1, k1] using hg 1 f1 rfl, by simpa [o2, k2] using hg 2 f2 rfl, by simpa [o3, k3] using hg 3 f3 rfl, by simpa [o4, k4] using hg 4 f4 rfl, by simpa [o5, k5] using hg 5 f5 rfl, by simpa [o6, k6] using hg 6 f6 rfl, by simpa [o7, k7] using hg 7 f7 rfl⟩

set_option maxRecDepth 100000 in
theorem openB_ex : ∀ (B : Nat) (fuel : Nat) (cs : List Value) (x : DataW H × List MemPlace), DataW.trod enc Tryz.prog W base sp held fuel 25 cs = some x → Rows.uptoBulk x.1 ≤ B →
    ∃ t : Ex, t.cells = cs ∧ t.In W
  | 0, fuel, cs, x, hx, hB => by have := bulk_pos x.1; omega
  | B + 1, fuel, cs, x, hx, hB => by
    obtain ⟨c0, c1, c2, c3, c4, c5, c6, c7, y0, y1, y2, y3, y4, y5, y6, y7, k, rfl, hxx, e0, e1, e2, e3, e4, e5, e6, e7⟩ := trod8 Tryz.underlying25 (by kernel_rfl) (by kernel_rfl) hx
    have p0 := bulk_pos y0.1
    rw [hxx] at hB
    simp only [Rows.uptoBulk, Rows.uptoBulkAll] at hB
    obtain ⟨kd, h0, _, _⟩ := DataW.trod_int Tryz.underlying3 e0
    obtain ⟨at_, h1, _, _⟩ := DataW.trod_int Tryz.underlying3 e1
    obtain ⟨n, h2, _, _⟩ := DataW.trod_int Tryz.underlying2 e2
    obtain ⟨s, h3, _, w3⟩ := DataW.trod_string Tryz.underlying9 e3
    obtain ⟨t, h4, _, w4⟩ := DataW.trod_string Tryz.underlying9 e4
    obtain ⟨lA, ln, lc, lb, h5, l1, l2, l3, l4, l5⟩ := openB_strs e5
    obtain ⟨nA, nn, nc, nb, h6, n1, n2, n3, n4, n5⟩ := openB_strs e6
    obtain ⟨pA, pn, pc, pl, h7, q1, q2, q3, q4, q5, _⟩ := open_rowU (α := Ex) (cells := Ex.cells) (good := fun t => t.In W) (fun _ => 0) B Tryz.underlying23 (by kernel_rfl : Tryz.prog.cellsOf 25 = 8) Ex.cells_len
      (fun n cs x hx hb => by obtain ⟨t, a, b⟩ := openB_ex B n cs x hx hb; exact ⟨t, a, b, Nat.zero_le _⟩) e7 (by omega)
    simp only [List.cons.injEq, and_true] at h0 h1 h2 h3 h4 h5 h6 h7
    subst h0
    subst h1
    subst h2
    subst h3
    subst h4
    subst h5
    subst h6
    subst h7
    have m : maxLen = 9223372036854775807 := rfl
    refine ⟨.mk ⟨kd, at_, n, s.data.toList, t.data.toList, lA, ln, lc, lb, nA, nn, nc, nb, pA, pn, pc⟩ pl, by simp only [Ex.cells, ExD.cells, Ex.d, bstr_of], .mk _ _ l4 n4 q4 ⟨⟨l1, l2, ?_⟩, ⟨n1, n2, ?_⟩, ⟨q1, q2, ?_⟩, ?_, ?_, ?_, ?_⟩ q5⟩
    · show ln ≤ _; omega
    · show nn ≤ _; omega
    · show pn ≤ _; omega
    · show s.data.toList.length ≤ _; rw [Array.length_toList]; exact w3
    · show t.data.toList.length ≤ _; rw [Array.length_toList]; exact w4
    · exact l5
    · exact n5
set_option maxRecDepth 100000 in
theorem open_ex {b0 : Nat} {r : Reach} {v : Value} {d : DataW H} {ps : List MemPlace}
    (hv : Value.okWide Tryz.prog W r b0 25 v) (h : DataW.Trod enc Tryz.prog W base sp held 25 v d ps) :
    ∃ (e : ExD) (l : List Ex), v = .agg e.arr ∧ (Ex.mk e l).In W := by
  obtain ⟨cs, rfl, hcs⟩ := okWide_struct Tryz.underlying25 hv
  obtain ⟨fuel, hf⟩ := h
  obtain ⟨⟨e, l⟩, htc, hI⟩ := openB_ex _ _ _ _ hf (Nat.le_refl _)
  refine ⟨e, l, ?_, hI⟩
  have : e.cells = cs.toList := htc
  rw [show cs = cs.toList.toArray from by simp, ← this]
  rfl
end
end Go.Proofs.YtaglmmcjhlehjaaGreatDoor

namespace Go.Proofs.YtaglmmcjhlehjaaGreatDoor
open Go.ChangeShapes Go.WideShapes Go.ChangeAt Go.RowKit
set_option linter.unusedVariables false

theorem own : ownKnob Tryz.prog.godebug = none := by kernel_rfl
theorem laidOut : laidOutB Tryz.prog = true := by kernel_rfl

/-- All arguments read behind the call as they did. -/
theorem trodAll_stays {H : Type} {enc : TypeId × Value → H} {W W' : World} (hb : Below W.heap.size W W') :
    ∀ (ts : List TypeId) (vs : List Value) (ds : List (DataW H)) (ps : List MemPlace), (∀ t ∈ ts, Tryz.prog.readableRec t = true ∧ t < Tryz.prog.types.size) → (∀ x ∈ ps, x.block < W.heap.size) →
      DataW.TrodAll enc Tryz.prog W 0 (fun _ => true) true ts vs ds ps → DataW.TrodAll enc Tryz.prog W' 0 (fun b => decide (b < W.heap.size)) true ts vs ds ps
  | [], vs, ds, ps, _, _, h => by
    obtain ⟨rfl, rfl, rfl⟩ := trodAll_nil h
    exact trodAll_mk0
  | t :: ts, vs, ds, ps, hr, hlt, h => by
    obtain ⟨v, vs', d, ds', p, q, rfl, rfl, rfl, h0, h1⟩ := trodAll_cons h
    have ht := hr t (by simp)
    exact trodAll_cons_mk (Below.trod laidOut ht.1 ht.2 h0 hb (fun x hx => hlt x (by simp [hx]))) (trodAll_stays hb ts vs' ds' q (fun t' ht' => hr t' (by simp [ht'])) (fun x hx => hlt x (by simp [hx])) h1)

theorem trodAll_length {H : Type} {enc : TypeId × Value → H} {P : Program} {W : World} {base : Nat} {sp : Nat → Bool} {hd : Bool} :
    ∀ (ts : List TypeId) (vs : List Value) (ds : List (DataW H)) (ps : List MemPlace), DataW.TrodAll enc P W base sp hd ts vs ds ps → ds.length = ts.length
  | [], vs, ds, ps, h => by obtain ⟨_, h, _⟩ := trodAll_nil h; simp [h]
  | t :: ts, vs, ds, ps, h => by
    obtain ⟨v, vs', d, ds', p, q, rfl, rfl, rfl, h0, h1⟩ := trodAll_cons h
    simp [trodAll_length ts vs' ds' q h1]

/-- What is to be walked of a law: whatever its arguments read as, it returns true, and turns nothing that was there. -/
def LawWalk (F : FuncId) (ts : List TypeId) : Prop :=
  ∀ (H : Type) (enc : TypeId × Value → H) (W : World) (base : Nat) (args : Array Value) (ds : List (DataW H)) (p : List MemPlace),
    (∀ (j : Nat) t v, ts[j]? = some t → args[j]? = some v → Value.okWide Tryz.prog W .any base t v) →
    DataW.TrodAll enc Tryz.prog W 0 (fun _ => true) true ts args.toList ds p → (∀ x ∈ p, x.block < W.heap.size) →
    Calls Tryz.prog F args W fun e W' => e = .returned (.bool true) ∧ Below W.heap.size W W'

theorem law_post {H : Type} {enc : TypeId × Value → H} {f : Func} {s : ChangeSpec} {W W' : World} {args : Array Value} {ds gs : List (DataW H)} {before : List MemPlace} {ts : List TypeId}
    (hp : f.params.toList = ts) (hres : f.resultTypes = #[4]) (hv : s.vars = []) (hs : s.fn H (ds ++ gs) = { results := [.lit (.bool true)], args := ds }) (hr : ∀ t ∈ ts, Tryz.prog.readableRec t = true ∧ t < Tryz.prog.types.size)
    (hW : DataW.Whole enc Tryz.prog f.params.toList s.vars false W args.toList ds gs before) (hb : Below W.heap.size W W') :
    s.post enc Tryz.prog f false true false false W args (.bool true) W' := by
  have hW' := hW
  obtain ⟨p, q, hA, hV, rfl, hfz, hnd⟩ := hW
  rw [hv] at hV
  obtain ⟨rfl, rfl⟩ := trodVars_none hV
  have hlt : ∀ x ∈ p, x.block < W.heap.size := fun x hx => hW'.lt x (by simp [hx])
  refine ⟨ds, [], p ++ [], [], p, [], hW', ?_, ?_, ?_, hb.frame _, fun h => by cases h⟩
  · rw [hs, hres]
    exact trodAll_mk1 (shut_bool Tryz.underlying4 _)
  · rw [hs, hp]
    rw [hp] at hA
    exact trodAll_stays hb ts _ _ _ hr hlt hA
  · rw [hv]
    rw [hs]
    rfl

set_option maxRecDepth 100000 in
theorem law_lifted {os : Os} (started : os.Started) {H : Type} {enc : TypeId × Value → H} {F : FuncId} {f : Func} {s : ChangeSpec} {ts : List TypeId}
    (hF : Tryz.prog.funcs[F]? = some f) (noInit : Tryz.checked.prog.inits.idxOf? F = none) (hp : f.params.toList = ts) (hres : f.resultTypes = #[4]) (hv : s.vars = [])
    (hs : ∀ (H : Type) (ds : List (DataW H)), ds.length = ts.length → s.fn H ds = { results := [.lit (.bool true)], args := ds })
    (hr0 : (ts.all fun t => Tryz.prog.readableRec t && decide (t < Tryz.prog.types.size)) = true)
    (witness : ∃ (w : World) (tape : Tape) (i : Input), w.os = os ∧ (w.forCall tape i).Shaped Tryz.checked.prog ∧ i.vars = [] ∧ Input.okWide Tryz.checked.prog (w.forCall tape i) .any w.heap.size F i ∧
      s.pre6 enc Tryz.checked.prog f [] false (w.forCall tape i).memory i.args ∧ Assume.holds {} Tryz.checked.prog (lone (Frame.enter Tryz.checked.prog F i.args .normal) [] (w.forCall tape i)))
    (walk : LawWalk F ts) :
    ReturnsInHanded {} Tryz.checked os F .any (s.pre6 enc Tryz.prog f [] false) (s.post enc Tryz.prog f false true false false) := by
  have hr : ∀ t ∈ ts, Tryz.prog.readableRec t = true ∧ t < Tryz.prog.types.size := fun t ht => by
    have h := List.all_eq_true.1 hr0 t ht
    simpa using h
  refine returnsInHanded_of_change (C := Tryz.checked) own started noInit hF witness ?_
  intro W base args ds gs before hval hW _ _
  have hW' : DataW.Whole enc Tryz.prog f.params.toList s.vars false W args.toList ds gs before := hW
  obtain ⟨p, q, hA0, hV, rfl, hfz, hnd⟩ := hW
  have hA : DataW.TrodAll enc Tryz.prog W 0 (fun _ => true) true f.params.toList args.toList ds p := hA0
  have hlt : ∀ x ∈ p, x.block < W.heap.size := fun x hx => hW'.lt x (by simp [hx])
  rw [hp] at hA
  have hlen : ds.length = ts.length := trodAll_length ts _ _ _ hA
  rw [hv] at hV
  obtain ⟨rfl, rfl⟩ := trodVars_none hV
  refine (walk H enc W base args ds p ?_ hA hlt).mono fun e W' ⟨he, hb⟩ => ?_
  · intro j t v hj hva
    refine hval j t v ?_ hva
    rw [← hp] at hj
    simpa using hj
  · subst he
    exact ⟨_, rfl, law_post hp hres hv (by rw [List.append_nil]; exact hs H ds hlen) hr hW' hb⟩
end Go.Proofs.YtaglmmcjhlehjaaGreatDoor
