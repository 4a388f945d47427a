/-
  Whether two core expressions are alike, by the document's answer.
-/
import Derived.Test.YtpnihimoekkepaaCoBC
namespace Go.Proofs.Ytpnihimoekkepaa
open Go.ChangeShapes Go.WideShapes Go.ChangeAt Go.RowKit Go.Sort
set_option linter.unusedVariables false
set_option linter.unusedSimpArgs false
attribute [local irreducible] Go.wpQuiet

noncomputable def eqB (x y : Ex) : Bool := @decide (x.eqv y) (Classical.propDecidable _)
theorem eqB_true {x y : Ex} (h : x.eqv y) : eqB x y = true := @decide_eq_true _ (Classical.propDecidable _) h
theorem eqB_false {x y : Ex} (h : ¬ x.eqv y) : eqB x y = false := @decide_eq_false _ (Classical.propDecidable _) h
theorem eqB_iff {x y : Ex} : eqB x y = true ↔ x.eqv y := @decide_eq_true_iff _ (Classical.propDecidable _)
theorem exL_iff : ∀ (l m : List Ex), l.length = m.length → (exL l m ↔ ∀ j (h : j < l.length) (h' : j < m.length), l[j].eqv m[j])
  | [], [], _ => by simp [exL]
  | x :: l, y :: m, h => by
    simp only [exL]
    rw [exL_iff l m (by simpa using h)]
    constructor
    · intro hh j hj hj'
      cases j with
      | zero => exact hh.1
      | succ j => exact hh.2 j (by simpa using hj) (by simpa using hj')
    · intro hh
      exact ⟨hh 0 (by simp) (by simp), fun j hj hj' => hh (j + 1) (by simpa using hj) (by simpa using hj')⟩
  | [], y :: m, h => by simp at h
  | x :: l, [], h => by simp at h
theorem list_eq {l m : List Str} (h : l.length = m.length) (hh : ∀ j (h : j < l.length) (h' : j < m.length), l[j] = m[j]) : l = m := List.ext_getElem h (fun j h1 h2 => hh j h1 h2)
theorem ne_facts (s t : Str) (b : Bool) (h : decide (s = t) = b) : ((bstr s).toList == (bstr t).toList) = b ∧ ((bstr s).toList != (bstr t).toList) = !b := by
  have h1 : ((bstr s).toList == (bstr t).toList) = b := by rw [beq_bstr, ← h]; first | done | rfl | exact decide_eq_decide.2 Iff.rfl
  exact ⟨h1, by simp only [bne, h1]⟩

set_option maxRecDepth 100000 in
set_option maxHeartbeats 2000000 in
theorem texts14_any (A B : Option Addr) (l m : List Str) (n n' c c' : Nat) (w : World) (hr : Rd w 1 A n (strs l)) (hr' : Rd w 1 B n' (strs m)) (hm : n ≤ 9223372036854775807) (hm' : n' ≤ 9223372036854775807) :
    Calls Try.prog 24 #[.slice A n c, .slice B n' c'] w fun e w' => e = .returned (.bool (decide (l = m))) ∧ Below w.heap.size w w' := by
  have hl := rd_len hr
  have hl' := rd_len hr'
  have HR := Lib.hid (And.intro hr (And.intro hr' (And.intro hl hl')))
  by_cases hne : n = n'
  · have q1 : ((n : Int) != (n' : Int)) = false := by rw [hne]; simp
    have HNE := Lib.hid hne
    clear hr hr' hl hl' hne
    go_enter Try.func24, Try.ntmps24
    go_wp2_with fail
    go_loopw [5] (fun i wr => ∃ k : Nat, i = .int .i64 k ∧ k ≤ n ∧ (∀ j (h : j < l.length) (h' : j < m.length), j < k → l[j] = m[j]) ∧ Below w.heap.size w wr) (fun i _ => n - (intOf i).toNat)
    case atStart => exact ⟨0, rfl, Nat.zero_le _, (by intro j _ _ h; omega), Below.refl _ _⟩
    case round =>
      obtain ⟨k, rfl, hk, hall, hb⟩ := hrel
      have HALL := Lib.hid hall
      have HB := Lib.hid hb
      clear hall
      by_cases hlt : k < n
      · have hkl : k < l.length := by rw [HR.out.2.2.1]; exact hlt
        have hkm : k < m.length := by rw [HR.out.2.2.2, ← HNE.out]; exact hlt
        obtain ⟨b1, o1, rfl, hc1⟩ := (HR.out.1.below hb).str hkl
        obtain ⟨b2, o2, rfl, hc2⟩ := (HR.out.2.1.below hb).str hkm
        have h1 := hc1 k hkl
        have h2 := hc2 k hkm
        have hki : (k : Int) < (n : Int) := by omega
        have hki' : (k : Int) < (n' : Int) := by rw [← HNE.out]; omega
        have hk0 : (0 : Int) ≤ (k : Int) := by omega
        have hk9 : (k : Int) ≤ 9223372036854775806 := by omega
        have hwr : IntKind.i64.wrap (k : Int) = (k : Int) := by rw [IntKind.wrap_i64]; omega
        by_cases he : l[k] = m[k]
        · have hf := ne_facts l[k] m[k] true (decide_eq_true he)
          have HE := Lib.hid he
          obtain ⟨x, hx⟩ : ∃ x, l[k] = x := ⟨_, rfl⟩
          obtain ⟨y, hy⟩ : ∃ y, m[k] = y := ⟨_, rfl⟩
          rw [hx] at h1 hf
          rw [hy] at h2 hf
          obtain ⟨g1, g2⟩ := hf
          simp only [Bool.not_true] at g2
          clear hc1 hc2 hb hx hy he
          go_wp2_with fail
          go_quiet (fail)
          clear h1 h2
          go_wp2_with fail
          go_roundw
          case rel => exact ⟨k + 1, by go_num, hlt, fun j hj hj' hjk => (Nat.lt_succ_iff_lt_or_eq.1 hjk).elim (fun h => HALL.out j hj hj' h) (fun h => by subst h; exact HE.out), below_drewN HB.out _⟩
          case measure => simp [intOf] <;> omega
        · have hf := ne_facts l[k] m[k] false (decide_eq_false he)
          have HA := Lib.hid (show decide (l = m) = false from decide_eq_false (fun e => he (by subst e; rfl)))
          obtain ⟨x, hx⟩ : ∃ x, l[k] = x := ⟨_, rfl⟩
          obtain ⟨y, hy⟩ : ∃ y, m[k] = y := ⟨_, rfl⟩
          rw [hx] at h1 hf
          rw [hy] at h2 hf
          obtain ⟨g1, g2⟩ := hf
          simp only [Bool.not_false] at g2
          clear hc1 hc2 hb hx hy he
          go_wp2_with fail
          go_quiet (fail)
          clear h1 h2
          go_wp2_with fail
          go_returns
          exact ⟨by rw [HA.out]; rfl, below_drewN HB.out _⟩
      · have hki : ¬ (k : Int) < (n : Int) := by omega
        have HA := Lib.hid (show decide (l = m) = true from decide_eq_true (list_eq (by rw [HR.out.2.2.1, HR.out.2.2.2, HNE.out]) (fun j h h' => HALL.out j h h' (by rw [HR.out.2.2.1] at h; omega))))
        clear hb
        go_wp2_with fail
        go_returns
        exact ⟨by rw [HA.out]; rfl, HB.out⟩
  · have q1 : ((n : Int) != (n' : Int)) = true := by rw [bne_iff_ne]; omega
    have HA := Lib.hid (show decide (l = m) = false from decide_eq_false (fun e => hne (by rw [← hl, ← hl', e])))
    clear hr hr' hl hl' hne
    go_enter Try.func24, Try.ntmps24
    go_wp2_with fail
    go_returns
    exact ⟨by rw [HA.out]; rfl, Below.refl _ _⟩

set_option maxRecDepth 100000 in
set_option maxHeartbeats 2000000 in
theorem texts05_any (A B : Option Addr) (l m : List Str) (n n' c c' : Nat) (w : World) (hr : Rd w 1 A n (strs l)) (hr' : Rd w 1 B n' (strs m)) (hm : n ≤ 9223372036854775807) (hm' : n' ≤ 9223372036854775807) :
    Calls Try.prog 23 #[.slice A n c, .slice B n' c'] w fun e w' => e = .returned (.bool (decide (l = m))) ∧ Below w.heap.size w w' := by
  have hl := rd_len hr
  have hl' := rd_len hr'
  have HR := Lib.hid (And.intro hr (And.intro hr' (And.intro hl hl')))
  by_cases hne : n = n'
  · have q1 : ((n : Int) != (n' : Int)) = false := by rw [hne]; simp
    have HNE := Lib.hid hne
    clear hr hr' hl hl' hne
    go_enter Try.func23, Try.ntmps23
    go_wp2_with fail
    go_loopw [5] (fun i wr => ∃ k : Nat, i = .int .i64 k ∧ k ≤ n ∧ (∀ j (h : j < l.length) (h' : j < m.length), j < k → l[j] = m[j]) ∧ Below w.heap.size w wr) (fun i _ => n - (intOf i).toNat)
    case atStart => exact ⟨0, rfl, Nat.zero_le _, (by intro j _ _ h; omega), Below.refl _ _⟩
    case round =>
      obtain ⟨k, rfl, hk, hall, hb⟩ := hrel
      have HALL := Lib.hid hall
      have HB := Lib.hid hb
      clear hall
      by_cases hlt : k < n
      · have hkl : k < l.length := by rw [HR.out.2.2.1]; exact hlt
        have hkm : k < m.length := by rw [HR.out.2.2.2, ← HNE.out]; exact hlt
        obtain ⟨b1, o1, rfl, hc1⟩ := (HR.out.1.below hb).str hkl
        obtain ⟨b2, o2, rfl, hc2⟩ := (HR.out.2.1.below hb).str hkm
        have h1 := hc1 k hkl
        have h2 := hc2 k hkm
        have hki : (k : Int) < (n : Int) := by omega
        have hki' : (k : Int) < (n' : Int) := by rw [← HNE.out]; omega
        have hk0 : (0 : Int) ≤ (k : Int) := by omega
        have hk9 : (k : Int) ≤ 9223372036854775806 := by omega
        have hwr : IntKind.i64.wrap (k : Int) = (k : Int) := by rw [IntKind.wrap_i64]; omega
        by_cases he : l[k] = m[k]
        · have hf := ne_facts l[k] m[k] true (decide_eq_true he)
          have HE := Lib.hid he
          obtain ⟨x, hx⟩ : ∃ x, l[k] = x := ⟨_, rfl⟩
          obtain ⟨y, hy⟩ : ∃ y, m[k] = y := ⟨_, rfl⟩
          rw [hx] at h1 hf
          rw [hy] at h2 hf
          obtain ⟨g1, g2⟩ := hf
          simp only [Bool.not_true] at g2
          clear hc1 hc2 hb hx hy he
          go_wp2_with fail
          go_quiet (fail)
          clear h1 h2
          go_wp2_with fail
          go_roundw
          case rel => exact ⟨k + 1, by go_num, hlt, fun j hj hj' hjk => (Nat.lt_succ_iff_lt_or_eq.1 hjk).elim (fun h => HALL.out j hj hj' h) (fun h => by subst h; exact HE.out), below_drewN HB.out _⟩
          case measure => simp [intOf] <;> omega
        · have hf := ne_facts l[k] m[k] false (decide_eq_false he)
          have HA := Lib.hid (show decide (l = m) = false from decide_eq_false (fun e => he (by subst e; rfl)))
          obtain ⟨x, hx⟩ : ∃ x, l[k] = x := ⟨_, rfl⟩
          obtain ⟨y, hy⟩ : ∃ y, m[k] = y := ⟨_, rfl⟩
          rw [hx] at h1 hf
          rw [hy] at h2 hf
          obtain ⟨g1, g2⟩ := hf
          simp only [Bool.not_false] at g2
          clear hc1 hc2 hb hx hy he
          go_wp2_with fail
          go_quiet (fail)
          clear h1 h2
          go_wp2_with fail
          go_returns
          exact ⟨by rw [HA.out]; rfl, below_drewN HB.out _⟩
      · have hki : ¬ (k : Int) < (n : Int) := by omega
        have HA := Lib.hid (show decide (l = m) = true from decide_eq_true (list_eq (by rw [HR.out.2.2.1, HR.out.2.2.2, HNE.out]) (fun j h h' => HALL.out j h h' (by rw [HR.out.2.2.1] at h; omega))))
        clear hb
        go_wp2_with fail
        go_returns
        exact ⟨by rw [HA.out]; rfl, HB.out⟩
  · have q1 : ((n : Int) != (n' : Int)) = true := by rw [bne_iff_ne]; omega
    have HA := Lib.hid (show decide (l = m) = false from decide_eq_false (fun e => hne (by rw [← hl, ← hl', e])))
    clear hr hr' hl hl' hne
    go_enter Try.func23, Try.ntmps23
    go_wp2_with fail
    go_returns
    exact ⟨by rw [HA.out]; rfl, Below.refl _ _⟩

theorem Texts05_any (A B : Option Addr) (l m : List Str) (n n' c c' : Nat) (w : World) (hr : Rd w 1 A n (strs l)) (hr' : Rd w 1 B n' (strs m)) (hm : n ≤ 9223372036854775807) (hm' : n' ≤ 9223372036854775807) :
    Calls Try.prog 10 #[.slice A n c, .slice B n' c'] w fun e w' => e = .returned (.bool (decide (l = m))) ∧ Below w.heap.size w w' := by
  have HT := Lib.hid (texts05_any A B l m n n' c c' w hr hr' hm hm')
  clear hr hr' hm hm'
  go_enter Try.func10, Try.ntmps10
  go_wp2_with fail
  refine HT.out.mono ?_
  rintro e w1 ⟨rfl, hb1⟩
  go_wp2_with fail
  go_returns
  exact ⟨rfl, hb1⟩

set_option maxRecDepth 100000 in
set_option maxHeartbeats 8000000 in
theorem same14_any (w0 : World) (x : Ex) (hIn : x.In w0) : ∀ (y : Ex), y.In w0 → ∀ (W : World), Below w0.heap.size w0 W →
    Calls Try.prog 11 #[.agg x.d.arr, .agg y.d.arr] W fun r w' => r = .returned (.bool (eqB x y)) ∧ Below W.heap.size W w' := by
  induction hIn with
  | mk d l nam par cap sub ih =>
  intro y hy W hb
  obtain ⟨e, m⟩ := y
  have HI := Lib.hid (Ex.In.mk d l nam par cap sub)
  have HY := Lib.hid hy
  have HIH := Lib.hid ih
  have hX0 := ex_box W d
  have hb1 : Below W.heap.size W (W.alloc (.cells d.arr 25)) := (Below.refl _ _).alloc (Nat.le_refl _) _
  have hY0 := ex_box (W.alloc (.cells d.arr 25)) e
  have hb2 : Below W.heap.size W ((W.alloc (.cells d.arr 25)).alloc (.cells e.arr 25)) := hb1.alloc hb1.size _
  have hb12 : Below (W.alloc (.cells d.arr 25)).heap.size (W.alloc (.cells d.arr 25)) ((W.alloc (.cells d.arr 25)).alloc (.cells e.arr 25)) := (Below.refl _ _).alloc (Nat.le_refl _) _
  have hX1 := hX0.lower hb12
  have HB2 := Lib.hid hb2
  have HW := Lib.hid (below_then hb hb2)
  have hsz : (W.alloc (.cells d.arr 25)).heap.size = W.heap.size + 1 := by simp
  rw [hsz] at hY0
  have HLP := Lib.hid (And.intro (show l.length = d.pn from HI.out.len) (show m.length = e.pn from HY.out.len))
  have HCX := Lib.hid (show _ from HI.out.cap)
  have HCY := Lib.hid (show _ from HY.out.cap)
  have HLX := Lib.hid (show Rd w0 1 d.nA d.nn (strs d.names) from HI.out.nam)
  have HLY := Lib.hid (show Rd w0 1 e.nA e.nn (strs e.names) from HY.out.nam)
  clear nam par cap sub ih hy hb hb1 hb2 hb12 hX0 hsz
  show Calls Try.prog 11 #[.agg d.arr, .agg e.arr] W _
  go_enter Try.func11, Try.ntmps11
  go_wp2_with fail
  obtain ⟨bx, hbx⟩ : ∃ bx, W.heap.size = bx := ⟨_, rfl⟩
  rw [hbx] at hX1 hY0
  try rw [hbx]
  obtain ⟨bY, hbY⟩ : ∃ bY, bx + 1 = bY := ⟨_, rfl⟩
  rw [hbY] at hY0
  try rw [hbY]
  clear hbx hbY
  generalize ((W.alloc (.cells d.arr 25)).alloc (.cells e.arr 25)) = w1 at *
  have HX := Lib.hid (fun V (h : Below w1.heap.size w1 V) => hX1.lower h)
  have HYA := Lib.hid (fun V (h : Below w1.heap.size w1 V) => hY0.lower h)
  obtain ⟨c0, c1, c2, c3, c4, c5⟩ := hX1
  obtain ⟨f0, f1, f2, f3, f4, f5⟩ := hY0
  go_wp2_with fail
  refine (texts14_any d.nA e.nA d.names e.names d.nn e.nn d.nc e.nc w1 (HLX.out.below HW.out) (HLY.out.below HW.out) (by have := HCX.out.1.2.2; simp only [Ex.d] at this; omega) (by have := HCY.out.1.2.2; simp only [Ex.d] at this; omega)).mono ?_
  rintro r w3 ⟨rfl, hb3⟩
  have H3 := Lib.hid hb3
  clear hb3 c0 c1 c2 c3 c4 c5 f0 f1 f2 f3 f4 f5
  obtain ⟨c0, c1, c2, c3, c4, c5⟩ := HX.out _ H3.out
  obtain ⟨f0, f1, f2, f3, f4, f5⟩ := HYA.out _ H3.out
  obtain ⟨bn, hbn⟩ : ∃ b, decide (d.names = e.names) = b := ⟨_, rfl⟩
  rw [hbn]
  have HBL := Lib.hid hbn
  clear hbn
  by_cases h1 : ¬ (d.kind = e.kind)
  · have HA := Lib.hid (show eqB (.mk d l) (.mk e m) = false from eqB_false (fun h => h1 (h.1)))
    have q : (d.kind != e.kind) = true := by rw [bne_iff_ne]; omega
    clear h1
    go_wp2_with fail
    go_returns
    exact ⟨by rw [HA.out]; rfl, below_then HB2.out H3.out⟩
  have h1 : d.kind = e.kind := Classical.not_not.1 h1
  have qh1 : (d.kind != e.kind) = false := by rw [h1]; simp
  by_cases h2 : ¬ (d.n = e.n)
  · have HA := Lib.hid (show eqB (.mk d l) (.mk e m) = false from eqB_false (fun h => h2 (h.2.1)))
    have q : (d.n != e.n) = true := by rw [bne_iff_ne]; omega
    clear h2
    go_wp2_with fail
    go_returns
    exact ⟨by rw [HA.out]; rfl, below_then HB2.out H3.out⟩
  have h2 : d.n = e.n := Classical.not_not.1 h2
  have qh2 : (d.n != e.n) = false := by rw [h2]; simp
  by_cases h3 : ¬ (d.s = e.s)
  · have HA := Lib.hid (show eqB (.mk d l) (.mk e m) = false from eqB_false (fun h => h3 (h.2.2.1)))
    obtain ⟨g1, g2⟩ := ne_facts d.s e.s false (decide_eq_false h3)
    simp only [Bool.not_false] at g2
    clear h3
    go_wp2_with fail
    go_returns
    exact ⟨by rw [HA.out]; rfl, below_then HB2.out H3.out⟩
  have h3 : d.s = e.s := Classical.not_not.1 h3
  obtain ⟨gh3, kh3⟩ := ne_facts d.s e.s true (decide_eq_true h3)
  simp only [Bool.not_true] at kh3
  by_cases h4 : ¬ (d.t = e.t)
  · have HA := Lib.hid (show eqB (.mk d l) (.mk e m) = false from eqB_false (fun h => h4 (h.2.2.2.1)))
    obtain ⟨g1, g2⟩ := ne_facts d.t e.t false (decide_eq_false h4)
    simp only [Bool.not_false] at g2
    clear h4
    go_wp2_with fail
    go_returns
    exact ⟨by rw [HA.out]; rfl, below_then HB2.out H3.out⟩
  have h4 : d.t = e.t := Classical.not_not.1 h4
  obtain ⟨gh4, kh4⟩ := ne_facts d.t e.t true (decide_eq_true h4)
  simp only [Bool.not_true] at kh4
  cases bn with
  | false =>
    have HA := Lib.hid (show eqB (.mk d l) (.mk e m) = false from eqB_false (fun h => absurd h.2.2.2.2.1 (of_decide_eq_false HBL.out)))
    go_wp2_with fail
    go_returns
    exact ⟨by rw [HA.out]; rfl, below_then HB2.out H3.out⟩
  | true =>
  by_cases h7 : ¬ (d.pn = e.pn)
  · have HA := Lib.hid (show eqB (.mk d l) (.mk e m) = false from eqB_false (fun h => h7 (by rw [← HLP.out.1, ← HLP.out.2]; exact exL_len h.2.2.2.2.2)))
    have q : ((d.pn : Int) != (e.pn : Int)) = true := by rw [bne_iff_ne]; omega
    clear h7
    go_wp2_with fail
    go_returns
    exact ⟨by rw [HA.out]; rfl, below_then HB2.out H3.out⟩
  have h7 : d.pn = e.pn := Classical.not_not.1 h7
  have qh7 : ((d.pn : Int) != (e.pn : Int)) = false := by rw [h7]; simp
  have HQ := Lib.hid (And.intro h1 (And.intro h2 (And.intro h3 (And.intro h4 h7))))
  clear h1 h2 h3 h4 h7
  go_wp2_with fail
  clear c0 c1 c2 c3 c4 c5 f0 f1 f2 f3 f4 f5
  go_loopw [6] (fun i wr => ∃ k : Nat, i = .int .i64 k ∧ k ≤ d.pn ∧ (∀ j (h : j < l.length) (h' : j < m.length), j < k → (l[j]).eqv m[j]) ∧ Below w1.heap.size w1 wr) (fun i _ => d.pn - (intOf i).toNat)
  case atStart => exact ⟨0, rfl, Nat.zero_le _, (by intro j _ _ h; omega), H3.out⟩
  case round =>
    obtain ⟨k, rfl, hk, hall, hbr⟩ := hrel
    have HALL := Lib.hid hall
    have HR := Lib.hid hbr
    clear hall
    have c7 := (HX.out _ hbr).c5
    by_cases hlt : k < d.pn
    · have hkl : k < l.length := by rw [HLP.out.1]; exact hlt
      have hkm : k < m.length := by rw [HLP.out.2, ← HQ.out.2.2.2.2]; exact hlt
      obtain ⟨pb, po, hpA, hAtP⟩ := HI.out.part (k := k) hkl
      have hpA' : d.pA = some ⟨pb, po, none⟩ := hpA
      obtain ⟨pb', po', hpB, hAtQ⟩ := HY.out.part (k := k) hkm
      have hpB' : e.pA = some ⟨pb', po', none⟩ := hpB
      have f7 := (HYA.out _ hbr).c5
      rw [hpA'] at c7
      rw [hpB'] at f7
      have hAx : (l[k]).d.At w0 pb (po + k * 6) := hAtP k hkl
      have hAy : (m[k]).d.At w0 pb' (po' + k * 6) := hAtQ k hkm
      have hy : (m[k]).In w0 := HY.out.sub m[k] (List.getElem_mem hkm)
      have HC := HIH.out l[k] (List.getElem_mem hkl) m[k] hy
      obtain ⟨p0, p1, p2, p3, p4, p5⟩ := hAx.lower (below_then HW.out hbr)
      obtain ⟨r0, r1, r2, r3, r4, r5⟩ := hAy.lower (below_then HW.out hbr)
      have CX := Lib.hid (fun dd os => Calls.regrown_of ((HC (grow (redrawn wr dd) os) (below_then (below_then HW.out HR.out) (below_regrown wr dd os))).mono fun e w' hh => ⟨hh.1, hh.2⟩))
      have HEX := Lib.hid (show ∀ (h : k < l.length) (h' : k < m.length), eqB l[k] m[k] = true → (l[k]).eqv m[k] from fun _ _ h => eqB_iff.1 h)
      have HEN := Lib.hid (show eqB l[k] m[k] = false → eqB (.mk d l) (.mk e m) = false from fun h => eqB_false (fun hh => by
        have := (exL_iff l m (exL_len hh.2.2.2.2.2)).1 hh.2.2.2.2.2 k hkl hkm
        rw [eqB_true this] at h; cases h))
      obtain ⟨x, hx⟩ : ∃ x, l[k] = x := ⟨_, rfl⟩
      obtain ⟨z, hz⟩ : ∃ z, m[k] = z := ⟨_, rfl⟩
      rw [hx] at p0 p1 p2 p3 p4 p5 CX HEN
      rw [hz] at r0 r1 r2 r3 r4 r5 CX HEN
      have HXZ := Lib.hid (And.intro hx hz)
      obtain ⟨v, hv⟩ : ∃ v, eqB x z = v := ⟨_, rfl⟩
      rw [hv] at CX HEN
      have HV := Lib.hid hv
      obtain ⟨dx, hdx⟩ : ∃ dx, x.d = dx := ⟨_, rfl⟩
      rw [hdx] at p0 p1 p2 p3 p4 p5 CX
      obtain ⟨dz, hdz⟩ : ∃ dz, z.d = dz := ⟨_, rfl⟩
      rw [hdz] at r0 r1 r2 r3 r4 r5 CX
      have kc := cell_regrown c7
      have kf := cell_regrown f7
      have kp0 := cell_regrown p0
      have kr0 := cell_regrown r0
      have kp1 := cell_regrown p1
      have kr1 := cell_regrown r1
      have kp2 := cell_regrown p2
      have kr2 := cell_regrown r2
      have kp3 := cell_regrown p3
      have kr3 := cell_regrown r3
      have kp4 := cell_regrown p4
      have kr4 := cell_regrown r4
      have kp5 := cell_regrown p5
      have kr5 := cell_regrown r5
      have hki : (k : Int) < (d.pn : Int) := by omega
      have hki' : (k : Int) < (e.pn : Int) := by rw [← HQ.out.2.2.2.2]; omega
      have hk0 : (0 : Int) ≤ (k : Int) := by omega
      have hk9 : (k : Int) ≤ 9223372036854775806 := by have := HCX.out.2.1.2.2; simp only [Ex.d] at this; omega
      have hwr : IntKind.i64.wrap (k : Int) = (k : Int) := by rw [IntKind.wrap_i64]; omega
      clear hbr hpA hpA' hpB hpB' hAtP hAtQ hAx hAy hy HC hx hz hv hdx hdz p0 p1 p2 p3 p4 p5 r0 r1 r2 r3 r4 r5 f7
      go_wp2_with fail
      refine wp_region_quiet_below (by kernel_rfl) (by kernel_rfl) ?_
      iterate 12 (quiet_step ((go_at_call 11; with_reducible exact CX.out _ _)))
      refine wpQuiet_nil ?_
      intro _ hw
      obtain ⟨⟨dq, osq⟩, hw''⟩ := hw
      subst hw''
      have hbq := below_regrown wr dq osq
      have H5 := Lib.hid (below_then HR.out hbq)
      clear hbq
      cases v with
      | true =>
        go_wp2_with fail
        go_roundw
        case rel => exact ⟨k + 1, by go_num, hlt, fun j hj hj' hjk => (Nat.lt_succ_iff_lt_or_eq.1 hjk).elim (fun h => HALL.out j hj hj' h) (fun h => by subst h; exact HEX.out hj hj' (by rw [HXZ.out.1, HXZ.out.2]; exact HV.out)), H5.out⟩
        case measure => simp [intOf] <;> omega
      | false =>
        have HA := Lib.hid (HEN.out rfl)
        go_wp2_with fail
        go_returns
        exact ⟨by rw [HA.out]; rfl, below_then HB2.out H5.out⟩
    · have hki : ¬ (k : Int) < (d.pn : Int) := by omega
      have HA := Lib.hid (show eqB (.mk d l) (.mk e m) = true from eqB_true ⟨HQ.out.1, HQ.out.2.1, HQ.out.2.2.1, HQ.out.2.2.2.1, of_decide_eq_true HBL.out, (exL_iff l m (by rw [HLP.out.1, HLP.out.2, HQ.out.2.2.2.2])).2 (fun j h h' => HALL.out j h h' (by rw [HLP.out.1] at h; omega))⟩)
      clear hbr
      go_wp2_with fail
      go_returns
      exact ⟨by rw [HA.out]; rfl, below_then HB2.out HR.out⟩
end Go.Proofs.Ytpnihimoekkepaa
