/-
  One token, by the document's answer.
  One token, and nothing beside: by the document's answer; operators; texts.
  Labels, operators, texts: by the document's answer.
  How many nodes an expression has at most, by the document's answers.
-/
import Derived.Test.YtaglmmcjhlehjaaGreatDoorK10
import Derived.Test.YtaglmmcjhlehjaaGreatDoorK11
import Derived.Test.YtaglmmcjhlehjaaGreatDoorK02
import Derived.Test.YtaglmmcjhlehjaaGreatDoorK04
import Derived.Test.YtaglmmcjhlehjaaGreatDoorK03
namespace Go.Proofs.YtaglmmcjhlehjaaGreatDoor
open Go.ChangeShapes Go.WideShapes Go.ChangeAt Go.RowKit
set_option linter.unusedVariables false
set_option linter.unusedSimpArgs false

theorem refOne_any (A : Option Addr) (l : Str) (cp k : Nat) (w : World) (hr : Rd w 1 A l.length (u8s l)) (hk : k < l.length) (hcap : l.length ≤ cp) (hm : l.length ≤ 1048576) :
    Calls Tryz.prog 119 #[.slice A l.length cp, .int .i64 (k : Int)] w fun e w' => RefOneRes (one (l.drop k)) k w e w' := by
  obtain ⟨c, hck⟩ : ∃ c, l[k] = c := ⟨_, rfl⟩
  have hd : l.drop k = c :: l.drop (k + 1) := by rw [List.drop_eq_getElem_cons hk, hck]
  have he : one (l.drop k) = if lowB c then nameR 1 ((l.drop k).takeWhile nameB)
    else if highB c then nameR 3 ((l.drop k).takeWhile tagB)
    else if digB c then numR ((l.drop k).takeWhile digB)
    else if c.toNat = 34 then textR (txt (l.drop (k + 1))) else signR c (l.drop k) := by
    rw [hd]
    exact one_cons c _
  rw [he]
  cases h1 : lowB c with
  | true => rw [if_pos rfl]; exact refName_any A l cp k w hr hk c hck h1 hcap hm
  | false =>
    rw [if_neg (by simp)]
    cases h2 : highB c with
    | true => rw [if_pos rfl]; exact refTag_any A l cp k w hr hk c hck h2 hcap hm
    | false =>
      rw [if_neg (by simp)]
      cases h3 : digB c with
      | true => rw [if_pos rfl]; exact refNum_any A l cp k w hr hk c hck h3 hm
      | false =>
        rw [if_neg (by simp)]
        by_cases h4 : c.toNat = 34
        · rw [if_pos h4]; exact refTxt_any A l cp k w hr hk c hck h4 hm
        · rw [if_neg h4]; exact refSign_any A l cp k w hr hk c hck h1 h2 h3 h4 hcap hm
end Go.Proofs.YtaglmmcjhlehjaaGreatDoor

namespace Go.Proofs.YtaglmmcjhlehjaaGreatDoor
open Go.ChangeShapes Go.WideShapes Go.ChangeAt Go.RowKit Go.Sort
set_option linter.unusedVariables false
set_option linter.unusedSimpArgs false

theorem one_name {c : UInt8} {r : Str} {t : Tk} {n : Nat} (h : one (c :: r) = .ok t n) (hk : t.kind = 1 ∨ t.kind = 3) : spcB c = false ∧ t.s = (c :: r).take n := by
  rw [one_cons] at h
  by_cases h1 : lowB c = true
  · rw [if_pos h1] at h
    unfold nameR at h
    split at h
    · cases h
    · injection h with e1 e2
      refine ⟨?_, by rw [← e1, ← e2]; exact (tw_take _).symm⟩
      unfold lowB at h1
      have := of_decide_eq_true h1
      unfold spcB
      exact decide_eq_false (by omega)
  rw [if_neg h1] at h
  by_cases h2 : highB c = true
  · rw [if_pos h2] at h
    unfold nameR at h
    split at h
    · cases h
    · injection h with e1 e2
      refine ⟨?_, by rw [← e1, ← e2]; exact (tw_take _).symm⟩
      unfold highB at h2
      have := of_decide_eq_true h2
      unfold spcB
      exact decide_eq_false (by omega)
  rw [if_neg h2] at h
  by_cases h3 : digB c = true
  · rw [if_pos h3] at h
    unfold numR at h
    split at h
    · split at h
      · cases h
      · injection h with e1 e2
        subst e1
        simp at hk
    · cases h
  rw [if_neg h3] at h
  by_cases h4 : c.toNat = 34
  · rw [if_pos h4] at h
    unfold textR at h
    split at h
    · split at h
      · cases h
      · injection h with e1 e2
        subst e1
        simp at hk
    · cases h
  rw [if_neg h4] at h
  unfold signR at h
  split at h
  · injection h with e1 e2
    subst e1
    simp at hk
  · split at h
    · injection h with e1 e2
      subst e1
      simp at hk
    · cases h
theorem cut_name : ∀ (f : Nat) (l : Str) (p : Nat) (ts : List Tok), l.length ≤ f → cutS l p = .ok ts → ∀ t ∈ ts, (t.kind = 1 ∨ t.kind = 3) → t.s.length ≤ l.length
  | f, [], p, ts, _, h, t, ht, _ => by
    rw [cutS_nil] at h
    injection h with h
    subst h
    cases ht
  | 0, c :: r, p, ts, hf, h, t, ht, _ => by simp at hf
  | f + 1, c :: r, p, ts, hf, h, t, ht, hk => by
    cases hs : spcB c with
    | true =>
      rw [cutS_spc c r p hs] at h
      have := cut_name f r (p + 1) ts (by simp at hf; omega) h t ht hk
      simp; omega
    | false =>
      cases ho : one (c :: r) with
      | bad o => rw [cutS_bad c r p o hs ho] at h; cases h
      | ok t1 n =>
        obtain ⟨n0, n1, _⟩ := one_front _ _ _ ho
        rw [cutS_ok c r p n t1 hs ho] at h
        obtain ⟨l', hl', rfl⟩ := pre_ok h
        simp only [List.singleton_append, List.mem_cons] at ht
        rcases ht with rfl | ht
        · have := (one_name ho hk).2
          have e : (t1.put p).s = t1.s := rfl
          rw [e, this, List.length_take]
          exact Nat.min_le_right _ _
        · have := cut_name f _ _ l' (by rw [List.length_drop]; simp at hf ⊢; omega) hl' t ht hk
          rw [List.length_drop] at this
          omega
/-- One token of a kind, and nothing beside: by the first token's length. -/
def isR (s : Str) (k : Int) : Bool :=
  match one s with
  | .ok t n => decide (n = s.length) && decide (t.kind = k)
  | .bad _ => false
theorem tokB_one {s : Str} {k : Int} (hk : k = 1 ∨ k = 3) (h0 : s ≠ []) (h20 : ¬ 20 < s.length) : tokB s k = isR s k := by
  rw [tokB_short h20]
  unfold isR
  cases s with
  | nil => exact absurd rfl h0
  | cons c r =>
  cases hs : spcB c with
  | true =>
    rw [cutS_spc c r 0 hs]
    have e1 : tokR (c :: r) k (cutS r (0 + 1)) = false := by
      cases hc : cutS r (0 + 1) with
      | bad p => rfl
      | ok ts =>
        rcases ts with _ | ⟨t, _ | ⟨t2, q⟩⟩
        · rfl
        · show (decide (t.kind = k) && decide (t.s = c :: r)) = false
          by_cases h1 : t.kind = k
          · have := cut_name r.length r (0 + 1) [t] (Nat.le_refl _) hc t (by simp) (by rw [h1]; exact hk)
            by_cases h2 : t.s = c :: r
            · rw [h2] at this; simp at this; omega
            · simp [h2]
          · simp [h1]
        · rfl
    rw [e1]
    cases ho : one (c :: r) with
    | bad o => rfl
    | ok t n =>
      show false = (decide (n = (c :: r).length) && decide (t.kind = k))
      by_cases h1 : t.kind = k
      · have := (one_name ho (by rw [h1]; exact hk)).1
        rw [hs] at this
        cases this
      · simp [h1]
  | false =>
    cases ho : one (c :: r) with
    | bad o => rw [cutS_bad c r 0 o hs ho]; rfl
    | ok t n =>
      obtain ⟨n0, n1, _⟩ := one_front _ _ _ ho
      rw [cutS_ok c r 0 n t hs ho]
      show _ = (decide (n = (c :: r).length) && decide (t.kind = k))
      by_cases hn : n = (c :: r).length
      · rw [hn, List.drop_length, cutS_nil]
        show (decide (t.kind = k) && decide (t.s = c :: r)) = _
        by_cases h1 : t.kind = k
        · have := (one_name ho (by rw [h1]; exact hk)).2
          rw [hn, List.take_length] at this
          simp [h1, this]
        · simp [h1]
      · have e2 : (decide (n = (c :: r).length) && decide (t.kind = k)) = false := by simp only [decide_eq_false hn, Bool.false_and]
        rw [e2]
        cases hc : cutS ((c :: r).drop n) (0 + n) with
        | bad p => rfl
        | ok ts =>
          rcases ts with _ | ⟨t2, q⟩
          · show (decide (t.kind = k) && decide (t.s = c :: r)) = _
            by_cases h1 : t.kind = k
            · have := (one_name ho (by rw [h1]; exact hk)).2
              have h2 : ¬ t.s = c :: r := fun e => hn (by
                have h3 := congrArg List.length (this.symm.trans e)
                rw [List.length_take] at h3
                omega)
              simp [h2]
            · simp [h1]
          · rfl
theorem tokB_nil (k : Int) : tokB [] k = false := rfl

set_option maxRecDepth 100000 in
set_option maxHeartbeats 1000000 in
theorem refIs_any (s : Str) (k : Int) (hk : k = 1 ∨ k = 3) (w : World) : Calls Tryz.prog 90 #[.string (bstr s), .int .i64 k] w fun e w' => e = .returned (.bool (tokB s k)) ∧ Below w.heap.size w w' := by
  have hz : (bstr s).size = s.length := bstr_size s
  by_cases h0 : s = []
  · rw [h0, tokB_nil, ← h0]
    have q0 : ((s.length : Int) == 0) = true := by rw [h0]; rfl
    clear hk h0
    go_enter Tryz.func90, Tryz.ntmps90
    go_wp2_with fail
    go_returns
    exact ⟨rfl, Below.refl _ _⟩
  have hpos : 0 < s.length := List.length_pos_iff.2 h0
  have q0 : ((s.length : Int) == 0) = false := by rw [beq_eq_false_iff_ne]; omega
  by_cases h20 : 20 < s.length
  · rw [tokB_long h20]
    have hi : (20 : Int) < (s.length : Int) := by omega
    clear hk h20 h0 hpos
    go_enter Tryz.func90, Tryz.ntmps90
    go_wp2_with fail
    go_returns
    exact ⟨rfl, Below.refl _ _⟩
  have hi : ¬ (20 : Int) < (s.length : Int) := by omega
  rw [tokB_one hk h0 h20]
  obtain ⟨c, hc, hcv, hrd⟩ := conv_text s w
  have hbq := Joins.below_bytesWorld w.heap.size w 5 (bstr s) (Nat.le_refl _)
  have HC := Lib.hid (refOne_any (some ⟨w.heap.size, 0, none⟩) s c 0 (Lib.bytesWorld w 5 (bstr s)) hrd hpos hc (by omega))
  have HB := Lib.hid hbq
  have hR : isR s k = (match one s with | .ok t n => decide (n = s.length) && decide (t.kind = k) | .bad _ => false) := rfl
  have hd : s.drop 0 = s := rfl
  rw [hd] at HC
  obtain ⟨r, hr⟩ : ∃ r, one s = r := ⟨_, rfl⟩
  rw [hr] at HC hR
  rw [hR]
  clear hr hd hR hrd hbq hc h20 h0 hpos hk
  go_enter Tryz.func90, Tryz.ntmps90
  go_wp2_with fail
  clear hcv
  generalize Lib.bytesWorld w 5 (bstr s) = w1 at *
  refine HC.out.mono ?_
  rintro e w2 hres
  unfold RefOneRes at hres
  cases r with
  | bad o =>
    obtain ⟨a0, a1, a2, x, to, rfl, hb2⟩ := hres
    have H2 := Lib.hid (below_then HB.out hb2)
    have q1 : ¬ ((0 + o : Nat) : Int) < 0 := by omega
    have q2 : ¬ (o : Int) < 0 := by omega
    rw [Nat.zero_add] at q1
    clear hb2 HC
    go_wp2_with fail
    go_returns
    exact ⟨rfl, H2.out.alloc H2.out.size _⟩
  | ok t n =>
    obtain ⟨rfl, hb2⟩ := hres
    have H2 := Lib.hid (below_then HB.out hb2)
    clear hb2 HC
    have hv : tokV (t.put 0) = .agg #[.int .i64 t.kind, .int .i64 0, .int .i64 t.n, .string (bstr t.s)] := rfl
    rw [hv, Nat.zero_add]
    by_cases hn : n = s.length
    · have q1 : ((n : Int) == (s.length : Int)) = true := by rw [hn]; simp
      by_cases hkk : t.kind = k
      · have q2 : (t.kind == k) = true := by simpa using hkk
        have HA := Lib.hid (show (decide (n = s.length) && decide (t.kind = k)) = true by simp [hn, hkk])
        clear hn hkk
        go_wp2_with fail
        go_returns
        exact ⟨by show _ = Ending.returned (.bool (decide (n = s.length) && decide (t.kind = k))); rw [HA.out]; rfl, H2.out.alloc H2.out.size _⟩
      · have q2 : (t.kind == k) = false := by simpa using hkk
        have HA := Lib.hid (show (decide (n = s.length) && decide (t.kind = k)) = false by simp [hkk])
        clear hn hkk
        go_wp2_with fail
        go_returns
        exact ⟨by show _ = Ending.returned (.bool (decide (n = s.length) && decide (t.kind = k))); rw [HA.out]; rfl, H2.out.alloc H2.out.size _⟩
    · have q1 : ((n : Int) == (s.length : Int)) = false := by rw [beq_eq_false_iff_ne]; omega
      have HA := Lib.hid (show (decide (n = s.length) && decide (t.kind = k)) = false by simp only [decide_eq_false hn, Bool.false_and])
      clear hn
      go_wp2_with fail
      go_returns
      exact ⟨by show _ = Ending.returned (.bool (decide (n = s.length) && decide (t.kind = k))); rw [HA.out]; rfl, H2.out.alloc H2.out.size _⟩
end Go.Proofs.YtaglmmcjhlehjaaGreatDoor

namespace Go.Proofs.YtaglmmcjhlehjaaGreatDoor
open Go.ChangeShapes Go.WideShapes Go.ChangeAt Go.RowKit Go.Sort
set_option linter.unusedVariables false
set_option linter.unusedSimpArgs false
attribute [local irreducible] Go.wpQuiet


set_option maxRecDepth 100000 in
set_option maxHeartbeats 1000000 in
theorem refAll_any (A : Option Addr) (l : List Str) (n c : Nat) (kd : Int) (hkd : kd = 1 ∨ kd = 3) (w : World) (hr : Rd w 1 A n (strs l)) (hm : n ≤ 9223372036854775807) :
    Calls Tryz.prog 89 #[.slice A n c, .int .i64 kd] w fun e w' => e = .returned (.bool (labB l kd)) ∧ Below w.heap.size w w' := by
  have hlen := rd_len hr
  subst hlen
  have HK := Lib.hid hkd
  have HR := Lib.hid hr
  have HM := Lib.hid hm
  clear hr hkd
  go_enter Tryz.func89, Tryz.ntmps89
  go_wp2_with fail
  go_loopw [5] (fun i wr => ∃ k : Nat, i = .int .i64 k ∧ k ≤ l.length ∧ ((l.take k).all fun s => tokB s kd) = true ∧ (∀ j (h : j + 1 < l.length), j + 1 < k → slt l[j] l[j + 1] = true) ∧ Below w.heap.size w wr) (fun i _ => l.length - (intOf i).toNat)
  case atStart => exact ⟨0, rfl, Nat.zero_le _, by simp, (by intro j _ h; omega), Below.refl _ _⟩
  case round =>
    obtain ⟨k, rfl, hk, hall, hs, hb⟩ := hrel
    have HS := Lib.hid hs
    have HB := Lib.hid hb
    have HALL := Lib.hid hall
    clear hs hall
    by_cases hlt : k < l.length
    · obtain ⟨b, o, hA, hc⟩ := (HR.out.below hb).str (k := k) hlt
      have h1 := hc k hlt
      rw [hA]
      have HT := Lib.hid (refIs_any l[k] kd HK.out wr)
      have HN := Lib.hid (all_take_snoc (fun s => tokB s kd) hlt HALL.out)
      have HC := Lib.hid hc
      obtain ⟨x, hx⟩ : ∃ x, l[k] = x := ⟨_, rfl⟩
      rw [hx] at h1 HT HN
      have hki : (k : Int) < (l.length : Int) := by omega
      have hk0 : (0 : Int) ≤ (k : Int) := by omega
      clear hc hb hA
      go_wp2_with fail
      refine HT.out.mono ?_
      rintro e w2 ⟨rfl, hb2⟩
      have H2 := Lib.hid (below_then HB.out hb2)
      have H22 := Lib.hid hb2
      have h1 := cell_below hb2 h1
      clear hb2 HT
      cases ht : tokB x kd with
      | false =>
        have HF := Lib.hid (show labB l kd = false by unfold labB; rw [all_take_false (fun s => tokB s kd) (HN.out.trans ht)]; simp)
        clear ht h1 hx
        go_wp2_with fail
        go_quiet (fail)
        go_wp2_with fail
        go_returns
        exact ⟨by rw [HF.out]; rfl, below_drewN H2.out _⟩
      | true =>
        have HN2 := Lib.hid (HN.out.trans ht)
        clear ht HN
        by_cases hk1 : k = 0
        · have q0 : ¬ (0 : Int) < (k : Int) := by omega
          clear hx h1
          go_wp2_with fail
          go_quiet (fail)
          go_wp2_with fail
          go_roundw
          case rel => exact ⟨k + 1, by go_num, hlt, HN2.out, (by intro j _ h; omega), below_drewN H2.out _⟩
          case measure => simp [intOf] <;> omega
        · have q0 : (0 : Int) < (k : Int) := by omega
          obtain ⟨m, rfl⟩ : ∃ m, k = m + 1 := ⟨k - 1, by omega⟩
          have h0 := cell_below H22.out (HC.out m (by omega))
          have hge := bytesLess_bstr (l[m]'(by omega)) l[m+1]
          rw [hx] at hge
          obtain ⟨y, hy⟩ : ∃ y, (l[m]'(by omega)) = y := ⟨_, rfl⟩
          rw [hy] at hge h0
          cases hsl : slt y x with
          | false =>
            rw [hsl] at hge
            have HF := Lib.hid (show labB l kd = false by unfold labB; rw [isB_false (i := m) (by omega) (by rw [hy, hx]; exact hsl)]; simp)
            clear hsl hx hy
            go_wp2_with fail
            have i1 : (m : Int) < (l.length : Int) := by omega
            have i2 : (m : Int) + 1 < (l.length : Int) := by omega
            have i3 : (0 : Int) ≤ (m : Int) + 1 := by omega
            have i4 : ((m : Int) + 1).toNat = m + 1 := by omega
            have i5 : (0 : Int) < (m : Int) + 1 := by omega
            have i6 : decide ((0 : Int) < (m : Int) + 1) = true := decide_eq_true i5
            have hwr : IntKind.i64.wrap (m : Int) = (m : Int) := by have := HM.out; rw [IntKind.wrap_i64]; omega
            go_quiet (fail)
            clear i1 i2 i3 i4 i5 i6 hwr
            go_wp2_with fail
            go_returns
            exact ⟨by rw [HF.out]; rfl, below_drewN H2.out _⟩
          | true =>
            rw [hsl] at hge
            have HSL := Lib.hid (show slt (l[m]'(by omega)) l[m+1] = true by rw [hy, hx]; exact hsl)
            clear hsl hx hy
            go_wp2_with fail
            have i1 : (m : Int) < (l.length : Int) := by omega
            have i2 : (m : Int) + 1 < (l.length : Int) := by omega
            have i3 : (0 : Int) ≤ (m : Int) + 1 := by omega
            have i4 : ((m : Int) + 1).toNat = m + 1 := by omega
            have i5 : (0 : Int) < (m : Int) + 1 := by omega
            have i6 : decide ((0 : Int) < (m : Int) + 1) = true := decide_eq_true i5
            have hwr : IntKind.i64.wrap (m : Int) = (m : Int) := by have := HM.out; rw [IntKind.wrap_i64]; omega
            go_quiet (fail)
            clear i1 i2 i3 i4 i5 i6 hwr h1 h0 hge
            go_wp2_with fail
            go_roundw
            case rel => exact ⟨m + 1 + 1, by go_num, hlt, HN2.out, (fun j hj hjk => (Nat.lt_succ_iff_lt_or_eq.1 hjk).elim (fun h => HS.out j hj h) (fun h => by obtain rfl : j = m := (by omega); exact HSL.out)), below_drewN H2.out _⟩
            case measure => simp [intOf] <;> omega
    · have HI := Lib.hid (show isB l = true from (isB_iff l).2 (fun i hi => HS.out i hi (by omega)))
      have hki : ¬ (k : Int) < (l.length : Int) := by omega
      have HAL := Lib.hid (show (l.all fun s => tokB s kd) = true by have := HALL.out; rwa [List.take_of_length_le (by omega)] at this)
      clear hb
      by_cases h30 : l.length ≤ 30
      · have hi : (l.length : Int) ≤ 30 := by omega
        have HF := Lib.hid (show labB l kd = true by unfold labB; rw [decide_eq_true h30, HI.out, HAL.out]; rfl)
        clear h30
        go_wp2_with fail
        go_returns
        exact ⟨by rw [HF.out]; rfl, HB.out⟩
      · have hi : ¬ (l.length : Int) ≤ 30 := by omega
        have HF := Lib.hid (show labB l kd = false by unfold labB; rw [decide_eq_false h30]; rfl)
        clear h30
        go_wp2_with fail
        go_returns
        exact ⟨by rw [HF.out]; rfl, HB.out⟩

set_option maxRecDepth 100000 in
set_option maxHeartbeats 1000000 in
theorem refOper_any (s : Str) (w : World) : Calls Tryz.prog 118 #[.string (bstr s)] w fun e w' => e = .returned (.bool (opB s)) ∧ Below w.heap.size w w' := by
  by_cases e0 : s = [43]
  · have HA := Lib.hid (show opB s = true by rw [e0]; rfl)
    have g0 : ((bstr s).toList == [43]) = true := by rw [bstr_toList]; simpa using e0
    clear e0
    go_enter Tryz.func118, Tryz.ntmps118
    go_wp2_with fail
    go_returns
    exact ⟨by rw [HA.out]; rfl, Below.refl _ _⟩
  by_cases e1 : s = [45]
  · have HA := Lib.hid (show opB s = true by rw [e1]; rfl)
    have g0 : ((bstr s).toList == [43]) = false := by rw [bstr_toList]; simpa using e0
    have g1 : ((bstr s).toList == [45]) = true := by rw [bstr_toList]; simpa using e1
    clear e0 e1
    go_enter Tryz.func118, Tryz.ntmps118
    go_wp2_with fail
    go_returns
    exact ⟨by rw [HA.out]; rfl, Below.refl _ _⟩
  by_cases e2 : s = [42]
  · have HA := Lib.hid (show opB s = true by rw [e2]; rfl)
    have g0 : ((bstr s).toList == [43]) = false := by rw [bstr_toList]; simpa using e0
    have g1 : ((bstr s).toList == [45]) = false := by rw [bstr_toList]; simpa using e1
    have g2 : ((bstr s).toList == [42]) = true := by rw [bstr_toList]; simpa using e2
    clear e0 e1 e2
    go_enter Tryz.func118, Tryz.ntmps118
    go_wp2_with fail
    go_returns
    exact ⟨by rw [HA.out]; rfl, Below.refl _ _⟩
  by_cases e3 : s = [47]
  · have HA := Lib.hid (show opB s = true by rw [e3]; rfl)
    have g0 : ((bstr s).toList == [43]) = false := by rw [bstr_toList]; simpa using e0
    have g1 : ((bstr s).toList == [45]) = false := by rw [bstr_toList]; simpa using e1
    have g2 : ((bstr s).toList == [42]) = false := by rw [bstr_toList]; simpa using e2
    have g3 : ((bstr s).toList == [47]) = true := by rw [bstr_toList]; simpa using e3
    clear e0 e1 e2 e3
    go_enter Tryz.func118, Tryz.ntmps118
    go_wp2_with fail
    go_returns
    exact ⟨by rw [HA.out]; rfl, Below.refl _ _⟩
  by_cases e4 : s = [60]
  · have HA := Lib.hid (show opB s = true by rw [e4]; rfl)
    have g0 : ((bstr s).toList == [43]) = false := by rw [bstr_toList]; simpa using e0
    have g1 : ((bstr s).toList == [45]) = false := by rw [bstr_toList]; simpa using e1
    have g2 : ((bstr s).toList == [42]) = false := by rw [bstr_toList]; simpa using e2
    have g3 : ((bstr s).toList == [47]) = false := by rw [bstr_toList]; simpa using e3
    have g4 : ((bstr s).toList == [60]) = true := by rw [bstr_toList]; simpa using e4
    clear e0 e1 e2 e3 e4
    go_enter Tryz.func118, Tryz.ntmps118
    go_wp2_with fail
    go_returns
    exact ⟨by rw [HA.out]; rfl, Below.refl _ _⟩
  by_cases e5 : s = [61, 61]
  · have HA := Lib.hid (show opB s = true by rw [e5]; rfl)
    have g0 : ((bstr s).toList == [43]) = false := by rw [bstr_toList]; simpa using e0
    have g1 : ((bstr s).toList == [45]) = false := by rw [bstr_toList]; simpa using e1
    have g2 : ((bstr s).toList == [42]) = false := by rw [bstr_toList]; simpa using e2
    have g3 : ((bstr s).toList == [47]) = false := by rw [bstr_toList]; simpa using e3
    have g4 : ((bstr s).toList == [60]) = false := by rw [bstr_toList]; simpa using e4
    have g5 : ((bstr s).toList == [61, 61]) = true := by rw [bstr_toList]; simpa using e5
    clear e0 e1 e2 e3 e4 e5
    go_enter Tryz.func118, Tryz.ntmps118
    go_wp2_with fail
    go_returns
    exact ⟨by rw [HA.out]; rfl, Below.refl _ _⟩
  by_cases e6 : s = [94]
  · have HA := Lib.hid (show opB s = true by rw [e6]; rfl)
    have g0 : ((bstr s).toList == [43]) = false := by rw [bstr_toList]; simpa using e0
    have g1 : ((bstr s).toList == [45]) = false := by rw [bstr_toList]; simpa using e1
    have g2 : ((bstr s).toList == [42]) = false := by rw [bstr_toList]; simpa using e2
    have g3 : ((bstr s).toList == [47]) = false := by rw [bstr_toList]; simpa using e3
    have g4 : ((bstr s).toList == [60]) = false := by rw [bstr_toList]; simpa using e4
    have g5 : ((bstr s).toList == [61, 61]) = false := by rw [bstr_toList]; simpa using e5
    have g6 : ((bstr s).toList == [94]) = true := by rw [bstr_toList]; simpa using e6
    clear e0 e1 e2 e3 e4 e5 e6
    go_enter Tryz.func118, Tryz.ntmps118
    go_wp2_with fail
    go_returns
    exact ⟨by rw [HA.out]; rfl, Below.refl _ _⟩
  by_cases e7 : s = [35]
  · have HA := Lib.hid (show opB s = true by rw [e7]; rfl)
    have g0 : ((bstr s).toList == [43]) = false := by rw [bstr_toList]; simpa using e0
    have g1 : ((bstr s).toList == [45]) = false := by rw [bstr_toList]; simpa using e1
    have g2 : ((bstr s).toList == [42]) = false := by rw [bstr_toList]; simpa using e2
    have g3 : ((bstr s).toList == [47]) = false := by rw [bstr_toList]; simpa using e3
    have g4 : ((bstr s).toList == [60]) = false := by rw [bstr_toList]; simpa using e4
    have g5 : ((bstr s).toList == [61, 61]) = false := by rw [bstr_toList]; simpa using e5
    have g6 : ((bstr s).toList == [94]) = false := by rw [bstr_toList]; simpa using e6
    have g7 : ((bstr s).toList == [35]) = true := by rw [bstr_toList]; simpa using e7
    clear e0 e1 e2 e3 e4 e5 e6 e7
    go_enter Tryz.func118, Tryz.ntmps118
    go_wp2_with fail
    go_returns
    exact ⟨by rw [HA.out]; rfl, Below.refl _ _⟩
  have HA := Lib.hid (show opB s = false by unfold opB; exact decide_eq_false (by unfold opsL; simp [e0, e1, e2, e3, e4, e5, e6, e7]))
  have g0 : ((bstr s).toList == [43]) = false := by rw [bstr_toList]; simpa using e0
  have g1 : ((bstr s).toList == [45]) = false := by rw [bstr_toList]; simpa using e1
  have g2 : ((bstr s).toList == [42]) = false := by rw [bstr_toList]; simpa using e2
  have g3 : ((bstr s).toList == [47]) = false := by rw [bstr_toList]; simpa using e3
  have g4 : ((bstr s).toList == [60]) = false := by rw [bstr_toList]; simpa using e4
  have g5 : ((bstr s).toList == [61, 61]) = false := by rw [bstr_toList]; simpa using e5
  have g6 : ((bstr s).toList == [94]) = false := by rw [bstr_toList]; simpa using e6
  have g7 : ((bstr s).toList == [35]) = false := by rw [bstr_toList]; simpa using e7
  clear e0 e1 e2 e3 e4 e5 e6 e7
  go_enter Tryz.func118, Tryz.ntmps118
  go_wp2_with fail
  go_returns
  exact ⟨by rw [HA.out]; rfl, Below.refl _ _⟩

set_option maxRecDepth 100000 in
set_option maxHeartbeats 4000000 in
theorem refS_any (d : ExD) (w : World) (hs : d.s.length ≤ 3000000) : Calls Tryz.prog 87 #[.agg d.arr] w fun e w' => e = .returned (.bool d.sB) ∧ Below w.heap.size w w' := by
  have hb1 : Below w.heap.size w (w.alloc (.cells d.arr 25)) := (Below.refl _ _).alloc (Nat.le_refl _) _
  have hAt := ex_box w d
  have HB1 := Lib.hid hb1
  have HS := Lib.hid hs
  have c0 := hAt.c0
  have c3 := hAt.c3
  clear hb1 hAt hs
  by_cases k2 : d.kind = 2
  · have HA := Lib.hid (show d.sB = (quoteS d.s).isSome by unfold ExD.sB; simp [k2])
    have q2 : (d.kind == 2) = true := by rw [k2]; rfl
    clear k2
    go_enter Tryz.func87, Tryz.ntmps87
    go_wp2_with fail
    generalize (w.alloc (.cells d.arr 25)) = w1 at *
    refine (refQuote_any d.s w1 HS.out).mono ?_
    rintro e w2 ⟨q, ok, rfl, rfl, hq⟩
    have HQ := Lib.hid hq
    clear hq c0 c3
    go_wp2_with fail
    go_returns
    refine ⟨?_, HB1.out⟩
    rw [HA.out, HQ.out]
    cases ok <;> rfl
  by_cases k3 : d.kind = 3
  · have HA := Lib.hid (show d.sB = tokB d.s 1 by unfold ExD.sB; simp [k3])
    have q2 : (d.kind == 2) = false := by rw [k3]; rfl
    have q3 : (d.kind == 3) = true := by rw [k3]; rfl
    clear k2 k3
    go_enter Tryz.func87, Tryz.ntmps87
    go_wp2_with fail
    generalize (w.alloc (.cells d.arr 25)) = w1 at *
    refine (refIs_any d.s 1 (.inl rfl) w1).mono ?_
    rintro e w2 ⟨rfl, hb2⟩
    have H2 := Lib.hid (below_then HB1.out hb2)
    clear hb2 c0 c3
    go_wp2_with fail
    go_returns
    exact ⟨by rw [HA.out]; rfl, H2.out⟩
  by_cases k4 : d.kind = 4
  · have HA := Lib.hid (show d.sB = tokB d.s 1 by unfold ExD.sB; simp [k4])
    have q2 : (d.kind == 2) = false := by rw [k4]; rfl
    have q3 : (d.kind == 3) = false := by rw [k4]; rfl
    have q4 : (d.kind == 4) = true := by rw [k4]; rfl
    clear k2 k3 k4
    go_enter Tryz.func87, Tryz.ntmps87
    go_wp2_with fail
    generalize (w.alloc (.cells d.arr 25)) = w1 at *
    refine (refIs_any d.s 1 (.inl rfl) w1).mono ?_
    rintro e w2 ⟨rfl, hb2⟩
    have H2 := Lib.hid (below_then HB1.out hb2)
    clear hb2 c0 c3
    go_wp2_with fail
    go_returns
    exact ⟨by rw [HA.out]; rfl, H2.out⟩
  by_cases k6 : d.kind = 6
  · have HA := Lib.hid (show d.sB = tokB d.s 1 by unfold ExD.sB; simp [k6])
    have q2 : (d.kind == 2) = false := by rw [k6]; rfl
    have q3 : (d.kind == 3) = false := by rw [k6]; rfl
    have q4 : (d.kind == 4) = false := by rw [k6]; rfl
    have q6 : (d.kind == 6) = true := by rw [k6]; rfl
    clear k2 k3 k4 k6
    go_enter Tryz.func87, Tryz.ntmps87
    go_wp2_with fail
    generalize (w.alloc (.cells d.arr 25)) = w1 at *
    refine (refIs_any d.s 1 (.inl rfl) w1).mono ?_
    rintro e w2 ⟨rfl, hb2⟩
    have H2 := Lib.hid (below_then HB1.out hb2)
    clear hb2 c0 c3
    go_wp2_with fail
    go_returns
    exact ⟨by rw [HA.out]; rfl, H2.out⟩
  by_cases k7 : d.kind = 7
  · have HA := Lib.hid (show d.sB = tokB d.s 1 by unfold ExD.sB; simp [k7])
    have q2 : (d.kind == 2) = false := by rw [k7]; rfl
    have q3 : (d.kind == 3) = false := by rw [k7]; rfl
    have q4 : (d.kind == 4) = false := by rw [k7]; rfl
    have q6 : (d.kind == 6) = false := by rw [k7]; rfl
    have q7 : (d.kind == 7) = true := by rw [k7]; rfl
    clear k2 k3 k4 k6 k7
    go_enter Tryz.func87, Tryz.ntmps87
    go_wp2_with fail
    generalize (w.alloc (.cells d.arr 25)) = w1 at *
    refine (refIs_any d.s 1 (.inl rfl) w1).mono ?_
    rintro e w2 ⟨rfl, hb2⟩
    have H2 := Lib.hid (below_then HB1.out hb2)
    clear hb2 c0 c3
    go_wp2_with fail
    go_returns
    exact ⟨by rw [HA.out]; rfl, H2.out⟩
  by_cases k9 : d.kind = 9
  · have HA := Lib.hid (show d.sB = tokB d.s 1 by unfold ExD.sB; simp [k9])
    have q2 : (d.kind == 2) = false := by rw [k9]; rfl
    have q3 : (d.kind == 3) = false := by rw [k9]; rfl
    have q4 : (d.kind == 4) = false := by rw [k9]; rfl
    have q6 : (d.kind == 6) = false := by rw [k9]; rfl
    have q7 : (d.kind == 7) = false := by rw [k9]; rfl
    have q9 : (d.kind == 9) = true := by rw [k9]; rfl
    clear k2 k3 k4 k6 k7 k9
    go_enter Tryz.func87, Tryz.ntmps87
    go_wp2_with fail
    generalize (w.alloc (.cells d.arr 25)) = w1 at *
    refine (refIs_any d.s 1 (.inl rfl) w1).mono ?_
    rintro e w2 ⟨rfl, hb2⟩
    have H2 := Lib.hid (below_then HB1.out hb2)
    clear hb2 c0 c3
    go_wp2_with fail
    go_returns
    exact ⟨by rw [HA.out]; rfl, H2.out⟩
  by_cases k10 : d.kind = 10
  · have HA := Lib.hid (show d.sB = tokB d.s 1 by unfold ExD.sB; simp [k10])
    have q2 : (d.kind == 2) = false := by rw [k10]; rfl
    have q3 : (d.kind == 3) = false := by rw [k10]; rfl
    have q4 : (d.kind == 4) = false := by rw [k10]; rfl
    have q6 : (d.kind == 6) = false := by rw [k10]; rfl
    have q7 : (d.kind == 7) = false := by rw [k10]; rfl
    have q9 : (d.kind == 9) = false := by rw [k10]; rfl
    have q10 : (d.kind == 10) = true := by rw [k10]; rfl
    clear k2 k3 k4 k6 k7 k9 k10
    go_enter Tryz.func87, Tryz.ntmps87
    go_wp2_with fail
    generalize (w.alloc (.cells d.arr 25)) = w1 at *
    refine (refIs_any d.s 1 (.inl rfl) w1).mono ?_
    rintro e w2 ⟨rfl, hb2⟩
    have H2 := Lib.hid (below_then HB1.out hb2)
    clear hb2 c0 c3
    go_wp2_with fail
    go_returns
    exact ⟨by rw [HA.out]; rfl, H2.out⟩
  by_cases k11 : d.kind = 11
  · have HA := Lib.hid (show d.sB = tokB d.s 1 by unfold ExD.sB; simp [k11])
    have q2 : (d.kind == 2) = false := by rw [k11]; rfl
    have q3 : (d.kind == 3) = false := by rw [k11]; rfl
    have q4 : (d.kind == 4) = false := by rw [k11]; rfl
    have q6 : (d.kind == 6) = false := by rw [k11]; rfl
    have q7 : (d.kind == 7) = false := by rw [k11]; rfl
    have q9 : (d.kind == 9) = false := by rw [k11]; rfl
    have q10 : (d.kind == 10) = false := by rw [k11]; rfl
    have q11 : (d.kind == 11) = true := by rw [k11]; rfl
    clear k2 k3 k4 k6 k7 k9 k10 k11
    go_enter Tryz.func87, Tryz.ntmps87
    go_wp2_with fail
    generalize (w.alloc (.cells d.arr 25)) = w1 at *
    refine (refIs_any d.s 1 (.inl rfl) w1).mono ?_
    rintro e w2 ⟨rfl, hb2⟩
    have H2 := Lib.hid (below_then HB1.out hb2)
    clear hb2 c0 c3
    go_wp2_with fail
    go_returns
    exact ⟨by rw [HA.out]; rfl, H2.out⟩
  by_cases k12 : d.kind = 12
  · have HA := Lib.hid (show d.sB = tokB d.s 1 by unfold ExD.sB; simp [k12])
    have q2 : (d.kind == 2) = false := by rw [k12]; rfl
    have q3 : (d.kind == 3) = false := by rw [k12]; rfl
    have q4 : (d.kind == 4) = false := by rw [k12]; rfl
    have q6 : (d.kind == 6) = false := by rw [k12]; rfl
    have q7 : (d.kind == 7) = false := by rw [k12]; rfl
    have q9 : (d.kind == 9) = false := by rw [k12]; rfl
    have q10 : (d.kind == 10) = false := by rw [k12]; rfl
    have q11 : (d.kind == 11) = false := by rw [k12]; rfl
    have q12 : (d.kind == 12) = true := by rw [k12]; rfl
    clear k2 k3 k4 k6 k7 k9 k10 k11 k12
    go_enter Tryz.func87, Tryz.ntmps87
    go_wp2_with fail
    generalize (w.alloc (.cells d.arr 25)) = w1 at *
    refine (refIs_any d.s 1 (.inl rfl) w1).mono ?_
    rintro e w2 ⟨rfl, hb2⟩
    have H2 := Lib.hid (below_then HB1.out hb2)
    clear hb2 c0 c3
    go_wp2_with fail
    go_returns
    exact ⟨by rw [HA.out]; rfl, H2.out⟩
  by_cases k13 : d.kind = 13
  · have HA := Lib.hid (show d.sB = tokB d.s 3 by unfold ExD.sB; simp [k13])
    have q2 : (d.kind == 2) = false := by rw [k13]; rfl
    have q3 : (d.kind == 3) = false := by rw [k13]; rfl
    have q4 : (d.kind == 4) = false := by rw [k13]; rfl
    have q6 : (d.kind == 6) = false := by rw [k13]; rfl
    have q7 : (d.kind == 7) = false := by rw [k13]; rfl
    have q9 : (d.kind == 9) = false := by rw [k13]; rfl
    have q10 : (d.kind == 10) = false := by rw [k13]; rfl
    have q11 : (d.kind == 11) = false := by rw [k13]; rfl
    have q12 : (d.kind == 12) = false := by rw [k13]; rfl
    have q13 : (d.kind == 13) = true := by rw [k13]; rfl
    clear k2 k3 k4 k6 k7 k9 k10 k11 k12 k13
    go_enter Tryz.func87, Tryz.ntmps87
    go_wp2_with fail
    generalize (w.alloc (.cells d.arr 25)) = w1 at *
    refine (refIs_any d.s 3 (.inr rfl) w1).mono ?_
    rintro e w2 ⟨rfl, hb2⟩
    have H2 := Lib.hid (below_then HB1.out hb2)
    clear hb2 c0 c3
    go_wp2_with fail
    go_returns
    exact ⟨by rw [HA.out]; rfl, H2.out⟩
  by_cases k16 : d.kind = 16
  · have HA := Lib.hid (show d.sB = opB d.s by unfold ExD.sB; simp [k16])
    have q2 : (d.kind == 2) = false := by rw [k16]; rfl
    have q3 : (d.kind == 3) = false := by rw [k16]; rfl
    have q4 : (d.kind == 4) = false := by rw [k16]; rfl
    have q6 : (d.kind == 6) = false := by rw [k16]; rfl
    have q7 : (d.kind == 7) = false := by rw [k16]; rfl
    have q9 : (d.kind == 9) = false := by rw [k16]; rfl
    have q10 : (d.kind == 10) = false := by rw [k16]; rfl
    have q11 : (d.kind == 11) = false := by rw [k16]; rfl
    have q12 : (d.kind == 12) = false := by rw [k16]; rfl
    have q13 : (d.kind == 13) = false := by rw [k16]; rfl
    have q16 : (d.kind == 16) = true := by rw [k16]; rfl
    clear k2 k3 k4 k6 k7 k9 k10 k11 k12 k13 k16
    go_enter Tryz.func87, Tryz.ntmps87
    go_wp2_with fail
    generalize (w.alloc (.cells d.arr 25)) = w1 at *
    refine (refOper_any d.s w1).mono ?_
    rintro e w2 ⟨rfl, hb2⟩
    have H2 := Lib.hid (below_then HB1.out hb2)
    clear hb2 c0 c3
    go_wp2_with fail
    go_returns
    exact ⟨by rw [HA.out]; rfl, H2.out⟩
  have HA := Lib.hid (show d.sB = decide (d.s = []) by unfold ExD.sB; simp [k2, k3, k4, k6, k7, k9, k10, k11, k12, k13, k16])
  have q2 : (d.kind == 2) = false := by simpa using k2
  have q3 : (d.kind == 3) = false := by simpa using k3
  have q4 : (d.kind == 4) = false := by simpa using k4
  have q6 : (d.kind == 6) = false := by simpa using k6
  have q7 : (d.kind == 7) = false := by simpa using k7
  have q9 : (d.kind == 9) = false := by simpa using k9
  have q10 : (d.kind == 10) = false := by simpa using k10
  have q11 : (d.kind == 11) = false := by simpa using k11
  have q12 : (d.kind == 12) = false := by simpa using k12
  have q13 : (d.kind == 13) = false := by simpa using k13
  have q16 : (d.kind == 16) = false := by simpa using k16
  clear k2 k3 k4 k6 k7 k9 k10 k11 k12 k13 k16
  by_cases hs0 : d.s = []
  · have HA2 := Lib.hid (show d.sB = true by rw [HA.out]; exact decide_eq_true hs0)
    have g : (bstr d.s).toList.isEmpty = true := by rw [hs0, bstr_toList]; rfl
    clear hs0
    go_enter Tryz.func87, Tryz.ntmps87
    go_wp2_with fail
    go_returns
    exact ⟨by rw [HA2.out]; rfl, HB1.out⟩
  · have HA2 := Lib.hid (show d.sB = false by rw [HA.out]; exact decide_eq_false hs0)
    have g : (bstr d.s).toList.isEmpty = false := str_empty hs0
    clear hs0
    go_enter Tryz.func87, Tryz.ntmps87
    go_wp2_with fail
    go_returns
    exact ⟨by rw [HA2.out]; rfl, HB1.out⟩
end Go.Proofs.YtaglmmcjhlehjaaGreatDoor

namespace Go.Proofs.YtaglmmcjhlehjaaGreatDoor
open Go.ChangeShapes Go.WideShapes Go.ChangeAt Go.RowKit Go.Sort
set_option linter.unusedVariables false
set_option linter.unusedSimpArgs false

set_option maxRecDepth 100000 in
set_option maxHeartbeats 2000000 in
theorem count_any (w0 : World) (t : Ex) (hIn : t.In w0) : ∀ (m : Int) (w : World), Below w0.heap.size w0 w →
    Calls Tryz.prog 27 #[.agg t.d.arr, .int .i64 m] w fun e w' => (∃ v : Int, e = .returned (.int .i64 v)) ∧ Below w.heap.size w w' := by
  induction hIn with
  | mk d l lab nam par cap sub ih =>
  intro m w hb
  have hlen : l.length = d.pn := by have := par.1; rw [flat_len Ex.cells_len] at this; omega
  have hb1 : Below w.heap.size w (w.alloc (.cells d.arr 25)) := (Below.refl _ _).alloc (Nat.le_refl _) _
  have hAt := ex_box w d
  have HA := Lib.hid (And.intro hAt (And.intro (below_then hb hb1) (And.intro lab (And.intro nam (And.intro cap hlen)))))
  have HI := Lib.hid (Ex.In.mk d l lab nam par cap sub)
  have HIH := Lib.hid ih
  have HB1 := Lib.hid hb1
  have c3 := hAt.c3
  have c4 := hAt.c4
  clear hb1 hAt lab nam par cap sub ih hb hlen
  go_enter Tryz.func27, Tryz.ntmps27
  show _
  unfold Ex.d
  go_wp2_with fail
  clear c3 c4
  generalize (w.alloc (.cells d.arr 25)) = w1 at *
  have HB0 := Lib.hid (Below.refl w1.heap.size w1)
  go_loopw [1, 5] (fun v i wr => ∃ (z : Int) (k : Nat), v = .int .i64 z ∧ i = .int .i64 k ∧ k ≤ d.ln ∧ Below w1.heap.size w1 wr) (fun _ i _ => d.ln - (intOf i).toNat)
  case atStart => exact ⟨_, 0, rfl, rfl, Nat.zero_le _, HB0.out⟩
  case round =>
    obtain ⟨z, k, rfl, rfl, hk, hbr⟩ := hrel
    have HR := Lib.hid hbr
    have cc := (HA.out.1.lower hbr).c5
    clear hbr
    by_cases hlt : k < d.ln
    · have hll : d.labels.length = d.ln := rd_len HA.out.2.2.1
      obtain ⟨b, o, hlA, hcel⟩ := ((HA.out.2.2.1.below HA.out.2.1).below HR.out).str (k := k) (by omega)
      have h1 := hcel k (by omega)
      rw [hlA] at cc
      obtain ⟨x, hx⟩ : ∃ x, (d.labels[k]'(by omega)) = x := ⟨_, rfl⟩
      rw [hx] at h1
      have hki : (k : Int) < (d.ln : Int) := by omega
      have hk4 : (k : Int) ≤ 9223372036854775806 := by have := HA.out.2.2.2.2.1.1.2.2; omega
      clear hcel hx hlA hll
      go_wp2_with fail
      go_roundw
      case rel => exact ⟨_, k + 1, rfl, by go_num, hlt, HR.out⟩
      case measure => simp [intOf] <;> omega
    · have hki : ¬ (k : Int) < (d.ln : Int) := by omega
      clear hlt
      go_wp2_with fail
      clear cc
      go_loopw [1, 6] (fun v i wr => ∃ (z : Int) (k : Nat), v = .int .i64 z ∧ i = .int .i64 k ∧ k ≤ d.nn ∧ Below w1.heap.size w1 wr) (fun _ i _ => d.nn - (intOf i).toNat)
      case atStart => exact ⟨_, 0, rfl, rfl, Nat.zero_le _, HR.out⟩
      case round =>
        clear HR
        obtain ⟨z, k, rfl, rfl, hk, hbr⟩ := hrel
        have HR := Lib.hid hbr
        have cc := (HA.out.1.lower hbr).c6
        clear hbr
        by_cases hlt : k < d.nn
        · have hll : d.names.length = d.nn := rd_len HA.out.2.2.2.1
          obtain ⟨b, o, hlA, hcel⟩ := ((HA.out.2.2.2.1.below HA.out.2.1).below HR.out).str (k := k) (by omega)
          have h1 := hcel k (by omega)
          rw [hlA] at cc
          obtain ⟨x, hx⟩ : ∃ x, (d.names[k]'(by omega)) = x := ⟨_, rfl⟩
          rw [hx] at h1
          have hki : (k : Int) < (d.nn : Int) := by omega
          have hk4 : (k : Int) ≤ 9223372036854775806 := by have := HA.out.2.2.2.2.1.2.1.2.2; omega
          clear hcel hx hlA hll
          go_wp2_with fail
          go_roundw
          case rel => exact ⟨_, k + 1, rfl, by go_num, hlt, HR.out⟩
          case measure => simp [intOf] <;> omega
        · have hki : ¬ (k : Int) < (d.nn : Int) := by omega
          clear hlt
          go_wp2_with fail
          clear cc
          go_loopw [1, 7] (fun v i wr => ∃ (z : Int) (k : Nat), v = .int .i64 z ∧ i = .int .i64 k ∧ k ≤ d.pn ∧ Below w1.heap.size w1 wr) (fun _ i _ => d.pn - (intOf i).toNat)
          case atStart => exact ⟨_, 0, rfl, rfl, Nat.zero_le _, HR.out⟩
          case round =>
            clear HR
            obtain ⟨z2, j, rfl, rfl, hj, hbr⟩ := hrel
            have HR := Lib.hid hbr
            have cc := (HA.out.1.lower hbr).c7
            clear hbr
            by_cases hlt2 : j < d.pn
            · by_cases hz : 0 ≤ z2
              · have hjl : j < l.length := by rw [HA.out.2.2.2.2.2]; exact hlt2
                obtain ⟨pb, po, hpA, hAtP⟩ := (HI.out.lower HA.out.2.1).part (k := j) hjl
                have hpA' : d.pA = some ⟨pb, po, none⟩ := hpA
                rw [hpA'] at cc
                have hAtM : (l[j]).d.At w1 pb (po + j * 8) := hAtP j hjl
                obtain ⟨x, hx⟩ : ∃ x, l[j] = x := ⟨_, rfl⟩
                rw [hx] at hAtM
                have hxm : x ∈ l := by rw [← hx]; exact List.getElem_mem hjl
                have HM := Lib.hid (fun z => HIH.out x hxm z wr (HA.out.2.1.trans (HR.out.mono HA.out.2.1.size)))
                obtain ⟨p0, p1, p2, p3, p4, p5, p6, p7⟩ := hAtM.lower HR.out
                have hji : (j : Int) < (d.pn : Int) := by omega
                have hj4 : (j : Int) ≤ 9223372036854775806 := by have := HA.out.2.2.2.2.1.2.2.1.2.2; omega
                clear hpA hpA' hAtP hAtM hx hxm hjl
                go_wp2_with fail
                refine (HM.out _).mono ?_
                rintro e w3 ⟨⟨v3, rfl⟩, hb3⟩
                have H3 := Lib.hid (below_then HR.out hb3)
                clear hb3 HM
                go_wp2_with fail
                go_roundw
                case rel => exact ⟨v3, j + 1, rfl, by go_num, hlt2, H3.out⟩
                case measure => simp [intOf] <;> omega
              · have hz2 : ¬ 0 ≤ z2 := hz
                have hji : (j : Int) < (d.pn : Int) := by omega
                go_wp2_with fail
                go_returns
                exact ⟨⟨z2, rfl⟩, below_then HB1.out HR.out⟩
            · have hji : ¬ (j : Int) < (d.pn : Int) := by omega
              go_wp2_with fail
              go_returns
              exact ⟨⟨z2, rfl⟩, below_then HB1.out HR.out⟩

theorem Few_any (w0 : World) (t : Ex) (hIn : t.In w0) (w : World) (hb : Below w0.heap.size w0 w) :
    Calls Tryz.prog 8 #[.agg t.d.arr] w fun e w' => (∃ v : Bool, e = .returned (.bool v)) ∧ Below w.heap.size w w' := by
  have hb1 : Below w.heap.size w (w.alloc (.cells t.d.arr 25)) := (Below.refl _ _).alloc (Nat.le_refl _) _
  have HC := Lib.hid (count_any w0 t hIn 20000 _ (below_then hb hb1))
  have HB := Lib.hid hb1
  clear hb1 hIn hb
  go_enter Tryz.func8, Tryz.ntmps8
  go_wp2_with fail
  refine HC.out.mono ?_
  rintro e w2 ⟨⟨v, rfl⟩, hb2⟩
  have H2 := Lib.hid (below_then HB.out hb2)
  clear hb2 HC
  go_wp2_with fail
  go_returns
  exact ⟨⟨_, rfl⟩, H2.out⟩
end Go.Proofs.YtaglmmcjhlehjaaGreatDoor
