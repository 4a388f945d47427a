/-
  An expression's own fields, by the code: lists of tokens, S, T.
-/
import Derived.Test.YtaglmmcjhlehjaaDoorExC
import Derived.BigQuiet
import Derived.Deep.QuietTactic
namespace Go.Proofs.YtaglmmcjhlehjaaDoor
open Go.ChangeShapes Go.WideShapes Go.ChangeAt Go.RowKit Go.Sort
set_option linter.unusedVariables false
set_option linter.unusedSimpArgs false

theorem all_take_snoc {l : List Str} {j : Nat} (f : Str → Bool) (hj : j < l.length) (h : (l.take j).all f = true) : (l.take (j + 1)).all f = f l[j] := by
  rw [List.take_succ_eq_append_getElem hj, List.all_append, h]; simp
theorem all_take_false {l : List Str} {j : Nat} (f : Str → Bool) (h : (l.take j).all f = false) : l.all f = false := by
  rw [← List.take_append_drop j l, List.all_append, h]; rfl

set_option maxRecDepth 100000 in
set_option maxHeartbeats 1000000 in
theorem toks_any (A : Option Addr) (l : List Str) (n c : Nat) (k : Int) (w : World) (hL : Lay w) (hr : Rd w 1 A n (strs l)) (hm : n ≤ 9223372036854775807) (hl : ∀ s ∈ l, s.length ≤ 9223372036854775807) :
    Calls Tryd.prog 40 #[.slice A n c, .int .i64 k] w fun e w' => e = .returned (.bool (l.all fun s => tokB s k)) ∧ Below w.heap.size w w' := by
  have hlen := rd_len hr
  have HR := Lib.hid (And.intro hr (And.intro hL hl))
  have HLEN := Lib.hid hlen
  clear hr hL hl hlen
  obtain ⟨ans, hans⟩ : ∃ ans, (l.all fun s => tokB s k) = ans := ⟨_, rfl⟩
  rw [hans]
  have HA := Lib.hid hans
  clear hans
  go_enter Tryd.func40, Tryd.ntmps40
  go_wp2_with fail
  go_loopw [9] (fun i wr => ∃ j : Nat, i = .int .i64 j ∧ j ≤ n ∧ (l.take j).all (fun s => tokB s k) = true ∧ Below w.heap.size w wr) (fun i _ => n - (intOf i).toNat)
  case atStart => exact ⟨0, rfl, Nat.zero_le _, by simp, Below.refl _ _⟩
  case round =>
    obtain ⟨j, rfl, hj, hall, hb⟩ := hrel
    have HB := Lib.hid (And.intro hall hb)
    clear hall
    by_cases hlt : j < n
    · have hjl : j < l.length := by rw [HLEN.out]; exact hlt
      obtain ⟨b, o, rfl, hcel⟩ := (HR.out.1.below hb).str (k := j) hjl
      have h1 := hcel j hjl
      have hji : (j : Int) < (n : Int) := by omega
      have hj4 : (j : Int) ≤ 9223372036854775806 := by omega
      have HT := Lib.hid (tok_any l[j] k wr (HR.out.2.1.below hb) (HR.out.2.2 _ (List.getElem_mem hjl)))
      have HN := Lib.hid (all_take_snoc (fun s => tokB s k) hjl HB.out.1)
      obtain ⟨x, hx⟩ : ∃ x, l[j] = x := ⟨_, rfl⟩
      rw [hx] at h1 HT HN
      clear hcel hx hjl hb
      go_wp2_with fail
      refine HT.out.mono ?_
      rintro e w2 ⟨rfl, hb2⟩
      have H2 := Lib.hid (below_then HB.out.2 hb2)
      clear hb2 HT h1
      cases ht : tokB x k with
      | true =>
        have HN2 := Lib.hid (HN.out.trans ht)
        clear ht
        go_wp2_with fail
        go_roundw
        case rel => exact ⟨j + 1, by go_num, hlt, HN2.out, H2.out⟩
        case measure => simp [intOf] <;> omega
      | false =>
        have HN2 := Lib.hid (HN.out.trans ht)
        have HF := Lib.hid (HA.out.symm.trans (all_take_false (fun s => tokB s k) HN2.out))
        clear ht
        go_wp2_with fail
        go_returns
        exact ⟨by rw [HF.out]; rfl, H2.out⟩
    · have hji : ¬ (j : Int) < (n : Int) := by omega
      have hall2 : ans = true := by
        have h5 := HB.out.1
        rw [List.take_of_length_le (by rw [HLEN.out]; omega)] at h5
        rw [← HA.out]; exact h5
      have HF := Lib.hid (And.intro hall2 hb)
      clear hall2 hb
      go_wp2_with fail
      go_returns
      exact ⟨by rw [HF.out.1]; rfl, HF.out.2⟩

set_option maxRecDepth 100000 in
set_option maxHeartbeats 1000000 in
theorem labelsMay_any (A : Option Addr) (l : List Str) (n c : Nat) (kd : Int) (w : World) (hL : Lay w) (hr : Rd w 1 A n (strs l)) (hm : n ≤ 9223372036854775807) (hl : ∀ s ∈ l, s.length ≤ 9223372036854775807) :
    Calls Tryd.prog 39 #[.slice A n c, .int .i64 kd] w fun e w' => e = .returned (.bool (labB l kd)) ∧ Below w.heap.size w w' := by
  have hlen := rd_len hr
  subst hlen
  by_cases h30n : ¬ l.length ≤ 30
  · have h30 : ¬ l.length ≤ 30 := h30n
    have HA := Lib.hid (show labB l kd = false by unfold labB; rw [decide_eq_false h30]; rfl)
    have hi : (30 : Int) < (l.length : Int) := by omega
    clear hr hL hl h30 h30n
    go_enter Tryd.func39, Tryd.ntmps39
    go_wp2_with fail
    go_returns
    exact ⟨by rw [HA.out]; rfl, Below.refl _ _⟩
  have h30 : l.length ≤ 30 := by omega
  have hi : ¬ (30 : Int) < (l.length : Int) := by omega
  clear h30n
  have HT := Lib.hid (fun w2 (hb : Below w.heap.size w w2) => toks_any A l l.length c kd w2 (hL.below hb) (hr.below hb) hm hl)
  have HL := Lib.hid h30
  have HR := Lib.hid hr
  clear hL hl hr h30
  go_enter Tryd.func39, Tryd.ntmps39
  go_wp2_with fail
  go_loopw [5] (fun i wr => ∃ k : Nat, i = .int .i64 ((k : Int) + 1) ∧ (k = 0 ∨ k < l.length) ∧ (∀ j (h : j + 1 < l.length), j < k → slt l[j] l[j + 1] = true) ∧ Below w.heap.size w wr) (fun i _ => l.length - (intOf i).toNat)
  case atStart => exact ⟨0, rfl, .inl rfl, by intro j _ h; omega, Below.refl _ _⟩
  case round =>
    obtain ⟨k, rfl, hk, hs, hb⟩ := hrel
    have HS := Lib.hid hs
    have HB := Lib.hid hb
    clear hs
    by_cases hlt : k + 1 < l.length
    · obtain ⟨b, o, hA, hc⟩ := (HR.out.below hb).str (k := k) (by omega)
      have h1 := hc k (by omega)
      have h2 := hc (k + 1) (by omega)
      rw [hA] at HT ⊢
      clear hc hb hA
      have hge := bytesLess_bstr l[k] l[k+1]
      cases hc : slt l[k] l[k + 1]
      · rw [hc] at hge
        have HF := Lib.hid (show labB l kd = false by unfold labB; rw [isB_false hlt hc]; simp)
        obtain ⟨x, hx⟩ : ∃ x, l[k] = x := ⟨_, rfl⟩
        obtain ⟨y, hy⟩ : ∃ y, l[k+1] = y := ⟨_, rfl⟩
        rw [hx] at h1 hge
        rw [hy] at h2 hge
        clear hx hy hc
        go_wp2_with fail
        have i1 : (k : Int) < (l.length : Int) := by omega
        have i2 : (k : Int) + 1 < (l.length : Int) := by omega
        have i3 : (0 : Int) ≤ (k : Int) + 1 := by omega
        have i4 : ((k : Int) + 1).toNat = k + 1 := by omega
        have hwr : IntKind.i64.wrap (k : Int) = (k : Int) := by rw [IntKind.wrap_i64]; omega
        go_quiet (fail)
        clear i1 i2 i3 i4 hwr
        go_wp2_with fail
        go_returns
        exact ⟨by rw [HF.out]; rfl, below_drewN HB.out _⟩
      · rw [hc] at hge
        have HC := Lib.hid hc
        obtain ⟨x, hx⟩ : ∃ x, l[k] = x := ⟨_, rfl⟩
        obtain ⟨y, hy⟩ : ∃ y, l[k+1] = y := ⟨_, rfl⟩
        rw [hx] at h1 hge
        rw [hy] at h2 hge
        clear hx hy hc
        go_wp2_with fail
        have i1 : (k : Int) < (l.length : Int) := by omega
        have i2 : (k : Int) + 1 < (l.length : Int) := by omega
        have i3 : (0 : Int) ≤ (k : Int) + 1 := by omega
        have i4 : ((k : Int) + 1).toNat = k + 1 := by omega
        have hwr : IntKind.i64.wrap (k : Int) = (k : Int) := by rw [IntKind.wrap_i64]; omega
        go_quiet (fail)
        clear i1 i2 i3 i4 hwr h1 h2 hge
        go_wp2_with fail
        go_roundw
        case rel => exact ⟨k + 1, by go_num, .inr (by omega), by intro j hj hjk; rcases Nat.lt_succ_iff_lt_or_eq.1 hjk with h | h; exact HS.out j hj h; subst h; exact HC.out, below_drewN HB.out _⟩
        case measure => simp [intOf] <;> omega
    · have HI := Lib.hid (show isB l = true from (isB_iff l).2 (fun i hi => HS.out i hi (by omega)))
      have hki : ¬ (k : Int) + 1 < (l.length : Int) := by omega
      clear hb
      go_wp2_with fail
      refine (HT.out _ HB.out).mono ?_
      rintro e w2 ⟨rfl, hb2⟩
      have H2 := Lib.hid (below_then HB.out hb2)
      have HF := Lib.hid (show labB l kd = (l.all fun s => tokB s kd) by unfold labB; rw [decide_eq_true HL.out, HI.out]; rfl)
      clear hb2
      go_wp2_with fail
      go_returns
      exact ⟨by rw [HF.out]; rfl, H2.out⟩

theorem str_empty {s : Str} (hs : s ≠ []) : (bstr s).toList.isEmpty = false := by
  rw [bstr_toList]; cases s with
  | nil => exact absurd rfl hs
  | cons a r => rfl
theorem quote_all (s : Str) (w : World) (h : s.length ≤ 9223372036854775807) : Calls Tryd.prog 16 #[.string (bstr s)] w fun e w' => QuoteRes s w e w' := by
  by_cases h2 : 2000 < s.length
  · exact quote_long s w h2 (by unfold maxLen; omega)
  · exact quote_short s w (by omega)

set_option maxRecDepth 100000 in
set_option maxHeartbeats 4000000 in
theorem sMay_any (d : ExD) (b o : Nat) (w : World) (h : d.At w b o) (hL : Lay w) (hs : d.s.length ≤ 9223372036854775807) : Calls Tryd.prog 29 #[.pointer (some ⟨b, o, none⟩)] w fun e w' => e = .returned (.bool d.sB) ∧ Below w.heap.size w w' := by
  have c0 := h.c0
  have c3 := h.c3
  have HT := Lib.hid (fun k => tok_any d.s k w hL hs)
  by_cases k3 : d.kind = 3
  · skip
    have HA := Lib.hid (show d.sB = tokB d.s 1 by unfold ExD.sB; simp [k3])
    have q3 : (d.kind == 3) = true := by rw [k3]; rfl
    clear k3 h
    go_enter Tryd.func29, Tryd.ntmps29
    go_wp2_with fail
    refine (HT.out 1).mono ?_
    rintro e w2 ⟨rfl, hb2⟩
    have H2 := Lib.hid hb2
    clear hb2
    go_wp2_with fail
    go_returns
    exact ⟨by rw [HA.out]; rfl, H2.out⟩
  by_cases k4 : d.kind = 4
  · skip
    have HA := Lib.hid (show d.sB = tokB d.s 1 by unfold ExD.sB; simp [k4])
    have q3 : (d.kind == 3) = false := by rw [k4]; rfl
    have q4 : (d.kind == 4) = true := by rw [k4]; rfl
    clear k3 k4 h
    go_enter Tryd.func29, Tryd.ntmps29
    go_wp2_with fail
    refine (HT.out 1).mono ?_
    rintro e w2 ⟨rfl, hb2⟩
    have H2 := Lib.hid hb2
    clear hb2
    go_wp2_with fail
    go_returns
    exact ⟨by rw [HA.out]; rfl, H2.out⟩
  by_cases k6 : d.kind = 6
  · skip
    have HA := Lib.hid (show d.sB = tokB d.s 1 by unfold ExD.sB; simp [k6])
    have q3 : (d.kind == 3) = false := by rw [k6]; rfl
    have q4 : (d.kind == 4) = false := by rw [k6]; rfl
    have q6 : (d.kind == 6) = true := by rw [k6]; rfl
    clear k3 k4 k6 h
    go_enter Tryd.func29, Tryd.ntmps29
    go_wp2_with fail
    refine (HT.out 1).mono ?_
    rintro e w2 ⟨rfl, hb2⟩
    have H2 := Lib.hid hb2
    clear hb2
    go_wp2_with fail
    go_returns
    exact ⟨by rw [HA.out]; rfl, H2.out⟩
  by_cases k7 : d.kind = 7
  · skip
    have HA := Lib.hid (show d.sB = tokB d.s 1 by unfold ExD.sB; simp [k7])
    have q3 : (d.kind == 3) = false := by rw [k7]; rfl
    have q4 : (d.kind == 4) = false := by rw [k7]; rfl
    have q6 : (d.kind == 6) = false := by rw [k7]; rfl
    have q7 : (d.kind == 7) = true := by rw [k7]; rfl
    clear k3 k4 k6 k7 h
    go_enter Tryd.func29, Tryd.ntmps29
    go_wp2_with fail
    refine (HT.out 1).mono ?_
    rintro e w2 ⟨rfl, hb2⟩
    have H2 := Lib.hid hb2
    clear hb2
    go_wp2_with fail
    go_returns
    exact ⟨by rw [HA.out]; rfl, H2.out⟩
  by_cases k9 : d.kind = 9
  · skip
    have HA := Lib.hid (show d.sB = tokB d.s 1 by unfold ExD.sB; simp [k9])
    have q3 : (d.kind == 3) = false := by rw [k9]; rfl
    have q4 : (d.kind == 4) = false := by rw [k9]; rfl
    have q6 : (d.kind == 6) = false := by rw [k9]; rfl
    have q7 : (d.kind == 7) = false := by rw [k9]; rfl
    have q9 : (d.kind == 9) = true := by rw [k9]; rfl
    clear k3 k4 k6 k7 k9 h
    go_enter Tryd.func29, Tryd.ntmps29
    go_wp2_with fail
    refine (HT.out 1).mono ?_
    rintro e w2 ⟨rfl, hb2⟩
    have H2 := Lib.hid hb2
    clear hb2
    go_wp2_with fail
    go_returns
    exact ⟨by rw [HA.out]; rfl, H2.out⟩
  by_cases k10 : d.kind = 10
  · skip
    have HA := Lib.hid (show d.sB = tokB d.s 1 by unfold ExD.sB; simp [k10])
    have q3 : (d.kind == 3) = false := by rw [k10]; rfl
    have q4 : (d.kind == 4) = false := by rw [k10]; rfl
    have q6 : (d.kind == 6) = false := by rw [k10]; rfl
    have q7 : (d.kind == 7) = false := by rw [k10]; rfl
    have q9 : (d.kind == 9) = false := by rw [k10]; rfl
    have q10 : (d.kind == 10) = true := by rw [k10]; rfl
    clear k3 k4 k6 k7 k9 k10 h
    go_enter Tryd.func29, Tryd.ntmps29
    go_wp2_with fail
    refine (HT.out 1).mono ?_
    rintro e w2 ⟨rfl, hb2⟩
    have H2 := Lib.hid hb2
    clear hb2
    go_wp2_with fail
    go_returns
    exact ⟨by rw [HA.out]; rfl, H2.out⟩
  by_cases k11 : d.kind = 11
  · skip
    have HA := Lib.hid (show d.sB = tokB d.s 1 by unfold ExD.sB; simp [k11])
    have q3 : (d.kind == 3) = false := by rw [k11]; rfl
    have q4 : (d.kind == 4) = false := by rw [k11]; rfl
    have q6 : (d.kind == 6) = false := by rw [k11]; rfl
    have q7 : (d.kind == 7) = false := by rw [k11]; rfl
    have q9 : (d.kind == 9) = false := by rw [k11]; rfl
    have q10 : (d.kind == 10) = false := by rw [k11]; rfl
    have q11 : (d.kind == 11) = true := by rw [k11]; rfl
    clear k3 k4 k6 k7 k9 k10 k11 h
    go_enter Tryd.func29, Tryd.ntmps29
    go_wp2_with fail
    refine (HT.out 1).mono ?_
    rintro e w2 ⟨rfl, hb2⟩
    have H2 := Lib.hid hb2
    clear hb2
    go_wp2_with fail
    go_returns
    exact ⟨by rw [HA.out]; rfl, H2.out⟩
  by_cases k12 : d.kind = 12
  · skip
    have HA := Lib.hid (show d.sB = tokB d.s 1 by unfold ExD.sB; simp [k12])
    have q3 : (d.kind == 3) = false := by rw [k12]; rfl
    have q4 : (d.kind == 4) = false := by rw [k12]; rfl
    have q6 : (d.kind == 6) = false := by rw [k12]; rfl
    have q7 : (d.kind == 7) = false := by rw [k12]; rfl
    have q9 : (d.kind == 9) = false := by rw [k12]; rfl
    have q10 : (d.kind == 10) = false := by rw [k12]; rfl
    have q11 : (d.kind == 11) = false := by rw [k12]; rfl
    have q12 : (d.kind == 12) = true := by rw [k12]; rfl
    clear k3 k4 k6 k7 k9 k10 k11 k12 h
    go_enter Tryd.func29, Tryd.ntmps29
    go_wp2_with fail
    refine (HT.out 1).mono ?_
    rintro e w2 ⟨rfl, hb2⟩
    have H2 := Lib.hid hb2
    clear hb2
    go_wp2_with fail
    go_returns
    exact ⟨by rw [HA.out]; rfl, H2.out⟩
  by_cases k13 : d.kind = 13
  · skip
    have HA := Lib.hid (show d.sB = tokB d.s 3 by unfold ExD.sB; simp [k13])
    have q3 : (d.kind == 3) = false := by rw [k13]; rfl
    have q4 : (d.kind == 4) = false := by rw [k13]; rfl
    have q6 : (d.kind == 6) = false := by rw [k13]; rfl
    have q7 : (d.kind == 7) = false := by rw [k13]; rfl
    have q9 : (d.kind == 9) = false := by rw [k13]; rfl
    have q10 : (d.kind == 10) = false := by rw [k13]; rfl
    have q11 : (d.kind == 11) = false := by rw [k13]; rfl
    have q12 : (d.kind == 12) = false := by rw [k13]; rfl
    have q13 : (d.kind == 13) = true := by rw [k13]; rfl
    clear k3 k4 k6 k7 k9 k10 k11 k12 k13 h
    go_enter Tryd.func29, Tryd.ntmps29
    go_wp2_with fail
    refine (HT.out 3).mono ?_
    rintro e w2 ⟨rfl, hb2⟩
    have H2 := Lib.hid hb2
    clear hb2
    go_wp2_with fail
    go_returns
    exact ⟨by rw [HA.out]; rfl, H2.out⟩
  by_cases k2 : d.kind = 2
  · skip
    have HQ := Lib.hid (quote_all d.s w hs)
    have HA := Lib.hid (show d.sB = (quoteS d.s).isSome by unfold ExD.sB; simp [k2])
    have q3 : (d.kind == 3) = false := by rw [k2]; rfl
    have q4 : (d.kind == 4) = false := by rw [k2]; rfl
    have q6 : (d.kind == 6) = false := by rw [k2]; rfl
    have q7 : (d.kind == 7) = false := by rw [k2]; rfl
    have q9 : (d.kind == 9) = false := by rw [k2]; rfl
    have q10 : (d.kind == 10) = false := by rw [k2]; rfl
    have q11 : (d.kind == 11) = false := by rw [k2]; rfl
    have q12 : (d.kind == 12) = false := by rw [k2]; rfl
    have q13 : (d.kind == 13) = false := by rw [k2]; rfl
    have q2 : (d.kind == 2) = true := by rw [k2]; rfl
    clear k3 k4 k6 k7 k9 k10 k11 k12 k13 k2 h
    obtain ⟨r, hr⟩ : ∃ r, quoteS d.s = r := ⟨_, rfl⟩
    unfold QuoteRes at HQ
    rw [hr] at HQ HA
    clear hr
    go_enter Tryd.func29, Tryd.ntmps29
    cases r with
    | none =>
      go_wp2_with fail
      refine HQ.out.mono ?_
      rintro e w2 ⟨rfl, hb2⟩
      have H2 := Lib.hid hb2
      clear hb2
      go_wp2_with fail
      go_returns
      exact ⟨by rw [HA.out]; rfl, H2.out⟩
    | some q =>
      go_wp2_with fail
      refine HQ.out.mono ?_
      rintro e w2 ⟨rfl, hb2⟩
      have H2 := Lib.hid hb2
      clear hb2
      go_wp2_with fail
      go_returns
      exact ⟨by rw [HA.out]; rfl, H2.out⟩
  by_cases k16 : d.kind = 16
  · skip
    have HA := Lib.hid (show d.sB = opB d.s by unfold ExD.sB; simp [k16])
    have q3 : (d.kind == 3) = false := by rw [k16]; rfl
    have q4 : (d.kind == 4) = false := by rw [k16]; rfl
    have q6 : (d.kind == 6) = false := by rw [k16]; rfl
    have q7 : (d.kind == 7) = false := by rw [k16]; rfl
    have q9 : (d.kind == 9) = false := by rw [k16]; rfl
    have q10 : (d.kind == 10) = false := by rw [k16]; rfl
    have q11 : (d.kind == 11) = false := by rw [k16]; rfl
    have q12 : (d.kind == 12) = false := by rw [k16]; rfl
    have q13 : (d.kind == 13) = false := by rw [k16]; rfl
    have q2 : (d.kind == 2) = false := by rw [k16]; rfl
    have q16 : (d.kind == 16) = true := by rw [k16]; rfl
    clear k3 k4 k6 k7 k9 k10 k11 k12 k13 k2 k16 h
    go_enter Tryd.func29, Tryd.ntmps29
    go_wp2_with fail
    refine (isOperator_any d.s w).mono ?_
    rintro e w2 ⟨rfl, rfl⟩
    go_wp2_with fail
    go_returns
    exact ⟨by rw [HA.out]; rfl, Below.refl _ _⟩
  have HA := Lib.hid (show d.sB = decide (d.s = []) by unfold ExD.sB; simp [k3, k4, k6, k7, k9, k10, k11, k12, k13, k2, k16])
  have q3 : (d.kind == 3) = false := by simpa using k3
  have q4 : (d.kind == 4) = false := by simpa using k4
  have q6 : (d.kind == 6) = false := by simpa using k6
  have q7 : (d.kind == 7) = false := by simpa using k7
  have q9 : (d.kind == 9) = false := by simpa using k9
  have q10 : (d.kind == 10) = false := by simpa using k10
  have q11 : (d.kind == 11) = false := by simpa using k11
  have q12 : (d.kind == 12) = false := by simpa using k12
  have q13 : (d.kind == 13) = false := by simpa using k13
  have q2 : (d.kind == 2) = false := by simpa using k2
  have q16 : (d.kind == 16) = false := by simpa using k16
  clear k3 k4 k6 k7 k9 k10 k11 k12 k13 k2 k16 h
  by_cases he : d.s = []
  · have q0 : (bstr d.s).toList.isEmpty = true := by rw [he, bstr_toList]; rfl
    have HE := Lib.hid (decide_eq_true he)
    clear he
    go_enter Tryd.func29, Tryd.ntmps29
    go_wp2_with fail
    go_returns
    exact ⟨by rw [HA.out, HE.out]; rfl, Below.refl _ _⟩
  · have q0 : (bstr d.s).toList.isEmpty = false := str_empty he
    have HE := Lib.hid (decide_eq_false he)
    clear he
    go_enter Tryd.func29, Tryd.ntmps29
    go_wp2_with fail
    go_returns
    exact ⟨by rw [HA.out, HE.out]; rfl, Below.refl _ _⟩

set_option maxRecDepth 100000 in
set_option maxHeartbeats 1000000 in
theorem tMay_any (d : ExD) (b o : Nat) (w : World) (h : d.At w b o) (hL : Lay w) (hs : d.t.length ≤ 9223372036854775807) : Calls Tryd.prog 30 #[.pointer (some ⟨b, o, none⟩)] w fun e w' => e = .returned (.bool d.tB) ∧ Below w.heap.size w w' := by
  have c0 := h.c0
  have c4 := h.c4
  have HT := Lib.hid (tok_any d.t 1 w hL hs)
  clear h hL hs
  by_cases k7 : d.kind = 7
  · have HA := Lib.hid (show d.tB = tokB d.t 1 by unfold ExD.tB; simp [k7])
    have q7 : (d.kind == 7) = true := by rw [k7]; rfl
    clear k7
    go_enter Tryd.func30, Tryd.ntmps30
    go_wp2_with fail
    refine HT.out.mono ?_
    rintro e w2 ⟨rfl, hb2⟩
    have H2 := Lib.hid hb2
    clear hb2
    go_wp2_with fail
    go_returns
    exact ⟨by rw [HA.out]; rfl, H2.out⟩
  have q7 : (d.kind == 7) = false := by simpa using k7
  by_cases k14 : d.kind = 14
  · have q14 : (d.kind == 14) = true := by rw [k14]; rfl
    by_cases he : d.t = []
    · have HA := Lib.hid (show d.tB = true by unfold ExD.tB; simp [k14, he])
      have q0 : (bstr d.t).toList.isEmpty = true := by rw [he, bstr_toList]; rfl
      clear k7 k14 he HT
      go_enter Tryd.func30, Tryd.ntmps30
      go_wp2_with fail
      go_returns
      exact ⟨by rw [HA.out]; rfl, Below.refl _ _⟩
    · have HA := Lib.hid (show d.tB = tokB d.t 1 by unfold ExD.tB; simp [k14, he])
      have q0 : (bstr d.t).toList.isEmpty = false := str_empty he
      clear k7 k14 he
      go_enter Tryd.func30, Tryd.ntmps30
      go_wp2_with fail
      refine HT.out.mono ?_
      rintro e w2 ⟨rfl, hb2⟩
      have H2 := Lib.hid hb2
      clear hb2
      go_wp2_with fail
      go_returns
      exact ⟨by rw [HA.out]; rfl, H2.out⟩
  have q14 : (d.kind == 14) = false := by simpa using k14
  have HA := Lib.hid (show d.tB = decide (d.t = []) by unfold ExD.tB; simp [k7, k14])
  clear k7 k14 HT
  by_cases he : d.t = []
  · have q0 : (bstr d.t).toList.isEmpty = true := by rw [he, bstr_toList]; rfl
    have HE := Lib.hid (decide_eq_true he)
    clear he
    go_enter Tryd.func30, Tryd.ntmps30
    go_wp2_with fail
    go_returns
    exact ⟨by rw [HA.out, HE.out]; rfl, Below.refl _ _⟩
  · have q0 : (bstr d.t).toList.isEmpty = false := str_empty he
    have HE := Lib.hid (decide_eq_false he)
    clear he
    go_enter Tryd.func30, Tryd.ntmps30
    go_wp2_with fail
    go_returns
    exact ⟨by rw [HA.out, HE.out]; rfl, Below.refl _ _⟩
end Go.Proofs.YtaglmmcjhlehjaaDoor
