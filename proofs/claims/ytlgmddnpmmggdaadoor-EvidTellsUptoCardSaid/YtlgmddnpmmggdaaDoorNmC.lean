/-
  Numbers that were met, by the document's answer: Meet.
-/
import Derived.Test.YtlgmddnpmmggdaaDoorNmB
namespace Go.Proofs.YtlgmddnpmmggdaaDoor
open Go.ChangeShapes Go.WideShapes Go.ChangeAt Go.RowKit Go.Sort
set_option linter.unusedVariables false
set_option linter.unusedSimpArgs false
attribute [local irreducible] Go.wpQuiet

theorem atF_dec (l : List Int) (x : Int) : decide (atF l x 0 < 0) = !decide (x ∈ l) := by
  by_cases h : x ∈ l
  · rw [decide_eq_true h, decide_eq_false (by rw [atF_neg]; exact not_not_intro h)]; rfl
  · rw [decide_eq_false h, decide_eq_true (by rw [atF_neg]; exact h)]; rfl
theorem at_grown (A : Option Addr) (l : List Int) (n : Int) (m c : Nat) (w : World) (hr : Rd w 1 A m (i64s l)) (hm : m ≤ 4000000) :
    ∀ d os, Calls Tryd.prog 26 #[.slice A m c, .int .i64 n] (grow (redrawn w d) os) fun e w'' => e = .returned (.int .i64 (atF l n 0)) ∧ ∃ p : Regrown, w'' = grow (redrawn w p.d) p.os := fun d os =>
  Calls.regrown_of (at_any A l n m c _ (hr.below (below_regrown w d os)) hm)

theorem noT {k x : Int} {T : List Int} (h : (decide (k = 7) && !decide (x ∈ T)) = false) : (if k = 7 then addI T x else T) = T := by
  by_cases h7 : k = 7
  · rw [if_pos h7]
    rw [decide_eq_true h7, Bool.true_and, Bool.not_eq_false'] at h
    unfold addI; rw [if_pos (of_decide_eq_true h)]
  · rw [if_neg h7]
theorem yesT {k x : Int} {T : List Int} (h : (decide (k = 7) && !decide (x ∈ T)) = true) : k = 7 ∧ x ∉ T := by
  rw [Bool.and_eq_true, Bool.not_eq_true'] at h
  exact ⟨of_decide_eq_true h.1, of_decide_eq_false h.2⟩
theorem noR {k x : Int} {s : List Int × List Int} (h : ((decide (k = 4 ∨ k = 5) && decide (0 ≤ x)) && !decide (x ∈ s.2)) = false) : (if (k = 4 ∨ k = 5) ∧ 0 ≤ x then (s.1, addI s.2 x) else s) = s := by
  by_cases h7 : (k = 4 ∨ k = 5) ∧ 0 ≤ x
  · rw [if_pos h7]
    rw [decide_eq_true h7.1, decide_eq_true h7.2, Bool.true_and, Bool.true_and, Bool.not_eq_false'] at h
    unfold addI; rw [if_pos (of_decide_eq_true h)]
  · rw [if_neg h7]
theorem yesR {k x : Int} {R : List Int} (h : ((decide (k = 4 ∨ k = 5) && decide (0 ≤ x)) && !decide (x ∈ R)) = true) : ((k = 4 ∨ k = 5) ∧ 0 ≤ x) ∧ x ∉ R := by
  rw [Bool.and_eq_true, Bool.and_eq_true, Bool.not_eq_true'] at h
  exact ⟨⟨of_decide_eq_true h.1.1, of_decide_eq_true h.1.2⟩, of_decide_eq_false h.2⟩

/-- The children's part of the meeting. -/
def Kids (w0 : World) (N : Nat) (l : List Ty) : Prop :=
  ∀ x ∈ l, ∀ (T R : List Int) (vT vR : Value) (W : World), Below w0.heap.size w0 W → NM W N T R vT vR → T.length + x.nodes ≤ 4000000 → R.length + x.nodes ≤ 4000000 →
    Calls Tryd.prog 15 #[.pointer (some ⟨N, 0, none⟩), .agg x.d.arr] W fun e w' => e = .returned (.tuple #[]) ∧ ∃ vT' vR', NM w' N (meetT x T R).1 (meetT x T R).2 vT' vR' ∧ WN N W vT vR w' vT' vR'

set_option maxRecDepth 100000 in
set_option maxHeartbeats 1000000 in
theorem meet_one (w0 : World) (N : Nat) (hN : w0.heap.size ≤ N) (d : TyD) (l : List Ty) (hI : Ty.In w0 (.mk d l)) (hK : Kids w0 N l) (T R : List Int) (vT vR : Value) (w : World) (hb : Below w0.heap.size w0 w) (hM : NM w N T R vT vR)
    (hT : T.length + (1 + nodesL l) ≤ 4000000) (hR : R.length + (1 + nodesL l) ≤ 4000000) :
    Calls Tryd.prog 15 #[.pointer (some ⟨N, 0, none⟩), .agg d.arr] w fun e w' => e = .returned (.tuple #[]) ∧ ∃ vT' vR', NM w' N (meetT (.mk d l) T R).1 (meetT (.mk d l) T R).2 vT' vR' ∧ WN N w vT vR w' vT' vR' := by
  have HMS := Lib.hid (MS.start (d := d) hM)
  have HI := Lib.hid hI
  have HK := Lib.hid hK
  have HB := Lib.hid hb
  have HT := Lib.hid (And.intro hT hR)
  have HN := Lib.hid hN
  clear hM hI hK hb hT hR hN
  go_enter Tryd.func15, Tryd.ntmps15
  go_upto_region 1 with fail
  generalize (w.alloc (.cells d.arr 25)) = w1 at *
  generalize hg : w.heap.size = g at *
  clear hg
  obtain ⟨ba, hba⟩ : ∃ ba, (decide (d.kind = 7) && !decide (d.n ∈ T)) = ba := ⟨_, rfl⟩
  have HA := Lib.hid hba
  clear hba
  go_cut [17] from 5 to 17 (fun s17 wx => s17 = .bool ba ∧ MS w d N g vT vR T R vT vR wx)
  case first =>
    obtain ⟨A1, c1, rfl, _⟩ := own_cap HMS.out.nm.oT
    have k0 := cell_regrown HMS.out.c.c0
    have k1 := cell_regrown HMS.out.c.c1
    have k2 := cell_regrown HMS.out.nm.c0
    by_cases h7 : d.kind = 7
    · have q7 : (d.kind == 7) = true := by simpa using h7
      have CA := Lib.hid (at_grown A1 T d.n T.length c1 w1 (Rd.of_own HMS.out.nm.oT) (by have := HT.out; omega))
      have qa := atF_dec T d.n
      obtain ⟨a, ha⟩ : ∃ a, atF T d.n 0 = a := ⟨_, rfl⟩
      rw [ha] at CA qa
      have hba := HA.out
      rw [decide_eq_true h7, Bool.true_and] at hba
      rw [hba] at qa
      clear h7 ha hba
      refine wp_region_quiet_below (by kernel_rfl) (by kernel_rfl) ?_
      iterate 10 (quiet_step (fail))
      iterate 3 (quiet_step (first | (go_at_call 26; with_reducible exact CA.out _ _)))
      refine wpQuiet_nil ?_
      intro _ hw
      obtain ⟨⟨dq, osq⟩, hw''⟩ := hw
      subst hw''
      have hbq := HMS.out.below (below_regrown w1 dq osq)
      clear k0 k1 k2 CA
      generalize grow (redrawn w1 dq) osq = w2 at *
      go_wp2_with fail
      go_meet
      exact ⟨rfl, hbq⟩
    · have q7 : (d.kind == 7) = false := by simpa using h7
      have hba := HA.out
      rw [decide_eq_false h7, Bool.false_and] at hba
      subst hba
      clear h7
      refine wp_region_quiet_below (by kernel_rfl) (by kernel_rfl) ?_
      iterate 4 (quiet_step (fail))
      iterate 8 (refine wpQuiet_skip (by kernel_rfl) (by kernel_rfl) ?_)
      iterate 1 (quiet_step (fail))
      refine wpQuiet_nil ?_
      intro _ hw
      obtain ⟨⟨dq, osq⟩, hw''⟩ := hw
      subst hw''
      have hbq := HMS.out.below (below_regrown w1 dq osq)
      clear k0 k1 k2
      generalize grow (redrawn w1 dq) osq = w2 at *
      go_wp2_with fail
      go_meet
      exact ⟨rfl, hbq⟩
  case rest =>
  obtain ⟨rfl, hms⟩ := hcut
  have HMC := Lib.hid hms
  clear hms HMS
  go_upto_if 17 with fail
  go_cut [] from 18 to 28 (fun wx => ∃ T1 vT1, (if d.kind = 7 then addI T d.n else T) = T1 ∧ MS w d N g vT vR T1 R vT1 vR wx)
  case first =>
    cases ba with
    | false =>
      have HF := Lib.hid (noT HA.out)
      go_wp2_with fail
      go_meet
      exact ⟨T, vT, HF.out, HMC.out⟩
    | true =>
      have HF := Lib.hid (yesT HA.out)
      obtain ⟨A1, c1, rfl, _⟩ := own_cap HMC.out.nm.oT
      have c0 := HMC.out.nm.c0
      have c0b : (wc.alloc (.cells #[.int .i64 d.n] 3)).cell? ⟨N, 0, none⟩ = _ := cell_alloc c0
      have p1 := HMC.out.c.c1
      have HL := Lib.hid (HMC.out.below (show RowKit.Below wc.heap.size wc (wc.drew.alloc (.cells #[.int .i64 d.n] 3)) from (Below.refl _ _).drew.alloc (Nat.le_refl _) _))
      have HRD := Lib.hid (Rd.lit (size := 1) (n := 1) wc.drew #[.int .i64 d.n] 3 rfl (fr := (0, 0)))
      have HS := Lib.hid (show (T.length + 1) * 8 ≤ 140737488355328 by have := HT.out; omega)
      go_wp2_with fail
      go_region_law (first
        | (refine step_app elInt (wc.drew.alloc (.cells #[.int .i64 d.n] 3)) (by rfl) (.tmp 22) (.tmp 25) (by rfl) (N + 1) (.slice A1 T.length c1) T.length (i64s T) (by rfl) HL.out.nm.oT (some ⟨wc.heap.size, 0, none⟩) 1 1 _ (by rfl) HRD.out (one_int _) HS.out HL.out.nm.lt ?_; intro v6 w6 hown6 hg6 ho6; obtain ⟨A6, c6, hv6, _⟩ := own_cap hown6; rw [hv6] at hown6 ho6 ⊢; clear hv6; have H6 := Lib.hid (And.intro hown6 (And.intro hg6 ho6)); obtain ⟨c06, _, f06, _⟩ := nm_far HL.out.nm (.inl rfl) hg6; clear hown6 hg6 ho6)
        | fail)
      all_goals
        go_wp2_with fail
        go_meet
        have h9 := HL.out.nm.addT HF.out.2 H6.out.1 H6.out.2.1 H6.out.2.2
        exact ⟨_, _, if_pos HF.out.1, HL.out.call h9.1 h9.2⟩
  case rest =>
  obtain ⟨T1, vT1, hT1, hms⟩ := hcut
  have hlT : T1.length ≤ T.length + 1 := by
    have := addI_len T d.n
    rw [← hT1]; split <;> omega
  have HMD := Lib.hid hms
  have HT1 := Lib.hid hT1
  have HLT := Lib.hid hlT
  have HPN := Lib.hid (show l.length = d.pn from HI.out.len)
  have HP4 := Lib.hid (show d.pn ≤ 4000000 from HI.out.cap.2.2.2.2.2)
  clear hms hT1 hlT HMC HA
  go_wp2_with fail
  go_loopw [4] (fun i wr => ∃ (k : Nat) (T2 R2 : List Int) (vT2 vR2 : Value), i = .int .i64 k ∧ k ≤ d.pn ∧ meetTs (l.take k) T1 R = (T2, R2) ∧ MS w d N g vT vR T2 R2 vT2 vR2 wr) (fun i _ => d.pn - (intOf i).toNat)
  case atStart => exact ⟨0, T1, R, vT1, vR, rfl, Nat.zero_le _, by rw [List.take_zero]; simp [meetTs], HMD.out⟩
  case round =>
    obtain ⟨k, T2, R2, vT2, vR2, rfl, hk, hme, hms⟩ := hrel
    have HR := Lib.hid hms
    have HME := Lib.hid hme
    have c2 := hms.c.c2
    have hwr : RowKit.Below w0.heap.size w0 wr := HB.out.trans (hms.b.b.mono HN.out)
    have HWR := Lib.hid hwr
    clear hms hme
    by_cases hlt2 : k < d.pn
    · have hjl : k < l.length := by rw [HPN.out]; exact hlt2
      obtain ⟨pb, po, hpA, hAtP⟩ := (HI.out.lower hwr).part (k := k) hjl
      have hpA' : d.pA = some ⟨pb, po, none⟩ := hpA
      rw [hpA'] at c2
      have hAtM : (l[k]).d.At wr pb (po + k * 5) := hAtP k hjl
      obtain ⟨x, hx⟩ : ∃ x, l[k] = x := ⟨_, rfl⟩
      rw [hx] at hAtM
      have hxm : x ∈ l := by rw [← hx]; exact List.getElem_mem hjl
      have htk : l.take (k + 1) = l.take k ++ [x] := by rw [List.take_succ_eq_append_getElem hjl, hx]
      have hn1 := nodesL_take l (k + 1)
      rw [htk, nodesL_snoc] at hn1
      have hl2 := meetTs_len (l.take k) T1 R
      rw [HME.out] at hl2
      have hsT : T2.length + x.nodes ≤ 4000000 := by have := HT.out; have := HLT.out; have h3 : T2.length ≤ T1.length + nodesL (l.take k) := hl2.1; omega
      have hsR : R2.length + x.nodes ≤ 4000000 := by have := HT.out; have h3 : R2.length ≤ R.length + nodesL (l.take k) := hl2.2; omega
      have HM := Lib.hid (HK.out x hxm T2 R2 vT2 vR2 wr hwr HR.out.nm hsT hsR)
      have hsn : meetTs (l.take (k + 1)) T1 R = ((meetT x T2 R2).1, (meetT x T2 R2).2) := by rw [htk, meetTs_snoc, HME.out]
      have HS := Lib.hid hsn
      obtain ⟨p0, p1, p2, p3, p4⟩ := hAtM
      have hji : (k : Int) < (d.pn : Int) := by omega
      have hj4 : (k : Int) ≤ 4000000 := by have := HP4.out; omega
      clear hpA hpA' hAtP hx hxm hjl htk hn1 hsn hl2 hsT hsR hwr
      go_wp2_with fail
      refine HM.out.mono ?_
      rintro e w3 ⟨rfl, vT3, vR3, hn3, hk3⟩
      have H3 := Lib.hid (HR.out.call hn3 hk3)
      clear hn3 hk3 HM
      go_wp2_with fail
      go_roundw
      case rel => exact ⟨k + 1, _, _, vT3, vR3, by go_num, hlt2, HS.out, H3.out⟩
      case measure => simp [intOf] <;> omega
    · have hji : ¬ (k : Int) < (d.pn : Int) := by omega
      have hmm : l.take k = l := List.take_of_length_le (by rw [HPN.out]; omega)
      have hres : meetT (.mk d l) T R = if (d.kind = 4 ∨ d.kind = 5) ∧ 0 ≤ d.tail then (T2, addI R2 d.tail) else (T2, R2) := by
        have := HME.out
        rw [hmm] at this
        unfold meetT
        rw [HT1.out, this]
      have HRES := Lib.hid hres
      clear hmm hres hwr HWR
      go_wp2_with fail
      obtain ⟨ba, hba⟩ : ∃ ba, ((decide (d.kind = 4 ∨ d.kind = 5) && decide (0 ≤ d.tail)) && !decide (d.tail ∈ R2)) = ba := ⟨_, rfl⟩
      have HA := Lib.hid hba
      clear hba
      go_cut [65] from 43 to 65 (fun s65 wx => s65 = .bool ba ∧ MS w d N g vT vR T2 R2 vT2 vR2 wx)
      case first =>
        obtain ⟨A1, c1, rfl, _⟩ := own_cap HR.out.nm.oR
        have k0 := cell_regrown HR.out.c.c0
        have k1 := cell_regrown HR.out.c.c4
        have k2 := cell_regrown HR.out.nm.c1
        have CA := Lib.hid (at_grown A1 R2 d.tail R2.length c1 wr (Rd.of_own HR.out.nm.oR) (by have := meetTs_len (l.take k) T1 R; rw [HME.out] at this; have := nodesL_take l k; have := HT.out; have := HLT.out; simp only at *; omega))
        have qa := atF_dec R2 d.tail
        obtain ⟨a, ha⟩ : ∃ a, atF R2 d.tail 0 = a := ⟨_, rfl⟩
        rw [ha] at CA qa
        clear ha
        have hba := HA.out
        by_cases h4 : d.kind = 4
        · have q4 : (d.kind == 4) = true := by simpa using h4
          rw [decide_eq_true (Or.inl h4), Bool.true_and] at hba
          clear h4
          by_cases ht : 0 ≤ d.tail
          · have qt : decide (0 ≤ d.tail) = true := decide_eq_true ht
            rw [qt, Bool.true_and] at hba
            rw [hba] at qa
            clear ht hba
            refine wp_region_quiet_below (by kernel_rfl) (by kernel_rfl) ?_
            iterate 4 (quiet_step (fail))
            iterate 3 (refine wpQuiet_skip (by kernel_rfl) (by kernel_rfl) ?_)
            iterate 2 (quiet_step (fail))
            iterate 3 (quiet_step (fail))
            iterate 2 (quiet_step (fail))
            iterate 6 (quiet_step (fail))
            iterate 3 (quiet_step (first | (go_at_call 26; with_reducible exact CA.out _ _)))
            refine wpQuiet_nil ?_
            intro _ hw
            obtain ⟨⟨dq, osq⟩, hw''⟩ := hw
            subst hw''
            have hbq := HR.out.below (below_regrown wr dq osq)
            clear k0 k1 k2 CA
            generalize grow (redrawn wr dq) osq = w2 at *
            go_wp2_with fail
            go_meet
            exact ⟨rfl, hbq⟩
          · have qt : decide (0 ≤ d.tail) = false := decide_eq_false ht
            rw [qt, Bool.false_and] at hba
            subst hba
            clear ht
            refine wp_region_quiet_below (by kernel_rfl) (by kernel_rfl) ?_
            iterate 4 (quiet_step (fail))
            iterate 3 (refine wpQuiet_skip (by kernel_rfl) (by kernel_rfl) ?_)
            iterate 2 (quiet_step (fail))
            iterate 3 (quiet_step (fail))
            iterate 2 (quiet_step (fail))
            iterate 8 (refine wpQuiet_skip (by kernel_rfl) (by kernel_rfl) ?_)
            iterate 1 (quiet_step (fail))
            refine wpQuiet_nil ?_
            intro _ hw
            obtain ⟨⟨dq, osq⟩, hw''⟩ := hw
            subst hw''
            have hbq := HR.out.below (below_regrown wr dq osq)
            clear k0 k1 k2 CA
            generalize grow (redrawn wr dq) osq = w2 at *
            go_wp2_with fail
            go_meet
            exact ⟨rfl, hbq⟩
        · have q4 : (d.kind == 4) = false := by simpa using h4
          by_cases h5 : d.kind = 5
          · have q5 : (d.kind == 5) = true := by simpa using h5
            rw [decide_eq_true (Or.inr h5), Bool.true_and] at hba
            clear h4 h5
            by_cases ht : 0 ≤ d.tail
            · have qt : decide (0 ≤ d.tail) = true := decide_eq_true ht
              rw [qt, Bool.true_and] at hba
              rw [hba] at qa
              clear ht hba
              refine wp_region_quiet_below (by kernel_rfl) (by kernel_rfl) ?_
              iterate 4 (quiet_step (fail))
              iterate 3 (quiet_step (fail))
              iterate 2 (quiet_step (fail))
              iterate 3 (quiet_step (fail))
              iterate 2 (quiet_step (fail))
              iterate 6 (quiet_step (fail))
              iterate 3 (quiet_step (first | (go_at_call 26; with_reducible exact CA.out _ _)))
              refine wpQuiet_nil ?_
              intro _ hw
              obtain ⟨⟨dq, osq⟩, hw''⟩ := hw
              subst hw''
              have hbq := HR.out.below (below_regrown wr dq osq)
              clear k0 k1 k2 CA
              generalize grow (redrawn wr dq) osq = w2 at *
              go_wp2_with fail
              go_meet
              exact ⟨rfl, hbq⟩
            · have qt : decide (0 ≤ d.tail) = false := decide_eq_false ht
              rw [qt, Bool.false_and] at hba
              subst hba
              clear ht
              refine wp_region_quiet_below (by kernel_rfl) (by kernel_rfl) ?_
              iterate 4 (quiet_step (fail))
              iterate 3 (quiet_step (fail))
              iterate 2 (quiet_step (fail))
              iterate 3 (quiet_step (fail))
              iterate 2 (quiet_step (fail))
              iterate 8 (refine wpQuiet_skip (by kernel_rfl) (by kernel_rfl) ?_)
              iterate 1 (quiet_step (fail))
              refine wpQuiet_nil ?_
              intro _ hw
              obtain ⟨⟨dq, osq⟩, hw''⟩ := hw
              subst hw''
              have hbq := HR.out.below (below_regrown wr dq osq)
              clear k0 k1 k2 CA
              generalize grow (redrawn wr dq) osq = w2 at *
              go_wp2_with fail
              go_meet
              exact ⟨rfl, hbq⟩
          · have q5 : (d.kind == 5) = false := by simpa using h5
            rw [decide_eq_false (by rintro (h | h); exact h4 h; exact h5 h), Bool.false_and, Bool.false_and] at hba
            subst hba
            clear h4 h5
            refine wp_region_quiet_below (by kernel_rfl) (by kernel_rfl) ?_
            iterate 4 (quiet_step (fail))
            iterate 3 (quiet_step (fail))
            iterate 2 (quiet_step (fail))
            iterate 3 (refine wpQuiet_skip (by kernel_rfl) (by kernel_rfl) ?_)
            iterate 2 (quiet_step (fail))
            iterate 8 (refine wpQuiet_skip (by kernel_rfl) (by kernel_rfl) ?_)
            iterate 1 (quiet_step (fail))
            refine wpQuiet_nil ?_
            intro _ hw
            obtain ⟨⟨dq, osq⟩, hw''⟩ := hw
            subst hw''
            have hbq := HR.out.below (below_regrown wr dq osq)
            clear k0 k1 k2 CA
            generalize grow (redrawn wr dq) osq = w2 at *
            go_wp2_with fail
            go_meet
            exact ⟨rfl, hbq⟩
      case rest =>
      obtain ⟨rfl, hms⟩ := hcut
      have HMC := Lib.hid hms
      clear hms HR
      cases ba with
      | false =>
        have HF := Lib.hid (HRES.out.trans (noR (s := (T2, R2)) HA.out))
        go_wp2_with fail
        go_returns
        refine ⟨rfl, vT2, vR2, ?_, HMC.out.b⟩
        rw [HF.out]
        exact HMC.out.nm
      | true =>
        have HF := Lib.hid (yesR HA.out)
        obtain ⟨A1, c1, rfl, _⟩ := own_cap HMC.out.nm.oR
        have c0 := HMC.out.nm.c1
        have c0b : (wc.alloc (.cells #[.int .i64 d.tail] 3)).cell? ⟨N, 1, none⟩ = _ := cell_alloc c0
        have p1 := HMC.out.c.c4
        have HL := Lib.hid (HMC.out.below (show RowKit.Below wc.heap.size wc (wc.drew.alloc (.cells #[.int .i64 d.tail] 3)) from (Below.refl _ _).drew.alloc (Nat.le_refl _) _))
        have HRD := Lib.hid (Rd.lit (size := 1) (n := 1) wc.drew #[.int .i64 d.tail] 3 rfl (fr := (0, 0)))
        have HS := Lib.hid (show (R2.length + 1) * 8 ≤ 140737488355328 by
          have h1 := meetTs_len (l.take k) T1 R
          rw [HME.out] at h1
          have h2 : R2.length ≤ R.length + nodesL (l.take k) := h1.2
          have := nodesL_take l k; have := HT.out; omega)
        go_wp2_with fail
        go_region_law (first
          | (refine step_app elInt (wc.drew.alloc (.cells #[.int .i64 d.tail] 3)) (by rfl) (.tmp 70) (.tmp 73) (by rfl) (N + 1) (.slice A1 R2.length c1) R2.length (i64s R2) (by rfl) HL.out.nm.oR (some ⟨wc.heap.size, 0, none⟩) 1 1 _ (by rfl) HRD.out (one_int _) HS.out HL.out.nm.lt ?_; intro v6 w6 hown6 hg6 ho6; obtain ⟨A6, c6, hv6, _⟩ := own_cap hown6; rw [hv6] at hown6 ho6 ⊢; clear hv6; have H6 := Lib.hid (And.intro hown6 (And.intro hg6 ho6)); obtain ⟨_, c06, _, f06⟩ := nm_far HL.out.nm (.inr rfl) hg6; clear hown6 hg6 ho6)
          | fail)
        all_goals
          go_wp2_with fail
          go_returns
          have h9 := HL.out.nm.addR HF.out.2 H6.out.1 H6.out.2.1 H6.out.2.2
          have h10 := HRES.out.trans (if_pos HF.out.1)
          refine ⟨rfl, _, _, ?_, (HL.out.call h9.1 h9.2).b⟩
          rw [h10]
          exact h9.1

set_option maxRecDepth 100000 in
/-- Meet, at every type. -/
theorem meet_any (w0 : World) (N : Nat) (hN : w0.heap.size ≤ N) (t : Ty) (hI : t.In w0) : ∀ (T R : List Int) (vT vR : Value) (W : World), RowKit.Below w0.heap.size w0 W → NM W N T R vT vR → T.length + t.nodes ≤ 4000000 → R.length + t.nodes ≤ 4000000 →
    Calls Tryd.prog 15 #[.pointer (some ⟨N, 0, none⟩), .agg t.d.arr] W fun e w' => e = .returned (.tuple #[]) ∧ ∃ vT' vR', NM w' N (meetT t T R).1 (meetT t T R).2 vT' vR' ∧ WN N W vT vR w' vT' vR' := by
  induction hI with
  | mk d l lab par cap sub ih =>
  intro T R vT vR W hb hM hT hR
  exact meet_one w0 N hN d l (.mk d l lab par cap sub) ih T R vT vR W hb hM hT hR
end Go.Proofs.YtlgmddnpmmggdaaDoor
