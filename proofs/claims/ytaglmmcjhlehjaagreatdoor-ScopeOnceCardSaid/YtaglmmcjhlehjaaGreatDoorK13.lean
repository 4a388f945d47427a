/-
  Whether an expression may be but for its parts: by the document's answer.
  Depth, nodes, and whether an expression may be: by the document's answer.
-/
import Derived.Test.YtaglmmcjhlehjaaGreatDoorK12
import Derived.Test.YtaglmmcjhlehjaaGreatDoorK04
import Derived.Deep.CutRange
namespace Go.Proofs.YtaglmmcjhlehjaaGreatDoor
open Go.ChangeShapes Go.WideShapes Go.ChangeAt Go.RowKit Go.Sort
set_option linter.unusedVariables false
set_option linter.unusedSimpArgs false
attribute [local irreducible] Go.wpQuiet

set_option maxRecDepth 100000 in
set_option maxHeartbeats 4000000 in
theorem refParts_any (kind labels : Int) (other : Bool) (h0 : 0 ≤ labels) (h1 : labels ≤ 9223372036854775807) (w : World) : Calls Tryz.prog 88 #[.int .i64 kind, .int .i64 labels, .bool other] w fun e w' => e = .returned (.int .i64 (partsF kind labels other)) ∧ w = w' := by
  by_cases k1 : kind = 1
  · subst k1
    rw [show partsF 1 labels other = 0 from by simp [partsF]]
    clear h0 h1
    go_enter Tryz.func88, Tryz.ntmps88
    go_wp2_with fail
    go_returns
    exact ⟨rfl, rfl⟩
  by_cases k2 : kind = 2
  · subst k2
    rw [show partsF 2 labels other = 0 from by simp [partsF]]
    clear k1 h0 h1
    go_enter Tryz.func88, Tryz.ntmps88
    go_wp2_with fail
    go_returns
    exact ⟨rfl, rfl⟩
  by_cases k3 : kind = 3
  · subst k3
    rw [show partsF 3 labels other = 0 from by simp [partsF]]
    clear k1 k2 h0 h1
    go_enter Tryz.func88, Tryz.ntmps88
    go_wp2_with fail
    go_returns
    exact ⟨rfl, rfl⟩
  by_cases k22 : kind = 22
  · subst k22
    rw [show partsF 22 labels other = 0 from by simp [partsF]]
    clear k1 k2 k3 h0 h1
    go_enter Tryz.func88, Tryz.ntmps88
    go_wp2_with fail
    go_returns
    exact ⟨rfl, rfl⟩
  by_cases k4 : kind = 4
  · subst k4
    rw [show partsF 4 labels other = 1 from by simp [partsF]]
    clear k1 k2 k3 k22 h0 h1
    go_enter Tryz.func88, Tryz.ntmps88
    go_wp2_with fail
    go_returns
    exact ⟨rfl, rfl⟩
  by_cases k9 : kind = 9
  · subst k9
    rw [show partsF 9 labels other = 1 from by simp [partsF]]
    clear k1 k2 k3 k22 k4 h0 h1
    go_enter Tryz.func88, Tryz.ntmps88
    go_wp2_with fail
    go_returns
    exact ⟨rfl, rfl⟩
  by_cases k11 : kind = 11
  · subst k11
    rw [show partsF 11 labels other = 1 from by simp [partsF]]
    clear k1 k2 k3 k22 k4 k9 h0 h1
    go_enter Tryz.func88, Tryz.ntmps88
    go_wp2_with fail
    go_returns
    exact ⟨rfl, rfl⟩
  by_cases k13 : kind = 13
  · subst k13
    rw [show partsF 13 labels other = 1 from by simp [partsF]]
    clear k1 k2 k3 k22 k4 k9 k11 h0 h1
    go_enter Tryz.func88, Tryz.ntmps88
    go_wp2_with fail
    go_returns
    exact ⟨rfl, rfl⟩
  by_cases k17 : kind = 17
  · subst k17
    rw [show partsF 17 labels other = 1 from by simp [partsF]]
    clear k1 k2 k3 k22 k4 k9 k11 k13 h0 h1
    go_enter Tryz.func88, Tryz.ntmps88
    go_wp2_with fail
    go_returns
    exact ⟨rfl, rfl⟩
  by_cases k18 : kind = 18
  · subst k18
    rw [show partsF 18 labels other = 1 from by simp [partsF]]
    clear k1 k2 k3 k22 k4 k9 k11 k13 k17 h0 h1
    go_enter Tryz.func88, Tryz.ntmps88
    go_wp2_with fail
    go_returns
    exact ⟨rfl, rfl⟩
  by_cases k20 : kind = 20
  · subst k20
    rw [show partsF 20 labels other = 1 from by simp [partsF]]
    clear k1 k2 k3 k22 k4 k9 k11 k13 k17 k18 h0 h1
    go_enter Tryz.func88, Tryz.ntmps88
    go_wp2_with fail
    go_returns
    exact ⟨rfl, rfl⟩
  by_cases k21 : kind = 21
  · subst k21
    rw [show partsF 21 labels other = 1 from by simp [partsF]]
    clear k1 k2 k3 k22 k4 k9 k11 k13 k17 k18 k20 h0 h1
    go_enter Tryz.func88, Tryz.ntmps88
    go_wp2_with fail
    go_returns
    exact ⟨rfl, rfl⟩
  by_cases k5 : kind = 5
  · subst k5
    rw [show partsF 5 labels other = 2 from by simp [partsF]]
    clear k1 k2 k3 k22 k4 k9 k11 k13 k17 k18 k20 k21 h0 h1
    go_enter Tryz.func88, Tryz.ntmps88
    go_wp2_with fail
    go_returns
    exact ⟨rfl, rfl⟩
  by_cases k6 : kind = 6
  · subst k6
    rw [show partsF 6 labels other = 2 from by simp [partsF]]
    clear k1 k2 k3 k22 k4 k9 k11 k13 k17 k18 k20 k21 k5 h0 h1
    go_enter Tryz.func88, Tryz.ntmps88
    go_wp2_with fail
    go_returns
    exact ⟨rfl, rfl⟩
  by_cases k7 : kind = 7
  · subst k7
    rw [show partsF 7 labels other = 2 from by simp [partsF]]
    clear k1 k2 k3 k22 k4 k9 k11 k13 k17 k18 k20 k21 k5 k6 h0 h1
    go_enter Tryz.func88, Tryz.ntmps88
    go_wp2_with fail
    go_returns
    exact ⟨rfl, rfl⟩
  by_cases k10 : kind = 10
  · subst k10
    rw [show partsF 10 labels other = 2 from by simp [partsF]]
    clear k1 k2 k3 k22 k4 k9 k11 k13 k17 k18 k20 k21 k5 k6 k7 h0 h1
    go_enter Tryz.func88, Tryz.ntmps88
    go_wp2_with fail
    go_returns
    exact ⟨rfl, rfl⟩
  by_cases k12 : kind = 12
  · subst k12
    rw [show partsF 12 labels other = 2 from by simp [partsF]]
    clear k1 k2 k3 k22 k4 k9 k11 k13 k17 k18 k20 k21 k5 k6 k7 k10 h0 h1
    go_enter Tryz.func88, Tryz.ntmps88
    go_wp2_with fail
    go_returns
    exact ⟨rfl, rfl⟩
  by_cases k16 : kind = 16
  · subst k16
    rw [show partsF 16 labels other = 2 from by simp [partsF]]
    clear k1 k2 k3 k22 k4 k9 k11 k13 k17 k18 k20 k21 k5 k6 k7 k10 k12 h0 h1
    go_enter Tryz.func88, Tryz.ntmps88
    go_wp2_with fail
    go_returns
    exact ⟨rfl, rfl⟩
  by_cases k19 : kind = 19
  · subst k19
    rw [show partsF 19 labels other = 2 from by simp [partsF]]
    clear k1 k2 k3 k22 k4 k9 k11 k13 k17 k18 k20 k21 k5 k6 k7 k10 k12 k16 h0 h1
    go_enter Tryz.func88, Tryz.ntmps88
    go_wp2_with fail
    go_returns
    exact ⟨rfl, rfl⟩
  by_cases k15 : kind = 15
  · subst k15
    rw [show partsF 15 labels other = 3 from by simp [partsF]]
    clear k1 k2 k3 k22 k4 k9 k11 k13 k17 k18 k20 k21 k5 k6 k7 k10 k12 k16 k19 h0 h1
    go_enter Tryz.func88, Tryz.ntmps88
    go_wp2_with fail
    go_returns
    exact ⟨rfl, rfl⟩
  by_cases k8 : kind = 8
  · subst k8
    rw [show partsF 8 labels other = labels from by simp [partsF]]
    clear k1 k2 k3 k22 k4 k9 k11 k13 k17 k18 k20 k21 k5 k6 k7 k10 k12 k16 k19 k15 h0 h1
    go_enter Tryz.func88, Tryz.ntmps88
    go_wp2_with fail
    go_returns
    exact ⟨rfl, rfl⟩
  by_cases k14 : kind = 14
  · subst k14
    cases other
    · rw [show partsF 14 labels false = wrap64 (labels + 1) from by simp [partsF]]
      clear k1 k2 k3 k22 k4 k9 k11 k13 k17 k18 k20 k21 k5 k6 k7 k10 k12 k16 k19 k15 k8 h0 h1
      go_enter Tryz.func88, Tryz.ntmps88
      go_wp2_with fail
      go_returns
      exact ⟨rfl, rfl⟩
    · rw [show partsF 14 labels true = wrap64 (labels + 2) from by simp [partsF]]
      clear k1 k2 k3 k22 k4 k9 k11 k13 k17 k18 k20 k21 k5 k6 k7 k10 k12 k16 k19 k15 k8 h0 h1
      go_enter Tryz.func88, Tryz.ntmps88
      go_wp2_with fail
      go_returns
      exact ⟨rfl, rfl⟩
  rw [show partsF kind labels other = -1 from by simp [partsF, k1, k2, k3, k22, k4, k9, k11, k13, k17, k18, k20, k21, k5, k6, k7, k10, k12, k16, k19, k15, k8, k14]]
  have q1 : (kind == 1) = false := by simpa using k1
  have q2 : (kind == 2) = false := by simpa using k2
  have q3 : (kind == 3) = false := by simpa using k3
  have q22 : (kind == 22) = false := by simpa using k22
  have q4 : (kind == 4) = false := by simpa using k4
  have q9 : (kind == 9) = false := by simpa using k9
  have q11 : (kind == 11) = false := by simpa using k11
  have q13 : (kind == 13) = false := by simpa using k13
  have q17 : (kind == 17) = false := by simpa using k17
  have q18 : (kind == 18) = false := by simpa using k18
  have q20 : (kind == 20) = false := by simpa using k20
  have q21 : (kind == 21) = false := by simpa using k21
  have q5 : (kind == 5) = false := by simpa using k5
  have q6 : (kind == 6) = false := by simpa using k6
  have q7 : (kind == 7) = false := by simpa using k7
  have q10 : (kind == 10) = false := by simpa using k10
  have q12 : (kind == 12) = false := by simpa using k12
  have q16 : (kind == 16) = false := by simpa using k16
  have q19 : (kind == 19) = false := by simpa using k19
  have q15 : (kind == 15) = false := by simpa using k15
  have q8 : (kind == 8) = false := by simpa using k8
  have q14 : (kind == 14) = false := by simpa using k14
  clear k1 k2 k3 k22 k4 k9 k11 k13 k17 k18 k20 k21 k5 k6 k7 k10 k12 k16 k19 k15 k8 k14 h0 h1
  go_enter Tryz.func88, Tryz.ntmps88
  go_wp2_with fail
  go_returns
  exact ⟨rfl, rfl⟩

set_option maxHeartbeats 3000000 in

set_option maxRecDepth 100000 in
set_option maxHeartbeats 8000000 in
theorem refOwn_any (d : ExD) (l : List Ex) (w : World) (hI : (Ex.mk d l).In w) (hs : d.s.length ≤ 3000000) (hln : d.ln ≤ 3000000) : Calls Tryz.prog 63 #[.agg d.arr] w fun e w' => e = .returned (.bool d.fieldsB) ∧ Below w.heap.size w w' := by
  have hb1 : Below w.heap.size w (w.alloc (.cells d.arr 25)) := (Below.refl _ _).alloc (Nat.le_refl _) _
  have hE1 := ex_box w d
  have HS := Lib.hid (And.intro hs hln)
  have hcap := hI.cap
  have hlab := hI.lab
  have hnam := hI.nam
  have hnl := hI.namLen
  have hll := hI.labLen
  simp only [Ex.d] at hcap hlab hnam hnl hll
  have HC := Lib.hid (And.intro hcap (And.intro hlab (And.intro hnam (And.intro hnl hll))))
  clear hs hln hcap hlab hnam hnl hll hI
  go_enter Tryz.func63, Tryz.ntmps63
  go_wp2_with fail
  generalize (w.alloc (.cells d.arr 25)) = w1 at *
  obtain ⟨bx, hbx⟩ : ∃ bx, w.heap.size = bx := ⟨_, rfl⟩
  rw [hbx] at hE1 ⊢
  have HBX := Lib.hid hbx
  have HB1 := Lib.hid hb1
  have HE := Lib.hid (fun W (h : Below w1.heap.size w1 W) => hE1.lower h)
  clear hbx hb1
  obtain ⟨c0, c1, c2, c3, c4, c5, c6, c7⟩ := hE1
  go_wp2_with fail
  refine (refS_any d w1 HS.out.1).mono ?_
  rintro e w2 ⟨rfl, hb2⟩
  have HB2 := Lib.hid hb2
  clear hb2 c0 c1 c2 c3 c4 c5 c6 c7
  obtain ⟨c0, c1, c2, c3, c4, c5, c6, c7⟩ := HE.out w2 HB2.out
  go_upto_region 2 with fail
  obtain ⟨sb, hsb⟩ : ∃ sb, d.sB = sb := ⟨_, rfl⟩
  obtain ⟨tb, htb⟩ : ∃ tb, (!decide (d.t = [])) = tb := ⟨_, rfl⟩
  obtain ⟨pv, hpv⟩ : ∃ pv, partsF d.kind d.ln tb = pv := ⟨_, rfl⟩
  obtain ⟨R, hR⟩ : ∃ R : Bool, (!(decide ((d.pn : Int) = pv) && (decide (d.n = 0) || (decide (d.kind = 1) && decide (0 < d.n))) && sb)) = R := ⟨_, rfl⟩
  rw [hsb]
  go_cut [39] from 8 to 39 (fun s39 wx => s39 = .bool R ∧ Below w2.heap.size w2 wx)
  case first =>
    have k0 := cell_regrown c0
    have k2 := cell_regrown c2
    have k4 := cell_regrown c4
    have k5 := cell_regrown c5
    have k7 := cell_regrown c7
    have CP := Lib.hid (fun dd os => Calls.regrown_of ((refParts_any d.kind d.ln tb (by omega) (by have := HS.out.2; omega) (grow (redrawn w2 dd) os)).mono fun e w' h => ⟨h.1, by rw [← h.2]; exact Below.refl _ _⟩))
    rw [hpv] at CP
    have ht : (!(bstr d.t).toList.isEmpty) = tb := by
      rw [← htb]
      by_cases h : d.t = []
      · rw [h, bstr_toList]; rfl
      · rw [str_empty h, decide_eq_false h]
    clear hsb htb hpv c0 c1 c2 c3 c4 c5 c6 c7
    by_cases h1 : (d.pn : Int) = pv
    · have q1 : ((d.pn : Int) != pv) = false := by rw [h1]; simp
      by_cases h2 : d.n < 0
      · have q2 : decide (d.n < 0) = true := decide_eq_true h2
        have HV := Lib.hid (show R = true by rw [← hR, decide_eq_false (show ¬ d.n = 0 by omega), decide_eq_false (show ¬ 0 < d.n by omega)]; simp)
        clear hR h1 h2
        refine wp_region_quiet_below (by kernel_rfl) (by kernel_rfl) ?_
        iterate 19 (quiet_step ((go_at_call 88; with_reducible exact CP.out _ _)))
        iterate 8 (refine wpQuiet_skip (by kernel_rfl) (by kernel_rfl) ?_)
        iterate 2 (quiet_step ((go_at_call 88; with_reducible exact CP.out _ _)))
        iterate 2 (refine wpQuiet_skip (by kernel_rfl) (by kernel_rfl) ?_)
        iterate 1 (quiet_step ((go_at_call 88; with_reducible exact CP.out _ _)))
        refine wpQuiet_nil ?_
        intro _ hw
        obtain ⟨⟨dq, osq⟩, hw''⟩ := hw
        subst hw''
        have hbq := below_regrown w2 dq osq
        clear k0 k2 k4 k5 k7 CP
        go_wp2_with fail
        go_meet
        exact ⟨by (rw [HV.out]; try rfl), hbq⟩
      · have q2 : decide (d.n < 0) = false := decide_eq_false h2
        by_cases h3 : d.n = 0
        · have q3 : (d.n != 0) = false := by rw [h3]; rfl
          have HV := Lib.hid (show R = !sb by rw [← hR, decide_eq_true h1, decide_eq_true h3]; simp)
          clear hR h1 h2 h3
          cases sb with
          | false =>
            refine wp_region_quiet_below (by kernel_rfl) (by kernel_rfl) ?_
            iterate 23 (quiet_step ((go_at_call 88; with_reducible exact CP.out _ _)))
            iterate 3 (refine wpQuiet_skip (by kernel_rfl) (by kernel_rfl) ?_)
            iterate 6 (quiet_step ((go_at_call 88; with_reducible exact CP.out _ _)))
            refine wpQuiet_nil ?_
            intro _ hw
            obtain ⟨⟨dq, osq⟩, hw''⟩ := hw
            subst hw''
            have hbq := below_regrown w2 dq osq
            clear k0 k2 k4 k5 k7 CP
            go_wp2_with fail
            go_meet
            exact ⟨by (rw [HV.out]; try rfl), hbq⟩
          | true =>
            refine wp_region_quiet_below (by kernel_rfl) (by kernel_rfl) ?_
            iterate 23 (quiet_step ((go_at_call 88; with_reducible exact CP.out _ _)))
            iterate 3 (refine wpQuiet_skip (by kernel_rfl) (by kernel_rfl) ?_)
            iterate 6 (quiet_step ((go_at_call 88; with_reducible exact CP.out _ _)))
            refine wpQuiet_nil ?_
            intro _ hw
            obtain ⟨⟨dq, osq⟩, hw''⟩ := hw
            subst hw''
            have hbq := below_regrown w2 dq osq
            clear k0 k2 k4 k5 k7 CP
            go_wp2_with fail
            go_meet
            exact ⟨by (rw [HV.out]; try rfl), hbq⟩
        · have q3 : (d.n != 0) = true := by simpa using h3
          by_cases h4 : d.kind = 1
          · have q4 : (d.kind != 1) = false := by rw [h4]; rfl
            have HV := Lib.hid (show R = !sb by rw [← hR, decide_eq_true h1, decide_eq_true h4, decide_eq_true (show 0 < d.n by omega)]; simp)
            clear hR h1 h2 h3 h4
            cases sb with
            | false =>
              refine wp_region_quiet_below (by kernel_rfl) (by kernel_rfl) ?_
              iterate 32 (quiet_step ((go_at_call 88; with_reducible exact CP.out _ _)))
              refine wpQuiet_nil ?_
              intro _ hw
              obtain ⟨⟨dq, osq⟩, hw''⟩ := hw
              subst hw''
              have hbq := below_regrown w2 dq osq
              clear k0 k2 k4 k5 k7 CP
              go_wp2_with fail
              go_meet
              exact ⟨by (rw [HV.out]; try rfl), hbq⟩
            | true =>
              refine wp_region_quiet_below (by kernel_rfl) (by kernel_rfl) ?_
              iterate 32 (quiet_step ((go_at_call 88; with_reducible exact CP.out _ _)))
              refine wpQuiet_nil ?_
              intro _ hw
              obtain ⟨⟨dq, osq⟩, hw''⟩ := hw
              subst hw''
              have hbq := below_regrown w2 dq osq
              clear k0 k2 k4 k5 k7 CP
              go_wp2_with fail
              go_meet
              exact ⟨by (rw [HV.out]; try rfl), hbq⟩
          · have q4 : (d.kind != 1) = true := by simpa using h4
            have HV := Lib.hid (show R = true by rw [← hR, decide_eq_false h3, decide_eq_false h4]; simp)
            clear hR h1 h2 h3 h4
            refine wp_region_quiet_below (by kernel_rfl) (by kernel_rfl) ?_
            iterate 29 (quiet_step ((go_at_call 88; with_reducible exact CP.out _ _)))
            iterate 2 (refine wpQuiet_skip (by kernel_rfl) (by kernel_rfl) ?_)
            iterate 1 (quiet_step ((go_at_call 88; with_reducible exact CP.out _ _)))
            refine wpQuiet_nil ?_
            intro _ hw
            obtain ⟨⟨dq, osq⟩, hw''⟩ := hw
            subst hw''
            have hbq := below_regrown w2 dq osq
            clear k0 k2 k4 k5 k7 CP
            go_wp2_with fail
            go_meet
            exact ⟨by (rw [HV.out]; try rfl), hbq⟩
    · have q1 : ((d.pn : Int) != pv) = true := by simpa using h1
      have HV := Lib.hid (show R = true by rw [← hR, decide_eq_false h1]; simp)
      clear hR h1
      refine wp_region_quiet_below (by kernel_rfl) (by kernel_rfl) ?_
      iterate 14 (quiet_step ((go_at_call 88; with_reducible exact CP.out _ _)))
      iterate 3 (refine wpQuiet_skip (by kernel_rfl) (by kernel_rfl) ?_)
      iterate 2 (quiet_step ((go_at_call 88; with_reducible exact CP.out _ _)))
      iterate 8 (refine wpQuiet_skip (by kernel_rfl) (by kernel_rfl) ?_)
      iterate 2 (quiet_step ((go_at_call 88; with_reducible exact CP.out _ _)))
      iterate 2 (refine wpQuiet_skip (by kernel_rfl) (by kernel_rfl) ?_)
      iterate 1 (quiet_step ((go_at_call 88; with_reducible exact CP.out _ _)))
      refine wpQuiet_nil ?_
      intro _ hw
      obtain ⟨⟨dq, osq⟩, hw''⟩ := hw
      subst hw''
      have hbq := below_regrown w2 dq osq
      clear k0 k2 k4 k5 k7 CP
      go_wp2_with fail
      go_meet
      exact ⟨by (rw [HV.out]; try rfl), hbq⟩
  case rest =>
  obtain ⟨rfl, hb3⟩ := hcut
  have HB3 := Lib.hid (below_then HB2.out hb3)
  clear hb3 c0 c1 c2 c3 c4 c5 c6 c7
  obtain ⟨c0, c1, c2, c3, c4, c5, c6, c7⟩ := HE.out _ HB3.out
  have HF := Lib.hid (show d.fieldsB = (!R && d.tB && d.listsB) by unfold ExD.fieldsB; rw [← hR, ← hpv, ← htb, ← hsb]; simp)
  have HT := Lib.hid htb
  have HP := Lib.hid (And.intro hR (And.intro hpv hsb))
  clear hR hpv hsb htb
  cases R with
  | true =>
    go_wp2_with fail
    go_returns
    exact ⟨by rw [HF.out]; rfl, below_then HB1.out HB3.out⟩
  | false =>
  have HF2 := Lib.hid (HF.out.trans (show (!false && d.tB && d.listsB) = (d.tB && d.listsB) by simp))
  by_cases k8 : d.kind = 8
  · have q8 : (d.kind == 8) = true := by rw [k8]; rfl
    have HL8 := Lib.hid (show d.listsB = (labB d.labels 1 && decide (d.nn = 0)) by unfold ExD.listsB; rw [if_pos k8])
    have HT8 := Lib.hid (show d.tB = decide (d.t = []) by unfold ExD.tB; rw [if_neg (by omega), if_neg (by omega)])
    clear k8
    go_wp2_with fail
    refine (refAll_any d.lA d.labels d.ln d.lc 1 (.inl rfl) _ (HC.out.2.1.below (below_then HB1.out HB3.out)) HC.out.1.1.2.2).mono ?_
    rintro e w4 ⟨rfl, hb4⟩
    have HW := Lib.hid (below_then HB3.out hb4)
    clear hb4 c0 c1 c2 c3 c4 c5 c6 c7
    obtain ⟨c0, c1, c2, c3, c4, c5, c6, c7⟩ := HE.out _ HW.out
    cases hr : labB d.labels 1 with
    | false =>
      have HR := Lib.hid (HL8.out.trans (show _ = false by rw [hr]; exact Bool.false_and _))
      clear hr
      go_wp2_with fail
      go_returns
      exact ⟨by rw [HF2.out, HR.out, Bool.and_false]; rfl, below_then HB1.out HW.out⟩
    | true =>
      have HR := Lib.hid (HL8.out.trans (show _ = decide (d.nn = 0) by rw [hr]; exact Bool.true_and _))
      clear hr
      by_cases hn : d.nn = 0
      · have q0 : ((d.nn : Int) == 0) = true := by rw [hn]; rfl
        have HR2 := Lib.hid (HR.out.trans (decide_eq_true hn))
        rw [hn] at c6
        clear hn
        by_cases ht : d.t = []
        · have g : (bstr d.t).toList.isEmpty = true := by rw [ht, bstr_toList]; rfl
          have HT9 := Lib.hid (HT8.out.trans (decide_eq_true ht))
          clear ht
          go_wp2_with fail
          go_returns
          exact ⟨by rw [HF2.out, HR2.out, HT9.out]; rfl, below_then HB1.out HW.out⟩
        · have g : (bstr d.t).toList.isEmpty = false := str_empty ht
          have HT9 := Lib.hid (HT8.out.trans (decide_eq_false ht))
          clear ht
          go_wp2_with fail
          go_returns
          exact ⟨by rw [HF2.out, HT9.out]; rfl, below_then HB1.out HW.out⟩
      · have q0 : ((d.nn : Int) == 0) = false := by simpa using hn
        have HR2 := Lib.hid (HR.out.trans (decide_eq_false hn))
        clear hn
        go_wp2_with fail
        go_returns
        exact ⟨by rw [HF2.out, HR2.out, Bool.and_false]; rfl, below_then HB1.out HW.out⟩
  have q8 : (d.kind == 8) = false := by simpa using k8
  by_cases k14 : d.kind = 14
  · have q14 : (d.kind == 14) = true := by rw [k14]; rfl
    have HL8 := Lib.hid (show d.listsB = (labB d.labels 3 && decide (d.nn = d.ln) && (d.names.all fun s => tokB s 1) && (decide (0 < d.ln) || !decide (d.t = []))) by unfold ExD.listsB; rw [if_neg k8, if_pos k14])
    have HT8 := Lib.hid (show d.tB = (decide (d.t = []) || tokB d.t 1) by unfold ExD.tB; rw [if_neg (by omega), if_pos k14])
    have hpn : (d.pn : Int) = pv := by
      have h := HP.out.1
      simp only [Bool.not_eq_false', Bool.and_eq_true, decide_eq_true_eq] at h
      exact h.1.1
    have hp14 : pv = if tb = true then wrap64 ((d.ln : Int) + 2) else wrap64 ((d.ln : Int) + 1) := by
      rw [← HP.out.2.1, k14]
      cases tb <;> simp [partsF]
    have HPN := Lib.hid (show decide ((1 : Int) < (d.pn : Int)) = (decide (0 < d.ln) || !decide (d.t = [])) by
      rw [hpn, hp14, HT.out]
      have h3 := HS.out.2
      unfold wrap64
      cases tb
      · simp only [Bool.false_eq_true, if_false, Bool.or_false]
        exact decide_eq_decide.2 ⟨fun h => by omega, fun h => by omega⟩
      · simp only [if_true, Bool.or_true]
        exact decide_eq_true (by omega))
    clear k8 k14 hpn hp14
    clear c1 c2 c3 c4 c5 c6 c7
    go_wp2_with fail
    clear c0
    go_loopw [4] (fun i wr => ∃ k : Nat, i = .int .i64 k ∧ k ≤ d.nn ∧ ((d.names.take k).all fun s => tokB s 1) = true ∧ Below w1.heap.size w1 wr) (fun i _ => d.nn - (intOf i).toNat)
    case atStart => exact ⟨0, rfl, Nat.zero_le _, by simp, HB3.out⟩
    case round =>
      obtain ⟨k, rfl, hk, hall, hb⟩ := hrel
      have HB := Lib.hid hb
      have HALL := Lib.hid hall
      clear hall
      have c6 := (HE.out _ hb).c6
      by_cases hlt : k < d.nn
      · have hkl : k < d.names.length := by rw [HC.out.2.2.2.1]; exact hlt
        obtain ⟨ab, ao, hA, hc⟩ := (HC.out.2.2.1.below (below_then HB1.out hb)).str (k := k) hkl
        have h1 := hc k hkl
        rw [hA] at c6
        have HT1 := Lib.hid (refIs_any d.names[k] 1 (.inl rfl) wr)
        have HN := Lib.hid (all_take_snoc (fun s => tokB s 1) hkl HALL.out)
        obtain ⟨x, hx⟩ : ∃ x, d.names[k] = x := ⟨_, rfl⟩
        rw [hx] at h1 HT1 HN
        have hki : (k : Int) < (d.nn : Int) := by omega
        have hk0 : (0 : Int) ≤ (k : Int) := by omega
        have hk9 : (k : Int) ≤ 9223372036854775806 := by have := HC.out.1.2.1.2.2; omega
        clear hc hb hA hx
        go_wp2_with fail
        refine HT1.out.mono ?_
        rintro e w5 ⟨rfl, hb5⟩
        have H5 := Lib.hid (below_then HB.out hb5)
        clear hb5 HT1 h1 c6
        cases ht : tokB x 1 with
        | false =>
          have HF := Lib.hid (show d.listsB = false by rw [HL8.out, all_take_false (fun s => tokB s 1) (HN.out.trans ht)]; simp)
          clear ht
          go_wp2_with fail
          go_returns
          exact ⟨by rw [HF2.out, HF.out, Bool.and_false]; rfl, below_then HB1.out H5.out⟩
        | true =>
          have HN2 := Lib.hid (HN.out.trans ht)
          clear ht
          go_wp2_with fail
          go_roundw
          case rel => exact ⟨k + 1, by go_num, hlt, HN2.out, H5.out⟩
          case measure => simp [intOf] <;> omega
      · have hki : ¬ (k : Int) < (d.nn : Int) := by omega
        have HAL := Lib.hid (show (d.names.all fun s => tokB s 1) = true by have := HALL.out; rwa [List.take_of_length_le (by rw [HC.out.2.2.2.1]; omega)] at this)
        clear c6
        obtain ⟨c0, c1, c2, c3, c4, c5, c6, c7⟩ := HE.out _ hb
        clear hb
        go_wp2_with fail
        refine (refAll_any d.lA d.labels d.ln d.lc 3 (.inr rfl) _ (HC.out.2.1.below (below_then HB1.out HB.out)) HC.out.1.1.2.2).mono ?_
        rintro e w4 ⟨rfl, hb4⟩
        have HW := Lib.hid (below_then HB.out hb4)
        clear hb4 c0 c1 c2 c3 c4 c5 c6 c7
        obtain ⟨c0, c1, c2, c3, c4, c5, c6, c7⟩ := HE.out _ HW.out
        have HRW := Lib.hid (show d.listsB = (labB d.labels 3 && decide (d.nn = d.ln) && decide ((1 : Int) < (d.pn : Int))) by rw [HL8.out, HAL.out, HPN.out]; simp)
        cases hr : labB d.labels 3 with
        | false =>
          have HR := Lib.hid (HRW.out.trans (show _ = false by rw [hr]; simp))
          clear hr
          go_wp2_with fail
          go_returns
          exact ⟨by rw [HF2.out, HR.out, Bool.and_false]; rfl, below_then HB1.out HW.out⟩
        | true =>
          have HR := Lib.hid (HRW.out.trans (show _ = (decide (d.nn = d.ln) && decide ((1 : Int) < (d.pn : Int))) by rw [hr, Bool.true_and]))
          clear hr
          by_cases hn : d.nn = d.ln
          · have q0 : ((d.nn : Int) == (d.ln : Int)) = true := by rw [hn]; simp
            have HR2 := Lib.hid (HR.out.trans (show _ = decide ((1 : Int) < (d.pn : Int)) by rw [decide_eq_true hn, Bool.true_and]))
            clear hn
            by_cases hp : (1 : Int) < (d.pn : Int)
            · have HR3 := Lib.hid (HR2.out.trans (decide_eq_true hp))
              by_cases ht : d.t = []
              · have g : (bstr d.t).toList.isEmpty = true := by rw [ht, bstr_toList]; rfl
                have HT9 := Lib.hid (HT8.out.trans (show _ = true by rw [decide_eq_true ht, Bool.true_or]))
                clear ht
                go_wp2_with fail
                go_returns
                exact ⟨by rw [HF2.out, HR3.out, HT9.out]; rfl, below_then HB1.out HW.out⟩
              · have g : (bstr d.t).toList.isEmpty = false := str_empty ht
                have HT9 := Lib.hid (HT8.out.trans (show _ = tokB d.t 1 by rw [decide_eq_false ht, Bool.false_or]))
                clear ht
                go_wp2_with fail
                refine (refIs_any d.t 1 (.inl rfl) _).mono ?_
                rintro e w6 ⟨rfl, hb6⟩
                have HW6 := Lib.hid (below_then HW.out hb6)
                clear hb6 c0 c1 c2 c3 c4 c5 c6 c7
                go_wp2_with fail
                go_returns
                exact ⟨by rw [HF2.out, HR3.out, HT9.out, Bool.and_true]; rfl, below_then HB1.out HW6.out⟩
            · have HR3 := Lib.hid (HR2.out.trans (decide_eq_false hp))
              go_wp2_with fail
              go_returns
              exact ⟨by rw [HF2.out, HR3.out, Bool.and_false]; rfl, below_then HB1.out HW.out⟩
          · have q0 : ((d.nn : Int) == (d.ln : Int)) = false := by rw [beq_eq_false_iff_ne]; omega
            have HR2 := Lib.hid (HR.out.trans (show _ = false by rw [decide_eq_false hn, Bool.false_and]))
            clear hn
            go_wp2_with fail
            go_returns
            exact ⟨by rw [HF2.out, HR2.out, Bool.and_false]; rfl, below_then HB1.out HW.out⟩
  have q14 : (d.kind == 14) = false := by simpa using k14
  have HL8 := Lib.hid (show d.listsB = (decide (d.ln = 0) && decide (d.nn = 0)) by unfold ExD.listsB; rw [if_neg k8, if_neg k14])
  by_cases hl : d.ln = 0
  · have q1 : ¬ (0 : Int) < (d.ln : Int) := by omega
    by_cases hn : d.nn = 0
    · have q2 : ¬ (0 : Int) < (d.nn : Int) := by omega
      have HR := Lib.hid (HL8.out.trans (show _ = true by rw [decide_eq_true hl, decide_eq_true hn]; rfl))
      clear k8 hl hn
      by_cases k7 : d.kind = 7
      · have q7 : (d.kind == 7) = true := by rw [k7]; rfl
        have HT9 := Lib.hid (show d.tB = tokB d.t 1 by unfold ExD.tB; rw [if_pos k7])
        clear k7 k14
        go_wp2_with fail
        refine (refIs_any d.t 1 (.inl rfl) _).mono ?_
        rintro e w6 ⟨rfl, hb6⟩
        have HW6 := Lib.hid (below_then HB3.out hb6)
        clear hb6 c0 c1 c2 c3 c4 c5 c6 c7
        go_wp2_with fail
        go_returns
        exact ⟨by rw [HF2.out, HR.out, HT9.out, Bool.and_true]; rfl, below_then HB1.out HW6.out⟩
      · have q7 : (d.kind == 7) = false := by simpa using k7
        have HT8 := Lib.hid (show d.tB = decide (d.t = []) by unfold ExD.tB; rw [if_neg k7, if_neg k14])
        clear k7 k14
        by_cases ht : d.t = []
        · have g : (bstr d.t).toList.isEmpty = true := by rw [ht, bstr_toList]; rfl
          have HT9 := Lib.hid (HT8.out.trans (decide_eq_true ht))
          clear ht
          go_wp2_with fail
          go_returns
          exact ⟨by rw [HF2.out, HR.out, HT9.out]; rfl, below_then HB1.out HB3.out⟩
        · have g : (bstr d.t).toList.isEmpty = false := str_empty ht
          have HT9 := Lib.hid (HT8.out.trans (decide_eq_false ht))
          clear ht
          go_wp2_with fail
          go_returns
          exact ⟨by rw [HF2.out, HT9.out]; rfl, below_then HB1.out HB3.out⟩
    · have q2 : (0 : Int) < (d.nn : Int) := by omega
      have HR := Lib.hid (HL8.out.trans (show _ = false by rw [decide_eq_false hn, Bool.and_false]))
      clear k8 k14 hl hn
      go_wp2_with fail
      go_returns
      exact ⟨by rw [HF2.out, HR.out, Bool.and_false]; rfl, below_then HB1.out HB3.out⟩
  · have q1 : (0 : Int) < (d.ln : Int) := by omega
    have HR := Lib.hid (HL8.out.trans (show _ = false by rw [decide_eq_false hl, Bool.false_and]))
    clear k8 k14 hl
    go_wp2_with fail
    go_returns
    exact ⟨by rw [HF2.out, HR.out, Bool.and_false]; rfl, below_then HB1.out HB3.out⟩
end Go.Proofs.YtaglmmcjhlehjaaGreatDoor

namespace Go.Proofs.YtaglmmcjhlehjaaGreatDoor
open Go.ChangeShapes Go.WideShapes Go.ChangeAt Go.RowKit Go.Sort
set_option linter.unusedVariables false
set_option linter.unusedSimpArgs false

/-- Texts and lists of labels are not great. -/
inductive Ex.Sm : Ex → Prop
  | mk (d : ExD) (l : List Ex) (hs : d.s.length ≤ 3000000) (hl : d.ln ≤ 3000000) (sub : ∀ x ∈ l, Ex.Sm x) : Ex.Sm (.mk d l)
theorem Ex.Sm.s {e : Ex} (h : e.Sm) : e.d.s.length ≤ 3000000 := by cases h; assumption
theorem Ex.Sm.ln {e : Ex} (h : e.Sm) : e.d.ln ≤ 3000000 := by cases h; assumption
theorem Ex.Sm.sub {e : Ex} (h : e.Sm) : ∀ x ∈ e.l, Ex.Sm x := by cases h; assumption
theorem fineEL_app : ∀ (a b : List Ex), fineEL (a ++ b) = (fineEL a && fineEL b)
  | [], b => by simp [fineEL]
  | x :: a, b => by simp only [List.cons_append, fineEL, fineEL_app a b, Bool.and_assoc]
theorem fineEL_snoc (l : List Ex) (k : Nat) (hk : k < l.length) : fineEL (l.take (k + 1)) = (fineEL (l.take k) && l[k].fineE) := by
  rw [List.take_succ_eq_append_getElem hk, fineEL_app]; simp [fineEL]
theorem fineEL_take (l : List Ex) (k : Nat) (h : fineEL (l.take k) = false) : fineEL l = false := by
  rw [← List.take_append_drop k l, fineEL_app, h, Bool.false_and]
theorem depthL_step (l : List Ex) (k : Nat) (hk : k < l.length) : depthL (l.take (k + 1)) = max (depthL (l.take k)) l[k].depth := by
  rw [List.take_succ_eq_append_getElem hk, depthL_snoc]
theorem enodesL_step (l : List Ex) (k : Nat) (hk : k < l.length) : enodesL (l.take (k + 1)) = enodesL (l.take k) + l[k].nodes := by
  rw [List.take_succ_eq_append_getElem hk, enodesL_snoc]
theorem depthL_le_nodes (l : List Ex) : depthL l ≤ enodesL l := by
  induction l with
  | nil => simp [depthL]
  | cons x r ih => have := depth_le_nodes x; simp only [depthL, enodesL]; omega

set_option maxRecDepth 100000 in
set_option maxHeartbeats 2000000 in
theorem refDepth_any (w0 : World) (t : Ex) (hIn : t.In w0) (hn : t.nodes ≤ 3000000) : ∀ (w : World), Below w0.heap.size w0 w →
    Calls Tryz.prog 36 #[.agg t.d.arr] w fun e w' => e = .returned (.int .i64 (t.depth : Int)) ∧ Below w.heap.size w w' := by
  induction hIn with
  | mk d l lab nam par cap sub ih =>
  intro w hb
  have hlen : l.length = d.pn := by have := par.1; rw [flat_len Ex.cells_len] at this; omega
  have hb1 : Below w.heap.size w (w.alloc (.cells d.arr 25)) := (Below.refl _ _).alloc (Nat.le_refl _) _
  have hAt := ex_box w d
  have HA := Lib.hid (And.intro hAt (And.intro (below_then hb hb1) (And.intro cap hlen)))
  have HI := Lib.hid (Ex.In.mk d l lab nam par cap sub)
  have HIH := Lib.hid ih
  have HB1 := Lib.hid hb1
  have hno : 1 + enodesL l ≤ 3000000 := by simpa [Ex.nodes] using hn
  have HNO := Lib.hid hno
  have hnx : ∀ x ∈ l, x.nodes ≤ 3000000 := fun x hx => by have := enodesL_mem l x hx; omega
  have HNX := Lib.hid hnx
  clear hb1 hAt lab nam par cap sub ih hb hlen hn hno hnx
  go_enter Tryz.func36, Tryz.ntmps36
  show _
  unfold Ex.d
  go_wp2_with fail
  generalize (w.alloc (.cells d.arr 25)) = w1 at *
  go_loopw [3, 4] (fun v i wr => ∃ (k : Nat), v = .int .i64 ((depthL (l.take k) : Nat) : Int) ∧ i = .int .i64 k ∧ k ≤ d.pn ∧ Below w1.heap.size w1 wr) (fun _ i _ => d.pn - (intOf i).toNat)
  case atStart => exact ⟨0, (by simp [depthL]), rfl, Nat.zero_le _, Below.refl _ _⟩
  case round =>
    obtain ⟨k, rfl, rfl, hk, hbr⟩ := hrel
    have HR := Lib.hid hbr
    have cc := (HA.out.1.lower hbr).c7
    clear hbr
    by_cases hlt : k < d.pn
    · have hjl : k < l.length := by rw [HA.out.2.2.2]; exact hlt
      obtain ⟨pb, po, hpA, hAtP⟩ := (HI.out.lower HA.out.2.1).part (k := k) hjl
      have hpA' : d.pA = some ⟨pb, po, none⟩ := hpA
      rw [hpA'] at cc
      have hAtM : (l[k]).d.At w1 pb (po + k * 8) := hAtP k hjl
      have HSTEP := Lib.hid (depthL_step l k hjl)
      have HMX := Lib.hid (Nat.le_trans (depthL_take l k) (depthL_le_nodes l))
      obtain ⟨x, hx⟩ : ∃ x, l[k] = x := ⟨_, rfl⟩
      rw [hx] at hAtM HSTEP
      have hxm : x ∈ l := by rw [← hx]; exact List.getElem_mem hjl
      have HM := Lib.hid (HIH.out x hxm (HNX.out x hxm) wr (HA.out.2.1.trans (HR.out.mono HA.out.2.1.size)))
      obtain ⟨p0, p1, p2, p3, p4, p5, p6, p7⟩ := hAtM.lower HR.out
      have hji : (k : Int) < (d.pn : Int) := by omega
      have hj4 : (k : Int) ≤ 9223372036854775806 := by have := HA.out.2.2.1.2.2.1.2.2; omega
      have hj0 : (0 : Int) ≤ (k : Int) := by omega
      clear hpA hpA' hAtP hAtM hx hxm hjl
      go_wp2_with fail
      refine HM.out.mono ?_
      rintro e w3 ⟨rfl, hb3⟩
      have H3 := Lib.hid (below_then HR.out hb3)
      clear hb3 HM p0 p1 p2 p3 p4 p5 p6 p7 cc
      by_cases hgt : depthL (l.take k) < x.depth
      · have g1 : ((depthL (l.take k) : Nat) : Int) < ((x.depth : Nat) : Int) := by omega
        go_wp2_with fail
        go_roundw
        case rel => exact ⟨k + 1, congrArg (Value.int .i64) (by rw [HSTEP.out, Nat.max_eq_right (by omega)]), by go_num, hlt, H3.out⟩
        case measure => simp [intOf] <;> omega
      · have g1 : ¬ ((depthL (l.take k) : Nat) : Int) < ((x.depth : Nat) : Int) := by omega
        go_wp2_with fail
        go_roundw
        case rel => exact ⟨k + 1, congrArg (Value.int .i64) (by rw [HSTEP.out, Nat.max_eq_left (by omega)]), by go_num, hlt, H3.out⟩
        case measure => simp [intOf] <;> omega
    · have hji : ¬ (k : Int) < (d.pn : Int) := by omega
      have HD := Lib.hid (show depthL (l.take k) = depthL l by rw [List.take_of_length_le (by rw [HA.out.2.2.2]; omega)])
      have hdl : ((depthL (l.take k) : Nat) : Int) ≤ 4000000 := by have := depthL_le_nodes l; have := HNO.out; rw [HD.out]; omega
      have hd0 : (0 : Int) ≤ ((depthL (l.take k) : Nat) : Int) := by omega
      go_wp2_with fail
      go_returns
      exact ⟨congrArg (fun v => Ending.returned (.int .i64 v)) (by simp only [Ex.depth]; rw [← HD.out]; omega), below_then HB1.out HR.out⟩

set_option maxRecDepth 100000 in
set_option maxHeartbeats 2000000 in
theorem refNodes_any (w0 : World) (t : Ex) (hIn : t.In w0) (hn : t.nodes ≤ 3000000) : ∀ (w : World), Below w0.heap.size w0 w →
    Calls Tryz.prog 37 #[.agg t.d.arr] w fun e w' => e = .returned (.int .i64 (t.nodes : Int)) ∧ Below w.heap.size w w' := by
  induction hIn with
  | mk d l lab nam par cap sub ih =>
  intro w hb
  have hlen : l.length = d.pn := by have := par.1; rw [flat_len Ex.cells_len] at this; omega
  have hb1 : Below w.heap.size w (w.alloc (.cells d.arr 25)) := (Below.refl _ _).alloc (Nat.le_refl _) _
  have hAt := ex_box w d
  have HA := Lib.hid (And.intro hAt (And.intro (below_then hb hb1) (And.intro cap hlen)))
  have HI := Lib.hid (Ex.In.mk d l lab nam par cap sub)
  have HIH := Lib.hid ih
  have HB1 := Lib.hid hb1
  have hno : 1 + enodesL l ≤ 3000000 := by simpa [Ex.nodes] using hn
  have HNO := Lib.hid hno
  have hnx : ∀ x ∈ l, x.nodes ≤ 3000000 := fun x hx => by have := enodesL_mem l x hx; omega
  have HNX := Lib.hid hnx
  clear hb1 hAt lab nam par cap sub ih hb hlen hn hno hnx
  go_enter Tryz.func37, Tryz.ntmps37
  show _
  unfold Ex.d
  go_wp2_with fail
  generalize (w.alloc (.cells d.arr 25)) = w1 at *
  go_loopw [3, 4] (fun v i wr => ∃ (k : Nat), v = .int .i64 (((1 + enodesL (l.take k)) : Nat) : Int) ∧ i = .int .i64 k ∧ k ≤ d.pn ∧ Below w1.heap.size w1 wr) (fun _ i _ => d.pn - (intOf i).toNat)
  case atStart => exact ⟨0, (by simp [enodesL]), rfl, Nat.zero_le _, Below.refl _ _⟩
  case round =>
    obtain ⟨k, rfl, rfl, hk, hbr⟩ := hrel
    have HR := Lib.hid hbr
    have cc := (HA.out.1.lower hbr).c7
    clear hbr
    by_cases hlt : k < d.pn
    · have hjl : k < l.length := by rw [HA.out.2.2.2]; exact hlt
      obtain ⟨pb, po, hpA, hAtP⟩ := (HI.out.lower HA.out.2.1).part (k := k) hjl
      have hpA' : d.pA = some ⟨pb, po, none⟩ := hpA
      rw [hpA'] at cc
      have hAtM : (l[k]).d.At w1 pb (po + k * 8) := hAtP k hjl
      have HSTEP := Lib.hid (enodesL_step l k hjl)
      have HMX := Lib.hid (enodesL_take l (k + 1))
      obtain ⟨x, hx⟩ : ∃ x, l[k] = x := ⟨_, rfl⟩
      rw [hx] at hAtM HSTEP
      have hxm : x ∈ l := by rw [← hx]; exact List.getElem_mem hjl
      have HM := Lib.hid (HIH.out x hxm (HNX.out x hxm) wr (HA.out.2.1.trans (HR.out.mono HA.out.2.1.size)))
      obtain ⟨p0, p1, p2, p3, p4, p5, p6, p7⟩ := hAtM.lower HR.out
      have hji : (k : Int) < (d.pn : Int) := by omega
      have hj4 : (k : Int) ≤ 9223372036854775806 := by have := HA.out.2.2.1.2.2.1.2.2; omega
      have hj0 : (0 : Int) ≤ (k : Int) := by omega
      clear hpA hpA' hAtP hAtM hx hxm hjl
      obtain ⟨z, hz⟩ : ∃ z, 1 + enodesL (l.take k) = z := ⟨_, rfl⟩
      have hz1 : ((z : Nat) : Int) + ((x.nodes : Nat) : Int) ≤ 4000000 := by have h1 := HMX.out; have h2 := HNO.out; rw [HSTEP.out] at h1; omega
      have HZ := Lib.hid (show z + x.nodes = 1 + enodesL (l.take (k + 1)) by rw [HSTEP.out]; omega)
      rw [hz]
      clear hz
      go_wp2_with fail
      refine HM.out.mono ?_
      rintro e w3 ⟨rfl, hb3⟩
      have H3 := Lib.hid (below_then HR.out hb3)
      clear hb3 HM p0 p1 p2 p3 p4 p5 p6 p7 cc
      go_wp2_with fail
      go_roundw
      case rel => exact ⟨k + 1, congrArg (Value.int .i64) (by rw [← HZ.out]; go_num), by go_num, hlt, H3.out⟩
      case measure => simp [intOf] <;> omega
    · have hji : ¬ (k : Int) < (d.pn : Int) := by omega
      have HD := Lib.hid (show enodesL (l.take k) = enodesL l by rw [List.take_of_length_le (by rw [HA.out.2.2.2]; omega)])
      go_wp2_with fail
      go_returns
      exact ⟨congrArg (fun v => Ending.returned (.int .i64 v)) (by simp only [Ex.nodes]; rw [← HD.out]; omega), below_then HB1.out HR.out⟩

set_option maxRecDepth 100000 in
set_option maxHeartbeats 2000000 in
theorem refFine_any (w0 : World) (t : Ex) (hIn : t.In w0) (hm : t.Sm) : ∀ (w : World), Below w0.heap.size w0 w →
    Calls Tryz.prog 38 #[.agg t.d.arr] w fun e w' => e = .returned (.bool t.fineE) ∧ Below w.heap.size w w' := by
  induction hIn with
  | mk d l lab nam par cap sub ih =>
  intro w hb
  have hlen : l.length = d.pn := by have := par.1; rw [flat_len Ex.cells_len] at this; omega
  have hb1 : Below w.heap.size w (w.alloc (.cells d.arr 25)) := (Below.refl _ _).alloc (Nat.le_refl _) _
  have hAt := ex_box w d
  have HA := Lib.hid (And.intro hAt (And.intro (below_then hb hb1) (And.intro cap hlen)))
  have HI := Lib.hid (Ex.In.mk d l lab nam par cap sub)
  have HIH := Lib.hid ih
  have HB1 := Lib.hid hb1
  have HO := Lib.hid (refOwn_any d l _ ((Ex.In.mk d l lab nam par cap sub).lower (below_then hb hb1)) hm.s hm.ln)
  have HSUB := Lib.hid (show ∀ x ∈ l, x.Sm from hm.sub)
  clear hb1 hAt lab nam par cap sub ih hb hlen hm
  go_enter Tryz.func38, Tryz.ntmps38
  show _
  unfold Ex.d
  go_wp2_with fail
  generalize (w.alloc (.cells d.arr 25)) = w1 at *
  obtain ⟨c0, c1, c2, c3, c4, c5, c6, c7⟩ := HA.out.1
  go_wp2_with fail
  refine HO.out.mono ?_
  rintro e w2 ⟨rfl, hb2⟩
  have H2 := Lib.hid hb2
  clear hb2 c0 c1 c2 c3 c4 c5 c6 c7
  obtain ⟨fb, hfb⟩ : ∃ fb, d.fieldsB = fb := ⟨_, rfl⟩
  rw [hfb]
  have HFB := Lib.hid hfb
  clear hfb
  go_wp2_with fail
  go_loopw [3, 4] (fun v i wr => ∃ (k : Nat), v = .bool (fb && fineEL (l.take k)) ∧ i = .int .i64 k ∧ k ≤ d.pn ∧ Below w1.heap.size w1 wr) (fun _ i _ => d.pn - (intOf i).toNat)
  case atStart => exact ⟨0, (by simp [fineEL]), rfl, Nat.zero_le _, H2.out⟩
  case round =>
    obtain ⟨k, rfl, rfl, hk, hbr⟩ := hrel
    have HR := Lib.hid hbr
    have cc := (HA.out.1.lower hbr).c7
    clear hbr
    by_cases hlt : k < d.pn
    · have hjl : k < l.length := by rw [HA.out.2.2.2]; exact hlt
      obtain ⟨pb, po, hpA, hAtP⟩ := (HI.out.lower HA.out.2.1).part (k := k) hjl
      have hpA' : d.pA = some ⟨pb, po, none⟩ := hpA
      rw [hpA'] at cc
      have hAtM : (l[k]).d.At w1 pb (po + k * 8) := hAtP k hjl
      have HSTEP := Lib.hid (fineEL_snoc l k hjl)
      obtain ⟨x, hx⟩ : ∃ x, l[k] = x := ⟨_, rfl⟩
      rw [hx] at hAtM HSTEP
      have hxm : x ∈ l := by rw [← hx]; exact List.getElem_mem hjl
      have HM := Lib.hid (HIH.out x hxm (HSUB.out x hxm) wr (HA.out.2.1.trans (HR.out.mono HA.out.2.1.size)))
      obtain ⟨p0, p1, p2, p3, p4, p5, p6, p7⟩ := hAtM.lower HR.out
      have hji : (k : Int) < (d.pn : Int) := by omega
      have hj4 : (k : Int) ≤ 9223372036854775806 := by have := HA.out.2.2.1.2.2.1.2.2; omega
      have hj0 : (0 : Int) ≤ (k : Int) := by omega
      clear hpA hpA' hAtP hAtM hx hxm hjl
      cases hok : (fb && fineEL (l.take k)) with
      | true =>
        have HOK := Lib.hid hok
        clear hok
        go_wp2_with fail
        refine HM.out.mono ?_
        rintro e w3 ⟨rfl, hb3⟩
        have H3 := Lib.hid (below_then HR.out hb3)
        clear hb3 HM p0 p1 p2 p3 p4 p5 p6 p7 cc
        have HN := Lib.hid (show x.fineE = (fb && fineEL (l.take (k + 1))) by
          have h := HOK.out
          rw [HSTEP.out, ← Bool.and_assoc, h, Bool.true_and])
        go_wp2_with fail
        go_roundw
        case rel => exact ⟨k + 1, congrArg Value.bool HN.out, by go_num, hlt, H3.out⟩
        case measure => simp [intOf] <;> omega
      | false =>
        have HOK := Lib.hid (show (Ex.mk d l).fineE = false by
          simp only [Ex.fineE]
          rw [HFB.out]
          cases fb with
          | false => rfl
          | true => rw [Bool.true_and] at hok ⊢; exact fineEL_take l k hok)
        clear hok p0 p1 p2 p3 p4 p5 p6 p7
        go_wp2_with fail
        go_returns
        exact ⟨by rw [HOK.out]; rfl, below_then HB1.out HR.out⟩
    · have hji : ¬ (k : Int) < (d.pn : Int) := by omega
      have HD := Lib.hid (show (Ex.mk d l).fineE = (fb && fineEL (l.take k)) by
        simp only [Ex.fineE]
        rw [List.take_of_length_le (by rw [HA.out.2.2.2]; omega), HFB.out])
      obtain ⟨r, hr⟩ : ∃ r, (fb && fineEL (l.take k)) = r := ⟨_, rfl⟩
      rw [hr] at HD ⊢
      clear hr
      go_wp2_with fail
      go_returns
      exact ⟨by rw [HD.out]; rfl, below_then HB1.out HR.out⟩

set_option maxRecDepth 100000 in
set_option maxHeartbeats 2000000 in
theorem refMay_any (t : Ex) (w : World) (hIn : t.In w) (hn : t.nodes ≤ 3000000) (hm : t.Sm) :
    Calls Tryz.prog 15 #[.agg t.d.arr] w fun e w' => e = .returned (.bool (mayE t 1 0).isSome) ∧ Below w.heap.size w w' := by
  have hb1 : Below w.heap.size w (w.alloc (.cells t.d.arr 25)) := (Below.refl _ _).alloc (Nat.le_refl _) _
  have hE1 := ex_box w t.d
  have H := Lib.hid (And.intro hIn (And.intro hn hm))
  have HB1 := Lib.hid hb1
  have HS := Lib.hid (show (mayE t 1 0).isSome = (decide (t.depth ≤ 60) && decide (t.nodes ≤ 1500) && t.fineE) by
    rw [mayE_spec]
    by_cases h : t.fineE = true ∧ 1 + t.depth ≤ 61 ∧ 0 + t.nodes ≤ 1500
    · rw [if_pos h, decide_eq_true (show t.depth ≤ 60 by omega), decide_eq_true (show t.nodes ≤ 1500 by omega), h.1]; rfl
    · rw [if_neg h]
      by_cases h1 : t.depth ≤ 60
      · by_cases h2 : t.nodes ≤ 1500
        · have h3 : t.fineE = false := by
            cases h3 : t.fineE with
            | false => rfl
            | true => exact absurd ⟨h3, by omega, by omega⟩ h
          rw [h3, Bool.and_false]; rfl
        · rw [decide_eq_false h2, Bool.and_false]; rfl
      · rw [decide_eq_false h1]; rfl)
  clear hIn hn hm hb1
  obtain ⟨c0, c1, c2, c3, c4, c5, c6, c7⟩ := hE1
  go_enter Tryz.func15, Tryz.ntmps15
  go_wp2_with fail
  obtain ⟨d, hd⟩ : ∃ d, t.d = d := ⟨_, rfl⟩
  rw [hd] at c0 c1 c2 c3 c4 c5 c6 c7 HB1 ⊢
  have HD := Lib.hid hd
  clear hd
  generalize (w.alloc (.cells d.arr 25)) = w1 at *
  obtain ⟨bx, hbx⟩ : ∃ bx, w.heap.size = bx := ⟨_, rfl⟩
  have HE := Lib.hid (show ∀ W, Below w1.heap.size w1 W → d.At W bx 0 from fun W h => by
    have : d.At w1 bx 0 := by rw [← hbx]; exact ⟨c0, c1, c2, c3, c4, c5, c6, c7⟩
    exact this.lower h)
  have HBX := Lib.hid hbx
  rw [hbx] at c0 c1 c2 c3 c4 c5 c6 c7
  try rw [hbx]
  clear hbx
  have HC1 := Lib.hid (refDepth_any w t H.out.1 H.out.2.1 w1 HB1.out)
  rw [HD.out] at HC1
  go_wp2_with fail
  refine HC1.out.mono ?_
  rintro e w2 ⟨rfl, hb2⟩
  have H2 := Lib.hid hb2
  clear hb2 HC1 c0 c1 c2 c3 c4 c5 c6 c7
  by_cases h1 : t.depth ≤ 60
  · have g1 : (t.depth : Int) ≤ 60 := by omega
    have HS1 := Lib.hid (HS.out.trans (show _ = (decide (t.nodes ≤ 1500) && t.fineE) by rw [decide_eq_true h1, Bool.true_and]))
    obtain ⟨c0, c1, c2, c3, c4, c5, c6, c7⟩ := HE.out w2 H2.out
    have HC2 := Lib.hid (refNodes_any w t H.out.1 H.out.2.1 w2 (below_then HB1.out H2.out))
    rw [HD.out] at HC2
    clear h1
    go_wp2_with fail
    refine HC2.out.mono ?_
    rintro e w3 ⟨rfl, hb3⟩
    have H3 := Lib.hid (below_then H2.out hb3)
    clear hb3 HC2 c0 c1 c2 c3 c4 c5 c6 c7
    by_cases h2 : t.nodes ≤ 1500
    · have g2 : (t.nodes : Int) ≤ 1500 := by omega
      have HS2 := Lib.hid (HS1.out.trans (show _ = t.fineE by rw [decide_eq_true h2, Bool.true_and]))
      obtain ⟨c0, c1, c2, c3, c4, c5, c6, c7⟩ := HE.out w3 H3.out
      have HC3 := Lib.hid (refFine_any w t H.out.1 H.out.2.2 w3 (below_then HB1.out H3.out))
      rw [HD.out] at HC3
      clear h2
      go_wp2_with fail
      refine HC3.out.mono ?_
      rintro e w4 ⟨rfl, hb4⟩
      have H4 := Lib.hid (below_then H3.out hb4)
      clear hb4 HC3 c0 c1 c2 c3 c4 c5 c6 c7
      go_wp2_with fail
      go_returns
      exact ⟨by rw [HS2.out]; rfl, below_then HB1.out H4.out⟩
    · have g2 : ¬ (t.nodes : Int) ≤ 1500 := by omega
      have HS2 := Lib.hid (HS1.out.trans (show _ = false by rw [decide_eq_false h2, Bool.false_and]))
      clear h2
      go_wp2_with fail
      go_returns
      exact ⟨by rw [HS2.out]; rfl, below_then HB1.out H3.out⟩
  · have g1 : ¬ (t.depth : Int) ≤ 60 := by omega
    have HS2 := Lib.hid (HS.out.trans (show _ = false by rw [decide_eq_false h1]; rfl))
    clear h1
    go_wp2_with fail
    go_returns
    exact ⟨by rw [HS2.out]; rfl, below_then HB1.out H2.out⟩
end Go.Proofs.YtaglmmcjhlehjaaGreatDoor
