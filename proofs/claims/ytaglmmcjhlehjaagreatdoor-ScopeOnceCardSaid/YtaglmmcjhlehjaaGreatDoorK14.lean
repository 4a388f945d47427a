/-
  Whether an expression's own fields may be, by the code.
-/
import Derived.Test.YtaglmmcjhlehjaaGreatDoorK04
namespace Go.Proofs.YtaglmmcjhlehjaaGreatDoor
open Go.ChangeShapes Go.WideShapes Go.ChangeAt Go.RowKit Go.Sort
set_option linter.unusedVariables false
set_option linter.unusedSimpArgs false
attribute [local irreducible] Go.wpQuiet


set_option maxRecDepth 100000 in
set_option maxHeartbeats 4000000 in
theorem listsMay_any (d : ExD) (l : List Ex) (b o : Nat) (w : World) (h : d.At w b o) (hI : (Ex.mk d l).In w) (hL : Lay w) : Calls Tryz.prog 77 #[.pointer (some ⟨b, o, none⟩)] w fun e w' => e = .returned (.bool d.listsB) ∧ Below w.heap.size w w' := by
  have c0 := h.c0
  have c4 := h.c4
  have c5 := h.c5
  have c6 := h.c6
  have hcap := hI.cap
  have hlab := hI.lab
  have hnam := hI.nam
  simp only [Ex.d] at hcap hlab hnam
  have HC := Lib.hid hcap
  have CLk := Lib.hid (fun (k : Int) (w2 : World) (hb : Below w.heap.size w w2) => labelsMay_any d.lA d.labels d.ln d.lc k w2 (hL.below hb) (hlab.below hb) hcap.1.2.2 hcap.2.2.2.2.2.1)
  have CTk := Lib.hid (fun (w2 : World) (hb : Below w.heap.size w w2) => toks_any d.nA d.names d.nn d.nc 1 w2 (hL.below hb) (hnam.below hb) hcap.2.1.2.2 hcap.2.2.2.2.2.2)
  clear h hI hL hcap hlab hnam
  by_cases k8 : d.kind = 8
  · have q8 : (d.kind == 8) = true := by rw [k8]; rfl
    by_cases hn : d.nn = 0
    · have HA := Lib.hid (show d.listsB = labB d.labels 1 by unfold ExD.listsB; simp [k8, hn])
      have q0 : ((d.nn : Int) == 0) = true := by rw [hn]; rfl
      rw [hn] at c6
      clear k8 hn
      obtain ⟨r, hr⟩ : ∃ r, labB d.labels 1 = r := ⟨_, rfl⟩
      have CL := Lib.hid (CLk.out 1 w (Below.refl _ _))
      rw [hr] at HA CL
      clear hr
      cases r with
      | false =>
        go_enter Tryz.func77, Tryz.ntmps77
        go_wp2_with fail
        refine CL.out.mono ?_
        rintro e w2 ⟨rfl, hb2⟩
        have H2 := Lib.hid hb2
        have c6 := cell_below hb2 c6
        clear hb2
        go_wp2_with fail
        go_returns
        exact ⟨by rw [HA.out]; rfl, H2.out⟩
      | true =>
        go_enter Tryz.func77, Tryz.ntmps77
        go_wp2_with fail
        refine CL.out.mono ?_
        rintro e w2 ⟨rfl, hb2⟩
        have H2 := Lib.hid hb2
        have c6 := cell_below hb2 c6
        clear hb2
        go_wp2_with fail
        go_returns
        exact ⟨by rw [HA.out]; rfl, H2.out⟩
    · have HA := Lib.hid (show d.listsB = false by unfold ExD.listsB; simp [k8, hn])
      have q0 : ((d.nn : Int) == 0) = false := by simpa using hn
      clear k8
      obtain ⟨r, hr⟩ : ∃ r, labB d.labels 1 = r := ⟨_, rfl⟩
      have CL := Lib.hid (CLk.out 1 w (Below.refl _ _))
      rw [hr] at CL
      clear hr
      cases r with
      | false =>
        go_enter Tryz.func77, Tryz.ntmps77
        go_wp2_with fail
        refine CL.out.mono ?_
        rintro e w2 ⟨rfl, hb2⟩
        have H2 := Lib.hid hb2
        have c6 := cell_below hb2 c6
        clear hb2
        go_wp2_with fail
        go_returns
        exact ⟨by rw [HA.out]; rfl, H2.out⟩
      | true =>
        go_enter Tryz.func77, Tryz.ntmps77
        go_wp2_with fail
        refine CL.out.mono ?_
        rintro e w2 ⟨rfl, hb2⟩
        have H2 := Lib.hid hb2
        have c6 := cell_below hb2 c6
        clear hb2
        go_wp2_with fail
        go_returns
        exact ⟨by rw [HA.out]; rfl, H2.out⟩
  have q8 : (d.kind == 8) = false := by simpa using k8
  by_cases k14 : d.kind = 14
  · have q14 : (d.kind == 14) = true := by rw [k14]; rfl
    have HE := Lib.hid (show d.listsB = (labB d.labels 3 && decide (d.nn = d.ln) && (d.names.all fun s => tokB s 1) && (decide (0 < d.ln) || !decide (d.t = []))) by unfold ExD.listsB; simp [k14])
    have k0 := cell_regrown c0
    have k4 := cell_regrown c4
    have k5 := cell_regrown c5
    have k6 := cell_regrown c6
    obtain ⟨r1, hr1⟩ : ∃ r, labB d.labels 3 = r := ⟨_, rfl⟩
    obtain ⟨r3, hr3⟩ : ∃ r, (d.names.all fun s => tokB s 1) = r := ⟨_, rfl⟩
    have CL0 := CLk.out 3
    have CT0 := CTk.out
    rw [hr1] at CL0
    rw [hr3] at CT0
    have CL := Lib.hid (fun dd os => Calls.regrown_of ((CL0 (grow (redrawn w dd) os) (below_regrown w dd os)).mono fun e w' h => ⟨h.1, h.2⟩))
    have CT := Lib.hid (fun dd os => Calls.regrown_of ((CT0 (grow (redrawn w dd) os) (below_regrown w dd os)).mono fun e w' h => ⟨h.1, h.2⟩))
    rw [hr1, hr3] at HE
    clear CL0 CT0 hr1 hr3 k8 k14
    cases r1 with
    | false =>
      have HA := Lib.hid (show d.listsB = false by rw [HE.out]; simp)
      go_enter Tryz.func77, Tryz.ntmps77
      go_wp2_with fail
      refine wp_region_quiet_below (by kernel_rfl) (by kernel_rfl) ?_
      iterate 6 (quiet_step ((first | (go_at_call 104; with_reducible exact CL.out _ _) | (go_at_call 105; with_reducible exact CT.out _ _))))
      iterate 11 (refine wpQuiet_skip (by kernel_rfl) (by kernel_rfl) ?_)
      iterate 2 (quiet_step ((first | (go_at_call 104; with_reducible exact CL.out _ _) | (go_at_call 105; with_reducible exact CT.out _ _))))
      iterate 5 (refine wpQuiet_skip (by kernel_rfl) (by kernel_rfl) ?_)
      iterate 2 (quiet_step ((first | (go_at_call 104; with_reducible exact CL.out _ _) | (go_at_call 105; with_reducible exact CT.out _ _))))
      iterate 13 (refine wpQuiet_skip (by kernel_rfl) (by kernel_rfl) ?_)
      iterate 2 (quiet_step ((first | (go_at_call 104; with_reducible exact CL.out _ _) | (go_at_call 105; with_reducible exact CT.out _ _))))
      refine wpQuiet_nil ?_
      intro _ hw
      obtain ⟨⟨dq, osq⟩, hw''⟩ := hw
      subst hw''
      have hbq := below_regrown w dq osq
      clear k0 k4 k5 k6 CL CT
      generalize grow (redrawn w dq) osq = w2 at *
      go_wp2_with fail
      go_returns
      exact ⟨by rw [HA.out]; rfl, hbq⟩
    | true =>
      by_cases hnn : ¬ d.nn = d.ln
      · have HA := Lib.hid (show d.listsB = false by rw [HE.out]; simp [hnn])
        have q2 : ((d.nn : Int) == (d.ln : Int)) = false := by rw [beq_eq_false_iff_ne]; omega
        clear hnn
        go_enter Tryz.func77, Tryz.ntmps77
        go_wp2_with fail
        refine wp_region_quiet_below (by kernel_rfl) (by kernel_rfl) ?_
        iterate 19 (quiet_step ((first | (go_at_call 104; with_reducible exact CL.out _ _) | (go_at_call 105; with_reducible exact CT.out _ _))))
        iterate 5 (refine wpQuiet_skip (by kernel_rfl) (by kernel_rfl) ?_)
        iterate 2 (quiet_step ((first | (go_at_call 104; with_reducible exact CL.out _ _) | (go_at_call 105; with_reducible exact CT.out _ _))))
        iterate 13 (refine wpQuiet_skip (by kernel_rfl) (by kernel_rfl) ?_)
        iterate 2 (quiet_step ((first | (go_at_call 104; with_reducible exact CL.out _ _) | (go_at_call 105; with_reducible exact CT.out _ _))))
        refine wpQuiet_nil ?_
        intro _ hw
        obtain ⟨⟨dq, osq⟩, hw''⟩ := hw
        subst hw''
        have hbq := below_regrown w dq osq
        clear k0 k4 k5 k6 CL CT
        generalize grow (redrawn w dq) osq = w2 at *
        go_wp2_with fail
        go_returns
        exact ⟨by rw [HA.out]; rfl, hbq⟩
      have hn : d.nn = d.ln := Classical.not_not.1 hnn
      have q2 : ((d.nn : Int) == (d.ln : Int)) = true := by rw [hn]; simp
      clear hnn
      cases r3 with
      | false =>
        have HA := Lib.hid (show d.listsB = false by rw [HE.out]; simp)
        have HNN := Lib.hid hn
        clear hn
        go_enter Tryz.func77, Tryz.ntmps77
        go_wp2_with fail
        refine wp_region_quiet_below (by kernel_rfl) (by kernel_rfl) ?_
        iterate 26 (quiet_step ((first | (go_at_call 104; with_reducible exact CL.out _ _) | (go_at_call 105; with_reducible exact CT.out _ _))))
        iterate 13 (refine wpQuiet_skip (by kernel_rfl) (by kernel_rfl) ?_)
        iterate 2 (quiet_step ((first | (go_at_call 104; with_reducible exact CL.out _ _) | (go_at_call 105; with_reducible exact CT.out _ _))))
        refine wpQuiet_nil ?_
        intro _ hw
        obtain ⟨⟨dq, osq⟩, hw''⟩ := hw
        subst hw''
        have hbq := below_regrown w dq osq
        clear k0 k4 k5 k6 CL CT
        generalize grow (redrawn w dq) osq = w2 at *
        go_wp2_with fail
        go_returns
        exact ⟨by rw [HA.out]; rfl, hbq⟩
      | true =>
        have HNN := Lib.hid hn
        by_cases hl0 : 0 < d.ln
        · have HA := Lib.hid (show d.listsB = true by rw [HE.out]; simp [hn, hl0])
          have q3 : (0 : Int) < (d.ln : Int) := by omega
          clear hn
          go_enter Tryz.func77, Tryz.ntmps77
          go_wp2_with fail
          refine wp_region_quiet_below (by kernel_rfl) (by kernel_rfl) ?_
          iterate 33 (quiet_step ((first | (go_at_call 104; with_reducible exact CL.out _ _) | (go_at_call 105; with_reducible exact CT.out _ _))))
          iterate 5 (refine wpQuiet_skip (by kernel_rfl) (by kernel_rfl) ?_)
          iterate 3 (quiet_step ((first | (go_at_call 104; with_reducible exact CL.out _ _) | (go_at_call 105; with_reducible exact CT.out _ _))))
          refine wpQuiet_nil ?_
          intro _ hw
          obtain ⟨⟨dq, osq⟩, hw''⟩ := hw
          subst hw''
          have hbq := below_regrown w dq osq
          clear k0 k4 k5 k6 CL CT
          generalize grow (redrawn w dq) osq = w2 at *
          go_wp2_with fail
          go_returns
          exact ⟨by rw [HA.out]; rfl, hbq⟩
        · have q3 : ¬ (0 : Int) < (d.ln : Int) := by omega
          by_cases ht : d.t = []
          · have HA := Lib.hid (show d.listsB = false by rw [HE.out]; simp [hl0, ht])
            have q4 : (bstr d.t).toList.isEmpty = true := by rw [ht, bstr_toList]; rfl
            have q5 : (!(bstr d.t).toList.isEmpty) = false := by rw [q4]; rfl
            clear hn ht
            go_enter Tryz.func77, Tryz.ntmps77
            go_wp2_with fail
            refine wp_region_quiet_below (by kernel_rfl) (by kernel_rfl) ?_
            iterate 41 (quiet_step ((first | (go_at_call 104; with_reducible exact CL.out _ _) | (go_at_call 105; with_reducible exact CT.out _ _))))
            refine wpQuiet_nil ?_
            intro _ hw
            obtain ⟨⟨dq, osq⟩, hw''⟩ := hw
            subst hw''
            have hbq := below_regrown w dq osq
            clear k0 k4 k5 k6 CL CT
            generalize grow (redrawn w dq) osq = w2 at *
            go_wp2_with fail
            go_returns
            exact ⟨by rw [HA.out]; rfl, hbq⟩
          · have HA := Lib.hid (show d.listsB = true by rw [HE.out]; simp [hn, ht])
            have q4 : (bstr d.t).toList.isEmpty = false := str_empty ht
            have q5 : (!(bstr d.t).toList.isEmpty) = true := by rw [q4]; rfl
            clear hn ht
            go_enter Tryz.func77, Tryz.ntmps77
            go_wp2_with fail
            refine wp_region_quiet_below (by kernel_rfl) (by kernel_rfl) ?_
            iterate 41 (quiet_step ((first | (go_at_call 104; with_reducible exact CL.out _ _) | (go_at_call 105; with_reducible exact CT.out _ _))))
            refine wpQuiet_nil ?_
            intro _ hw
            obtain ⟨⟨dq, osq⟩, hw''⟩ := hw
            subst hw''
            have hbq := below_regrown w dq osq
            clear k0 k4 k5 k6 CL CT
            generalize grow (redrawn w dq) osq = w2 at *
            go_wp2_with fail
            go_returns
            exact ⟨by rw [HA.out]; rfl, hbq⟩
  have q14 : (d.kind == 14) = false := by simpa using k14
  by_cases hl : d.ln = 0
  · have q1 : ((d.ln : Int) == 0) = true := by rw [hl]; rfl
    rw [hl] at c5
    by_cases hn : d.nn = 0
    · have HA := Lib.hid (show d.listsB = true by unfold ExD.listsB; simp [k8, k14, hl, hn])
      have q0 : ((d.nn : Int) == 0) = true := by rw [hn]; rfl
      rw [hn] at c6
      clear k8 k14 hl hn
      go_enter Tryz.func77, Tryz.ntmps77
      go_wp2_with fail
      go_returns
      exact ⟨by rw [HA.out]; rfl, Below.refl _ _⟩
    · have HA := Lib.hid (show d.listsB = false by unfold ExD.listsB; simp [k8, k14, hn])
      have q0 : ((d.nn : Int) == 0) = false := by simpa using hn
      clear k8 k14 hl
      go_enter Tryz.func77, Tryz.ntmps77
      go_wp2_with fail
      go_returns
      exact ⟨by rw [HA.out]; rfl, Below.refl _ _⟩
  · have HA := Lib.hid (show d.listsB = false by unfold ExD.listsB; simp [k8, k14, hl])
    have q1 : ((d.ln : Int) == 0) = false := by simpa using hl
    clear k8 k14
    go_enter Tryz.func77, Tryz.ntmps77
    go_wp2_with fail
    go_returns
    exact ⟨by rw [HA.out]; rfl, Below.refl _ _⟩
end Go.Proofs.YtaglmmcjhlehjaaGreatDoor
