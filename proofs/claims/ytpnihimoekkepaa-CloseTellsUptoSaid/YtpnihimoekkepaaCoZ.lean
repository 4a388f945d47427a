/-
  Whether an expression is whole: by the document's answer.
-/
import Derived.Test.YtpnihimoekkepaaCoY
import Derived.Test.YtpnihimoekkepaaQuiet
import Derived.Deep.CutBlock
namespace Go.Proofs.Ytpnihimoekkepaa
open Go.ChangeShapes Go.WideShapes Go.ChangeAt Go.RowKit Go.Sort
set_option linter.unusedVariables false
set_option linter.unusedSimpArgs false
attribute [local irreducible] Go.wpQuiet

/-- Each function of one argument has one part. -/
inductive Ex.Ok : Ex → Prop
  | mk (d : ExD) (l : List Ex) (h : d.kind = 4 → l.length = 1) (sub : ∀ x ∈ l, Ex.Ok x) : Ex.Ok (.mk d l)
theorem parts4 {d : ExD} (h : d.kind = 4) : partsI d = 1 := by unfold partsI; rw [h]; rfl

set_option maxRecDepth 100000 in
set_option maxHeartbeats 4000000 in
theorem Whole_any (w0 : World) (t : Ex) (hIn : t.In w0) : ∀ (w : World), Below w0.heap.size w0 w →
    Calls Try.prog 12 #[.agg t.d.arr] w fun e w' => (∃ v : Bool, e = .returned (.bool v) ∧ (v = true → t.Ok)) ∧ Below w.heap.size w w' := by
  induction hIn with
  | mk d l nam par cap sub ih =>
  intro w hb
  have hlen : l.length = d.pn := by have := par.1; rw [flat_len Ex.cells_len] at this; omega
  have hb1 : Below w.heap.size w (w.alloc (.cells d.arr 25)) := (Below.refl _ _).alloc (Nat.le_refl _) _
  have hAt := ex_box w d
  have HA := Lib.hid (And.intro hAt (And.intro (below_then hb hb1) (And.intro nam (And.intro cap hlen))))
  have HI := Lib.hid (Ex.In.mk d l nam par cap sub)
  have HIH := Lib.hid ih
  have HB1 := Lib.hid hb1
  have HPT := Lib.hid (fun V => Parts_any d V cap.2.1.2.2 cap.1.2.2)
  have hsl : (d.s.length : Int) ≤ 4000000 := by have := cap.2.2.1; omega
  clear hb1 hAt nam par cap sub ih hb hlen
  go_enter Try.func12, Try.ntmps12
  show _
  unfold Ex.d
  go_upto_region 1 with fail
  generalize (w.alloc (.cells d.arr 25)) = w1 at *
  have HSC := Lib.hid (show ∀ V, Below w1.heap.size w1 V → V.cell? ⟨w.heap.size, 0, none⟩ = some (.int .i64 d.kind) ∧ V.cell? ⟨w.heap.size, 1, none⟩ = some (.int .i64 d.n) ∧ V.cell? ⟨w.heap.size, 2, none⟩ = some (.string (bstr d.s)) ∧ V.cell? ⟨w.heap.size, 3, none⟩ = some (.string (bstr d.t)) ∧ V.cell? ⟨w.heap.size, 4, none⟩ = some (.slice d.nA d.nn d.nc) ∧ V.cell? ⟨w.heap.size, 5, none⟩ = some (.slice d.pA d.pn d.pc) from fun V h => by
    obtain ⟨c0, c1, c2, c3, c4, c5⟩ := HA.out.1.lower h
    exact ⟨by simpa using c0, by simpa using c1, by simpa using c2, by simpa using c3, by simpa using c4, by simpa using c5⟩)
  obtain ⟨c0, c1, c2, c3, c4, c5⟩ := HSC.out _ (Below.refl _ _)
  have k0 := cell_regrown c0
  have k1 := cell_regrown c1
  have k2 := cell_regrown c2
  have k3 := cell_regrown c3
  have k4 := cell_regrown c4
  have k5 := cell_regrown c5
  have hne : ((d.pn : Int) != (d.pn : Int)) = false := by simp
  clear c0 c1 c2 c3 c4 c5
  go_cut [34] from 8 to 34 (fun x wx => ∃ B : Bool, x = .bool B ∧ (B = false → partsI d = d.pn) ∧ Below w1.heap.size w1 wx)
  case first =>
    have HCP : RowKit.Hid (∀ dd os, Calls Try.prog 25 #[.agg #[.int .i64 d.kind, .int .i64 d.n, .string (bstr d.s), .string (bstr d.t), .slice d.nA d.nn d.nc, .slice d.pA d.pn d.pc]] (grow (redrawn w1 dd) os) fun e w'' => e = .returned (.int .i64 (partsI d)) ∧ ∃ p : Regrown, w'' = grow (redrawn w1 p.d) p.os) := Lib.hid fun dd os => Calls.regrown_of (HPT.out (grow (redrawn w1 dd) os))
    clear HPT
    by_cases hz : partsI d = d.pn
    · have HZ := Lib.hid hz
      rw [hz] at HCP
      clear hz
      by_cases h7 : d.kind = 7
      · have q7 : (d.kind == 7) = true := by simpa using h7
        have q2 : (d.kind == 2) = false := by rw [h7]; rfl
        by_cases hs : d.s = []
        · have g1 : (bstr d.s).toList.isEmpty = true := by rw [hs]; exact str_nil
          clear h7 hs
          refine wp_region_quiet_below (by kernel_rfl) (by kernel_rfl) ?_
          iterate 17 (quiet_step (first | (go_at_call 25; with_reducible exact HCP.out _ _) | fail))
          iterate 9 (refine wpQuiet_skip (by kernel_rfl) (by kernel_rfl) ?_)
          iterate 1 (quiet_step (first | (go_at_call 25; with_reducible exact HCP.out _ _) | fail))
          refine wpQuiet_nil ?_
          intro _ hw
          obtain ⟨⟨dq, osq⟩, hw2⟩ := hw
          subst hw2
          have HBQ := Lib.hid (below_regrown w1 dq osq)
          clear k0 k1 k2 k3 k4 k5
          generalize grow (redrawn w1 dq) osq = w2 at *
          go_wp2_with fail
          go_meet
          exact ⟨_, rfl, fun _ => HZ.out, HBQ.out⟩
        · have g1 : (bstr d.s).toList.isEmpty = false := str_empty hs
          clear h7 hs
          refine wp_region_quiet_below (by kernel_rfl) (by kernel_rfl) ?_
          iterate 21 (quiet_step (first | (go_at_call 25; with_reducible exact HCP.out _ _) | fail))
          iterate 4 (refine wpQuiet_skip (by kernel_rfl) (by kernel_rfl) ?_)
          iterate 2 (quiet_step (first | (go_at_call 25; with_reducible exact HCP.out _ _) | fail))
          refine wpQuiet_nil ?_
          intro _ hw
          obtain ⟨⟨dq, osq⟩, hw2⟩ := hw
          subst hw2
          have HBQ := Lib.hid (below_regrown w1 dq osq)
          clear k0 k1 k2 k3 k4 k5
          generalize grow (redrawn w1 dq) osq = w2 at *
          go_wp2_with fail
          go_meet
          exact ⟨_, rfl, fun _ => HZ.out, HBQ.out⟩
      · have q7 : (d.kind == 7) = false := by simpa using h7
        by_cases h2 : d.kind = 2
        · have q2 : (d.kind == 2) = true := by simpa using h2
          clear h7 h2
          by_cases hs : (2000 : Int) < d.s.length
          · have hs2 : decide ((2000 : Int) < (d.s.length : Int)) = true := decide_eq_true hs
            refine wp_region_quiet_below (by kernel_rfl) (by kernel_rfl) ?_
            iterate 11 (quiet_step (first | (go_at_call 25; with_reducible exact HCP.out _ _) | fail))
            iterate 3 (refine wpQuiet_skip (by kernel_rfl) (by kernel_rfl) ?_)
            iterate 13 (quiet_step (first | (go_at_call 25; with_reducible exact HCP.out _ _) | fail))
            refine wpQuiet_nil ?_
            intro _ hw
            obtain ⟨⟨dq, osq⟩, hw2⟩ := hw
            subst hw2
            have HBQ := Lib.hid (below_regrown w1 dq osq)
            clear k0 k1 k2 k3 k4 k5
            generalize grow (redrawn w1 dq) osq = w2 at *
            go_wp2_with fail
            go_meet
            exact ⟨_, rfl, fun _ => HZ.out, HBQ.out⟩
          · have hs2 : decide ((2000 : Int) < (d.s.length : Int)) = false := decide_eq_false hs
            refine wp_region_quiet_below (by kernel_rfl) (by kernel_rfl) ?_
            iterate 11 (quiet_step (first | (go_at_call 25; with_reducible exact HCP.out _ _) | fail))
            iterate 3 (refine wpQuiet_skip (by kernel_rfl) (by kernel_rfl) ?_)
            iterate 13 (quiet_step (first | (go_at_call 25; with_reducible exact HCP.out _ _) | fail))
            refine wpQuiet_nil ?_
            intro _ hw
            obtain ⟨⟨dq, osq⟩, hw2⟩ := hw
            subst hw2
            have HBQ := Lib.hid (below_regrown w1 dq osq)
            clear k0 k1 k2 k3 k4 k5
            generalize grow (redrawn w1 dq) osq = w2 at *
            go_wp2_with fail
            go_meet
            exact ⟨_, rfl, fun _ => HZ.out, HBQ.out⟩
        · have q2 : (d.kind == 2) = false := by simpa using h2
          clear h7 h2
          refine wp_region_quiet_below (by kernel_rfl) (by kernel_rfl) ?_
          iterate 11 (quiet_step (first | (go_at_call 25; with_reducible exact HCP.out _ _) | fail))
          iterate 3 (refine wpQuiet_skip (by kernel_rfl) (by kernel_rfl) ?_)
          iterate 7 (quiet_step (first | (go_at_call 25; with_reducible exact HCP.out _ _) | fail))
          iterate 4 (refine wpQuiet_skip (by kernel_rfl) (by kernel_rfl) ?_)
          iterate 2 (quiet_step (first | (go_at_call 25; with_reducible exact HCP.out _ _) | fail))
          refine wpQuiet_nil ?_
          intro _ hw
          obtain ⟨⟨dq, osq⟩, hw2⟩ := hw
          subst hw2
          have HBQ := Lib.hid (below_regrown w1 dq osq)
          clear k0 k1 k2 k3 k4 k5
          generalize grow (redrawn w1 dq) osq = w2 at *
          go_wp2_with fail
          go_meet
          exact ⟨_, rfl, fun _ => HZ.out, HBQ.out⟩
    · generalize partsI d = z at *
      have hq : (z != (d.pn : Int)) = true := by simpa using hz
      refine wp_region_quiet_below (by kernel_rfl) (by kernel_rfl) ?_
      iterate 7 (quiet_step (first | (go_at_call 25; with_reducible exact HCP.out _ _) | fail))
      iterate 8 (refine wpQuiet_skip (by kernel_rfl) (by kernel_rfl) ?_)
      iterate 2 (quiet_step (first | (go_at_call 25; with_reducible exact HCP.out _ _) | fail))
      iterate 9 (refine wpQuiet_skip (by kernel_rfl) (by kernel_rfl) ?_)
      iterate 1 (quiet_step (first | (go_at_call 25; with_reducible exact HCP.out _ _) | fail))
      refine wpQuiet_nil ?_
      intro _ hw
      obtain ⟨⟨dq, osq⟩, hw2⟩ := hw
      subst hw2
      have HBQ := Lib.hid (below_regrown w1 dq osq)
      clear k0 k1 k2 k3 k4 k5
      generalize grow (redrawn w1 dq) osq = w2 at *
      go_wp2_with fail
      go_meet
      exact ⟨_, rfl, (fun h => by cases h), HBQ.out⟩
  case rest =>
  obtain ⟨B, rfl, hB, hbw⟩ := hcut
  clear k0 k1 k2 k3 k4 k5 hne
  have HW := Lib.hid hbw
  cases B with
  | true =>
    clear hB hbw
    go_wp2_with fail
    go_returns
    exact ⟨⟨false, rfl, fun h => by cases h⟩, below_then HB1.out HW.out⟩
  | false =>
    have HON := Lib.hid (show d.kind = 4 → l.length = 1 from fun h => by
      have h1 := hB rfl
      rw [parts4 h] at h1
      have h2 := HA.out.2.2.2.2
      omega)
    obtain ⟨c0, _, c2, _, _, _⟩ := HSC.out _ hbw
    clear hB hbw HPT
    go_upto_region 3 with fail
    go_cut [47] from 35 to 47 (fun x wx => ∃ B : Bool, x = .bool B ∧ Below w1.heap.size w1 wx)
    case first =>
      by_cases h16 : d.kind = 16
      · have q16 : (d.kind == 16) = true := by simpa using h16
        clear h16
        cases g1 : ((bstr d.s).toList == [94]) with
        | true =>
          go_wp2_with fail
          go_meet
          exact ⟨_, rfl, HW.out⟩
        | false =>
          cases g2 : ((bstr d.s).toList == [35]) with
          | true =>
            go_wp2_with fail
            go_meet
            exact ⟨_, rfl, HW.out⟩
          | false =>
            go_wp2_with fail
            go_meet
            exact ⟨_, rfl, HW.out⟩
      · have q16 : (d.kind == 16) = false := by simpa using h16
        clear h16
        go_wp2_with fail
        go_meet
        exact ⟨_, rfl, HW.out⟩
    case rest =>
    obtain ⟨B2, rfl, hb2⟩ := hcut
    have HW2 := Lib.hid hb2
    clear c0 c2 hb2
    cases B2 with
    | true =>
      obtain ⟨_, _, c2, _, _, _⟩ := HSC.out _ HW2.out
      have HAR := Lib.hid (fun V => Arith_any d.s V)
      go_wp2_with fail
      refine (HAR.out _).mono ?_
      rintro e w4 ⟨⟨ra, rb, rc, rfl⟩, hb4⟩
      have HRR := Lib.hid (below_then HW2.out hb4)
      clear hb4 HAR c2
      cases rc with
      | false =>
        go_wp2_with fail
        go_returns
        exact ⟨⟨false, rfl, fun h => by cases h⟩, below_then HB1.out HRR.out⟩
      | true =>
        go_wp2_with fail
        go_loopw [6] (fun i wr => ∃ k : Nat, i = .int .i64 k ∧ k ≤ d.pn ∧ (∀ x ∈ l.take k, x.Ok) ∧ Below w1.heap.size w1 wr) (fun i _ => d.pn - (intOf i).toNat)
        case atStart => exact ⟨0, rfl, Nat.zero_le _, (fun x hx => by simp at hx), HRR.out⟩
        case round =>
          clear HRR
          obtain ⟨k, rfl, hk, hok, hbr⟩ := hrel
          have HR := Lib.hid hbr
          have HO := Lib.hid hok
          have cc := (HA.out.1.lower hbr).c5
          clear hbr hok
          by_cases hlt : k < d.pn
          · have hjl : k < l.length := by rw [HA.out.2.2.2.2]; exact hlt
            obtain ⟨pb, po, hpA, hAtP⟩ := (HI.out.lower HA.out.2.1).part (k := k) hjl
            have hpA' : d.pA = some ⟨pb, po, none⟩ := hpA
            rw [hpA'] at cc
            have hAtM : (l[k]).d.At w1 pb (po + k * 6) := hAtP k hjl
            have HTK := Lib.hid (show l.take (k + 1) = l.take k ++ [l[k]] from List.take_succ_eq_append_getElem hjl)
            obtain ⟨x, hx⟩ : ∃ x, l[k] = x := ⟨_, rfl⟩
            rw [hx] at hAtM HTK
            have hxm : x ∈ l := by rw [← hx]; exact List.getElem_mem hjl
            have HM := Lib.hid (HIH.out x hxm wr (HA.out.2.1.trans (HR.out.mono HA.out.2.1.size)))
            obtain ⟨p0, p1, p2, p3, p4, p5⟩ := hAtM.lower HR.out
            have hji : (k : Int) < (d.pn : Int) := by omega
            have hj4 : (k : Int) ≤ 4000000 := by have := HA.out.2.2.2.1.2.1.2.2; omega
            have HLT := Lib.hid hlt
            clear hpA hpA' hAtP hAtM hx hxm hjl hlt
            go_wp2_with fail
            refine HM.out.mono ?_
            rintro e w3 ⟨⟨v, rfl, hv⟩, hb3⟩
            have H3 := Lib.hid (And.intro hv (below_then HR.out hb3))
            clear hb3 HM hv
            cases v with
            | false =>
              go_wp2_with fail
              go_returns
              exact ⟨⟨false, rfl, fun h => by cases h⟩, below_then HB1.out H3.out.2⟩
            | true =>
              go_wp2_with fail
              go_roundw
              case rel => exact ⟨k + 1, by go_num, HLT.out, fun y hy => by
                rw [HTK.out] at hy
                rcases List.mem_append.1 hy with q | q
                · exact HO.out y q
                · rw [List.mem_singleton] at q; subst q; exact H3.out.1 (by simp), H3.out.2⟩
              case measure => have := HLT.out; simp [intOf] <;> omega
          · have hji : ¬ (k : Int) < (d.pn : Int) := by omega
            have HALL := Lib.hid (show ∀ x ∈ l, x.Ok from fun x hx => HO.out x (by rw [List.take_of_length_le (by rw [HA.out.2.2.2.2]; omega)]; exact hx))
            clear hlt
            go_wp2_with fail
            go_returns
            exact ⟨.inr ⟨rfl, .mk d l HON.out HALL.out⟩, below_then HB1.out HR.out⟩
    | false =>
      have HRR := Lib.hid HW2.out
      go_wp2_with fail
      go_loopw [6] (fun i wr => ∃ k : Nat, i = .int .i64 k ∧ k ≤ d.pn ∧ (∀ x ∈ l.take k, x.Ok) ∧ Below w1.heap.size w1 wr) (fun i _ => d.pn - (intOf i).toNat)
      case atStart => exact ⟨0, rfl, Nat.zero_le _, (fun x hx => by simp at hx), HRR.out⟩
      case round =>
        clear HRR
        obtain ⟨k, rfl, hk, hok, hbr⟩ := hrel
        have HR := Lib.hid hbr
        have HO := Lib.hid hok
        have cc := (HA.out.1.lower hbr).c5
        clear hbr hok
        by_cases hlt : k < d.pn
        · have hjl : k < l.length := by rw [HA.out.2.2.2.2]; exact hlt
          obtain ⟨pb, po, hpA, hAtP⟩ := (HI.out.lower HA.out.2.1).part (k := k) hjl
          have hpA' : d.pA = some ⟨pb, po, none⟩ := hpA
          rw [hpA'] at cc
          have hAtM : (l[k]).d.At w1 pb (po + k * 6) := hAtP k hjl
          have HTK := Lib.hid (show l.take (k + 1) = l.take k ++ [l[k]] from List.take_succ_eq_append_getElem hjl)
          obtain ⟨x, hx⟩ : ∃ x, l[k] = x := ⟨_, rfl⟩
          rw [hx] at hAtM HTK
          have hxm : x ∈ l := by rw [← hx]; exact List.getElem_mem hjl
          have HM := Lib.hid (HIH.out x hxm wr (HA.out.2.1.trans (HR.out.mono HA.out.2.1.size)))
          obtain ⟨p0, p1, p2, p3, p4, p5⟩ := hAtM.lower HR.out
          have hji : (k : Int) < (d.pn : Int) := by omega
          have hj4 : (k : Int) ≤ 4000000 := by have := HA.out.2.2.2.1.2.1.2.2; omega
          have HLT := Lib.hid hlt
          clear hpA hpA' hAtP hAtM hx hxm hjl hlt
          go_wp2_with fail
          refine HM.out.mono ?_
          rintro e w3 ⟨⟨v, rfl, hv⟩, hb3⟩
          have H3 := Lib.hid (And.intro hv (below_then HR.out hb3))
          clear hb3 HM hv
          cases v with
          | false =>
            go_wp2_with fail
            go_returns
            exact ⟨⟨false, rfl, fun h => by cases h⟩, below_then HB1.out H3.out.2⟩
          | true =>
            go_wp2_with fail
            go_roundw
            case rel => exact ⟨k + 1, by go_num, HLT.out, fun y hy => by
              rw [HTK.out] at hy
              rcases List.mem_append.1 hy with q | q
              · exact HO.out y q
              · rw [List.mem_singleton] at q; subst q; exact H3.out.1 (by simp), H3.out.2⟩
            case measure => have := HLT.out; simp [intOf] <;> omega
        · have hji : ¬ (k : Int) < (d.pn : Int) := by omega
          have HALL := Lib.hid (show ∀ x ∈ l, x.Ok from fun x hx => HO.out x (by rw [List.take_of_length_le (by rw [HA.out.2.2.2.2]; omega)]; exact hx))
          clear hlt
          go_wp2_with fail
          go_returns
          exact ⟨.inr ⟨rfl, .mk d l HON.out HALL.out⟩, below_then HB1.out HR.out⟩
end Go.Proofs.Ytpnihimoekkepaa
