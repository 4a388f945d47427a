/-
  The law: in a function's part no name is free but its own, its argument's, and those that it takes along.
-/
import Derived.Test.YtpnihimoekkepaaCoAC
import Derived.Test.YtpnihimoekkepaaQuiet
namespace Go.Proofs.Ytpnihimoekkepaa
open Go.ChangeShapes Go.WideShapes Go.ChangeAt Go.RowKit Go.Sort Go.Maps
set_option linter.unusedVariables false
set_option linter.unusedSimpArgs false
attribute [local irreducible] Go.wpQuiet

theorem fu_len (f : Fu) : f.cells.length = 9 := rfl
/-- The cells of one function of a list. -/
theorem fu_at {w : World} {b o : Nat} {l : List Fu} (h : ∀ j u, (l.flatMap Fu.cells)[j]? = some u → w.cell? ⟨b, o + j, none⟩ = some u) {k : Nat} {f : Fu} (hf : l[k]? = some f) (j : Nat) (u : Value) (hj : j < 9) (hu : f.cells[j]? = some u) : w.cell? ⟨b, o + (k * 9 + j), none⟩ = some u := by
  refine h _ _ ?_
  clear h
  induction l generalizing k with
  | nil => cases hf
  | cons x l ih =>
    rw [List.flatMap_cons]
    cases k with
    | zero =>
      injection hf with hf
      subst hf
      rw [Nat.zero_mul, Nat.zero_add, List.getElem?_append_left (by rw [fu_len]; exact hj)]
      exact hu
    | succ k =>
      rw [List.getElem?_append_right (by rw [fu_len]; omega), fu_len, show (k + 1) * 9 + j - 9 = k * 9 + j from by omega]
      exact ih hf
theorem law_nodes {t : Ex} {f0 : Fu} {fs : List Fu} {zs : List Ex} (hn : t.nodes ≤ 4000000) (h0 : f0.y.eqv (numE t 0)) (hz : exL zs (fnsE t 0)) (hl : zs.length = fs.length) (hp : ∀ (i : Nat) (z : Ex) (f : Fu), zs[i]? = some z → fs[i]? = some f → FunP z f) : ∀ f ∈ f0 :: fs, f.y.nodes ≤ 4000000 := by
  intro f hf
  rcases List.mem_cons.1 hf with rfl | q
  · rw [nodes_eqv _ _ h0, numE_nodes]
    exact hn
  · obtain ⟨i, hi, rfl⟩ := List.mem_iff_getElem.1 q
    have hzi : zs[i]? = some (zs[i]'(by omega)) := List.getElem?_eq_getElem _
    have hzm : zs[i]'(by omega) ∈ zs := List.getElem_mem _
    obtain ⟨y, hy, he⟩ := exL_mem hz hzm
    rw [nodes_eqv _ _ (hp i _ _ hzi (List.getElem?_eq_getElem hi)).y]
    refine part_nodes ?_
    rw [nodes_eqv _ _ he]
    exact Nat.le_trans (fnsE_nodes t 0 y hy) hn
set_option maxRecDepth 100000 in
set_option maxHeartbeats 4000000 in
theorem law_any (t : Ex) (w : World) (hI : t.In w) (hnd : t.nodes ≤ 4000000) : Calls Try.prog 4 #[.agg #[.int .i64 t.d.kind, .int .i64 t.d.n, .string (bstr t.d.s), .string (bstr t.d.t), .slice t.d.nA t.d.nn t.d.nc, .slice t.d.pA t.d.pn t.d.pc]] w fun e w' => e = .returned (.bool true) ∧ Below w.heap.size w w' := by
  have hb1 : Below w.heap.size w (w.alloc (.cells #[.int .i64 t.d.kind, .int .i64 t.d.n, .string (bstr t.d.s), .string (bstr t.d.t), .slice t.d.nA t.d.nn t.d.nc, .slice t.d.pA t.d.pn t.d.pc] 25)) := (Below.refl _ _).alloc (Nat.le_refl _) _
  have HB1 := Lib.hid hb1
  have HI1 := Lib.hid (show t.In (w.alloc (.cells #[.int .i64 t.d.kind, .int .i64 t.d.n, .string (bstr t.d.s), .string (bstr t.d.t), .slice t.d.nA t.d.nn t.d.nc, .slice t.d.pA t.d.pn t.d.pc] 25)) from hI.lower hb1)
  have HAT := Lib.hid (show t.d.At (w.alloc (.cells #[.int .i64 t.d.kind, .int .i64 t.d.n, .string (bstr t.d.s), .string (bstr t.d.t), .slice t.d.nA t.d.nn t.d.nc, .slice t.d.pA t.d.pn t.d.pc] 25)) w.heap.size 0 from ex_box w t.d)
  have HND := Lib.hid hnd
  have HUP := Lib.hid (fun V => up_any V)
  clear hI hnd hb1
  go_enter Try.func4, Try.ntmps4
  go_upto_region 1 with fail
  generalize (w.alloc (.cells #[.int .i64 t.d.kind, .int .i64 t.d.n, .string (bstr t.d.s), .string (bstr t.d.t), .slice t.d.nA t.d.nn t.d.nc, .slice t.d.pA t.d.pn t.d.pc] 25)) = w1 at *
  go_wp2_with fail
  refine (HUP.out _).mono ?_
  rintro e w2 ⟨rfl, hb2⟩
  have H2 := Lib.hid hb2
  have HFW := Lib.hid (show Calls Try.prog 6 #[.agg #[.int .i64 t.d.kind, .int .i64 t.d.n, .string (bstr t.d.s), .string (bstr t.d.t), .slice t.d.nA t.d.nn t.d.nc, .slice t.d.pA t.d.pn t.d.pc]] w2 fun e w' => (∃ v : Bool, e = .returned (.bool v)) ∧ Below w2.heap.size w2 w' from Few_any w1 t HI1.out w2 hb2)
  obtain ⟨c0, c1, c2, c3, c4, c5⟩ := HAT.out.lower hb2
  clear hb2 HUP
  go_wp2_with fail
  refine HFW.out.mono ?_
  rintro e w3 ⟨⟨few, rfl⟩, hb3⟩
  have H3 := Lib.hid (below_then H2.out hb3)
  have HWH := Lib.hid (show Calls Try.prog 12 #[.agg #[.int .i64 t.d.kind, .int .i64 t.d.n, .string (bstr t.d.s), .string (bstr t.d.t), .slice t.d.nA t.d.nn t.d.nc, .slice t.d.pA t.d.pn t.d.pc]] w3 fun e w' => (∃ v : Bool, e = .returned (.bool v) ∧ (v = true → t.Ok)) ∧ Below w3.heap.size w3 w' from Whole_any w1 t HI1.out w3 (below_then H2.out hb3))
  clear c0 c1 c2 c3 c4 c5
  obtain ⟨c0, c1, c2, c3, c4, c5⟩ := HAT.out.lower H3.out
  clear hb3 HFW
  go_wp2_with fail
  refine HWH.out.mono ?_
  rintro e w4 ⟨⟨wh, rfl, hok⟩, hb4⟩
  have H4 := Lib.hid (below_then H3.out hb4)
  clear c0 c1 c2 c3 c4 c5
  obtain ⟨c0, c1, c2, c3, c4, c5⟩ := HAT.out.lower H4.out
  clear hb4 HWH
  cases few with
  | false =>
    go_wp2_with fail
    go_returns
    exact ⟨rfl, below_then HB1.out H4.out⟩
  | true =>
  cases wh with
  | false =>
    go_wp2_with fail
    go_returns
    exact ⟨rfl, below_then HB1.out H4.out⟩
  | true =>
  have HOK := Lib.hid (hok rfl)
  have HCL := Lib.hid (show Calls Try.prog 7 #[.agg #[.int .i64 t.d.kind, .int .i64 t.d.n, .string (bstr t.d.s), .string (bstr t.d.t), .slice t.d.nA t.d.nn t.d.nc, .slice t.d.pA t.d.pn t.d.pc]] w4 (ClR t w4) from Close_any t w4 (HI1.out.lower H4.out) HND.out)
  clear hok
  go_wp2_with fail
  refine HCL.out.mono ?_
  rintro e w5 ⟨hb5, hcase⟩
  have H5 := Lib.hid (below_then H4.out hb5)
  clear hb5 HCL c0 c1 c2 c3 c4 c5
  rcases hcase with ⟨rfl, _⟩ | ⟨rfl, _⟩ | ⟨f0, fs, zs, A, c, rfl, hrd, hfi, _, _, hc0, hn0, h0, hz, hl, hnm, hfp, hnf, _, hle⟩
  · go_wp2_with fail
    go_returns
    exact ⟨rfl, below_then HB1.out H5.out⟩
  · go_wp2_with fail
    go_returns
    exact ⟨rfl, below_then HB1.out H5.out⟩
  · have HLW := Lib.hid (law_all HI1.out.nm HOK.out hfi hc0 h0 hz hl hnm hfp hnf (numE_nm t 0 HI1.out.nm))
    have HFI := Lib.hid hfi
    have HN0 := Lib.hid hn0
    have hfl : fs.length ≤ 2000 := by
      have h1 := exL_len hz
      rw [fnsE_len] at h1
      omega
    have HNY := Lib.hid (show ∀ f ∈ f0 :: fs, f.y.nodes ≤ 4000000 from law_nodes HND.out h0 hz hl hfp)
    have HRD := Lib.hid hrd
    clear hrd hfi hc0 hn0 h0 hz hl hnm hfp hnf hle
    go_wp2_with fail
    clear HND HOK
    go_loopw [8] (fun i wr => ∃ k : Nat, i = .int .i64 k ∧ k ≤ fs.length + 1 ∧ Below w5.heap.size w5 wr) (fun i _ => fs.length + 1 - (intOf i).toNat)
    case atStart => exact ⟨0, rfl, Nat.zero_le _, Below.refl _ _⟩
    case round =>
      obtain ⟨k, rfl, hk, hbr⟩ := hrel
      have HR := Lib.hid hbr
      obtain ⟨fb, fo, hfA, _, hfc⟩ := HRD.out.base (by simp [Fu.cells])
      have HFC := Lib.hid (show ∀ V, Below w5.heap.size w5 V → ∀ (i : Nat) (f : Fu), (f0 :: fs)[i]? = some f → ∀ (j : Nat) (u : Value), j < 9 → f.cells[j]? = some u → V.cell? ⟨fb, fo + (i * 9 + j), none⟩ = some u from fun V h i f hf j u hj hu => fu_at (fun j u hu => cell_below h (hfc j u hu)) hf j u hj hu)
      clear hfc
      subst hfA
      by_cases hlt : k < fs.length + 1
      · obtain ⟨f, hf⟩ : ∃ f, (f0 :: fs)[k]? = some f := ⟨(f0 :: fs)[k]'(by simpa using hlt), List.getElem?_eq_getElem _⟩
        have HLF := Lib.hid (HLW.out k f hf)
        have hfm : f ∈ f0 :: fs := List.mem_of_getElem? hf
        have HFF := Lib.hid (HFI.out f hfm)
        have HFN := Lib.hid (HNY.out f hfm)
        have HLT := Lib.hid hlt
        have HCC := Lib.hid (show ∀ V, Below w5.heap.size w5 V → (V.cell? ⟨fb, fo + k * 9, none⟩ = some (.string (bstr f.s)) ∧ V.cell? ⟨fb, fo + k * 9 + 1, none⟩ = some (.string (bstr f.t)) ∧ V.cell? ⟨fb, fo + k * 9 + 2, none⟩ = some (.slice f.A f.n f.c)) ∧ f.y.d.At V fb (fo + k * 9 + 3) from fun V h => by
          have g := fun j u hj hu => HFC.out V h k f hf j u hj hu
          have e : ∀ j, fo + (k * 9 + j) = fo + k * 9 + j := fun j => by omega
          simp only [e] at g
          exact ⟨⟨g 0 _ (by omega) rfl, g 1 _ (by omega) rfl, g 2 _ (by omega) rfl⟩, ⟨g 3 _ (by omega) rfl, g 4 _ (by omega) rfl, g 5 _ (by omega) rfl, g 6 _ (by omega) rfl, g 7 _ (by omega) rfl, g 8 _ (by omega) rfl⟩⟩)
        obtain ⟨⟨a0, a1, a2⟩, ⟨p0, p1, p2, p3, p4, p5⟩⟩ := HCC.out wr hbr
        have HFR := Lib.hid (show Calls Try.prog 13 #[.agg #[.int .i64 f.y.d.kind, .int .i64 f.y.d.n, .string (bstr f.y.d.s), .string (bstr f.y.d.t), .slice f.y.d.nA f.y.d.nn f.y.d.nc, .slice f.y.d.pA f.y.d.pn f.y.d.pc]] wr (fun e w' => FrR f.y wr e w') from Free_any f.y wr (HFF.out.y.lower hbr) HFN.out)
        have hki : (k : Int) < ((fs.length + 1 : Nat) : Int) := by omega
        have hk0 : (0 : Int) ≤ (k : Int) := by omega
        have hk4 : (k : Int) ≤ 2000 := by omega
        have hkj : (k : Int) < (fs.length : Int) + 1 := by omega
        clear hf hfm hlt hbr
        go_wp2_with fail
        refine HFR.out.mono ?_
        rintro e J ⟨FA, n, fc, ss, rfl, hrow, hn4, hf1, hf2, hbj, _⟩
        have HJ := Lib.hid (below_then HR.out hbj)
        have HS := Lib.hid (And.intro hf1 hf2)
        have HSR := Lib.hid (Rd.of_own hrow)
        obtain rfl : n = ss.length := own_len hrow
        clear a0 a1 a2 p0 p1 p2 p3 p4 p5 hrow hf1 hf2 hbj HFR
        go_wp2_with fail
        go_loopw [10] (fun i V => ∃ j : Nat, i = .int .i64 j ∧ j ≤ ss.length ∧ Below J.heap.size J V) (fun i _ => ss.length - (intOf i).toNat)
        case atStart => exact ⟨0, rfl, Nat.zero_le _, Below.refl _ _⟩
        case round =>
          obtain ⟨j, rfl, hj, hbv⟩ := hrel
          have HV := Lib.hid hbv
          by_cases hjl : j < ss.length
          · have HJL := Lib.hid hjl
            have hbV := below_then HJ.out hbv
            obtain ⟨sb, so, hSA, hsc⟩ := (HSR.out.below hbv).str hjl
            obtain ⟨x, hx⟩ : ∃ x : Str, x = ss[j]'hjl := ⟨_, rfl⟩
            have h1 : wr.cell? ⟨sb, so + j, none⟩ = some (.string (bstr x)) := by rw [hx]; exact hsc j hjl
            have HXF := Lib.hid (HS.out.1 x (by rw [hx]; exact List.getElem_mem hjl))
            have hji : (j : Int) < (ss.length : Int) := by omega
            have hj0 : (0 : Int) ≤ (j : Int) := by omega
            have hj4 : (j : Int) ≤ 4000000 := by omega
            obtain ⟨⟨_, _, a2⟩, _⟩ := HCC.out wr hbV
            have HSA := Lib.hid hSA
            have H1 := Lib.hid h1
            have z0 := cell_regrown h1
            have z1 := cell_regrown a2
            have HHQ : RowKit.Hid (∀ dd os, Calls Try.prog 14 #[.slice f.A f.n f.c, .string (bstr x)] (grow (redrawn wr dd) os) fun e w'' => e = .returned (.bool (decide (x ∈ f.caps))) ∧ ∃ p : Regrown, w'' = grow (redrawn wr p.d) p.os) := Lib.hid fun dd os => Calls.regrown_of (refHas_any f.A f.caps x f.n f.c (grow (redrawn wr dd) os) ((HFF.out.caps.below hbV).below (below_regrown _ _ _)) HFF.out.small.2.2)
            clear hsc hx hjl a2 h1 hbV
            subst hSA
            go_upto_region 16 with fail
            refine wp_region_quiet_below (by kernel_rfl) (by kernel_rfl) ?_
            iterate 11 (quiet_step (first | (go_at_call 14; with_reducible exact HHQ.out _ _) | fail))
            refine wpQuiet_nil ?_
            intro _ hw
            obtain ⟨⟨dq, osq⟩, hw2⟩ := hw
            subst hw2
            have HV2 := Lib.hid (below_then HV.out (below_regrown wr dq osq))
            have HBQ := Lib.hid (below_regrown wr dq osq)
            clear z0 z1 HHQ
            generalize grow (redrawn wr dq) osq = V2 at *
            obtain ⟨⟨b0, b1, b2⟩, _⟩ := HCC.out V2 (below_then HJ.out HV2.out)
            have h2 : V2.cell? ⟨sb, so + j, none⟩ = some (.string (bstr x)) := cell_below HBQ.out H1.out
            clear HBQ
            have z0 := cell_regrown h2
            have z1 := cell_regrown b0
            have z2 := cell_regrown b1
            clear b0 b1 b2 h2
            by_cases hc : x ∈ f.caps
            · have hcd : decide (x ∈ f.caps) = true := decide_eq_true hc
              rw [hcd]
              clear hc hcd
              go_upto_region 17 with fail
              refine wp_region_quiet_below (by kernel_rfl) (by kernel_rfl) ?_
              iterate 30 (quiet_step (fail))
              refine wpQuiet_nil ?_
              intro _ hw
              obtain ⟨⟨dq, osq⟩, hw2⟩ := hw
              subst hw2
              have HVQ := Lib.hid (below_then HV2.out (below_regrown V2 dq osq))
              clear z0 z1 z2
              generalize grow (redrawn V2 dq) osq = V3 at *
              go_wp2_with fail
              go_roundw
              case rel => exact ⟨j + 1, by go_num, HJL.out, HVQ.out⟩
              case measure => have := HJL.out; simp [intOf] <;> omega
            · have hcd : decide (x ∈ f.caps) = false := decide_eq_false hc
              rw [hcd]
              have hor := (HLF.out.h1 x HXF.out.1 HXF.out.2).resolve_left hc
              have hk0' : ((k : Int) == 0) = false := by have := hor.1; simpa using this
              by_cases hxs : x = f.s
              · have g1 : ((bstr x).toList == (bstr f.s).toList) = true := by rw [beq_bstr]; simpa using hxs
                clear hc hcd hor hxs
                go_upto_region 17 with fail
                refine wp_region_quiet_below (by kernel_rfl) (by kernel_rfl) ?_
                iterate 30 (quiet_step (fail))
                refine wpQuiet_nil ?_
                intro _ hw
                obtain ⟨⟨dq, osq⟩, hw2⟩ := hw
                subst hw2
                have HVQ := Lib.hid (below_then HV2.out (below_regrown V2 dq osq))
                clear z0 z1 z2
                generalize grow (redrawn V2 dq) osq = V3 at *
                go_wp2_with fail
                go_roundw
                case rel => exact ⟨j + 1, by go_num, HJL.out, HVQ.out⟩
                case measure => have := HJL.out; simp [intOf] <;> omega
              · have g1 : ((bstr x).toList == (bstr f.s).toList) = false := by rw [beq_bstr]; simpa using hxs
                have g2 : ((bstr x).toList == (bstr f.t).toList) = true := by rw [beq_bstr]; simpa using hor.2.resolve_left hxs
                clear hc hcd hor hxs
                go_upto_region 17 with fail
                refine wp_region_quiet_below (by kernel_rfl) (by kernel_rfl) ?_
                iterate 30 (quiet_step (fail))
                refine wpQuiet_nil ?_
                intro _ hw
                obtain ⟨⟨dq, osq⟩, hw2⟩ := hw
                subst hw2
                have HVQ := Lib.hid (below_then HV2.out (below_regrown V2 dq osq))
                clear z0 z1 z2
                generalize grow (redrawn V2 dq) osq = V3 at *
                go_wp2_with fail
                go_roundw
                case rel => exact ⟨j + 1, by go_num, HJL.out, HVQ.out⟩
                case measure => have := HJL.out; simp [intOf] <;> omega
          · have hji : ¬ (j : Int) < (ss.length : Int) := by omega
            clear hj
            obtain ⟨⟨_, _, a2⟩, _⟩ := HCC.out wr (below_then HJ.out hbv)
            clear hbv
            go_wp2_with fail
            clear a2 hji
            go_loopw [12] (fun i V => ∃ m : Nat, i = .int .i64 m ∧ m ≤ f.n ∧ Below J.heap.size J V) (fun i _ => f.n - (intOf i).toNat)
            case atStart => exact ⟨0, rfl, Nat.zero_le _, HV.out⟩
            case round =>
              obtain ⟨m, rfl, hm, hbm⟩ := hrel
              have HM := Lib.hid hbm
              have hbM := below_then HJ.out hbm
              have HBM := Lib.hid hbM
              have hcl := rd_len HFF.out.caps
              obtain ⟨⟨_, _, a2⟩, _⟩ := HCC.out wr hbM
              by_cases hml : m < f.n
              · have HML := Lib.hid hml
                have hml2 : m < f.caps.length := by omega
                obtain ⟨sb, so, hSA, hsc⟩ := (HFF.out.caps.below hbM).str hml2
                obtain ⟨x, hx⟩ : ∃ x : Str, x = f.caps[m]'hml2 := ⟨_, rfl⟩
                have h1 : wr.cell? ⟨sb, so + m, none⟩ = some (.string (bstr x)) := by rw [hx]; exact hsc m hml2
                have hxf := HLF.out.h2 x (by rw [hx]; exact List.getElem_mem hml2)
                have hxs : x ∈ ss := HS.out.2 x hxf.2 hxf.1
                have hhs := refHas_any FA ss x ss.length fc wr (HSR.out.below hbm) hn4
                rw [decide_eq_true hxs] at hhs
                have HHS := Lib.hid hhs
                have hmi : (m : Int) < (f.n : Int) := by omega
                have hm0 : (0 : Int) ≤ (m : Int) := by omega
                have hm4 : (m : Int) ≤ 4000000 := by have := HFF.out.small.2.2; omega
                rw [hSA] at a2
                clear hsc hx hxf hxs hhs hml hml2 hbM hbm hcl hm hSA
                go_wp2_with fail
                refine HHS.out.mono ?_
                rintro e V3 ⟨rfl, hb3⟩
                have HV3 := Lib.hid (below_then HM.out hb3)
                clear HHS hb3 a2 h1
                go_wp2_with fail
                go_roundw
                case rel => exact ⟨m + 1, by go_num, HML.out, HV3.out⟩
                case measure => have := HML.out; simp [intOf] <;> omega
              · have hmi : ¬ (m : Int) < (f.n : Int) := by omega
                clear hml hm hcl hbM hbm
                go_wp2_with fail
                go_roundw
                case rel => exact ⟨k + 1, by go_num, HLT.out, HBM.out⟩
                case measure => have := HLT.out; simp [intOf] <;> omega
      · have hki : ¬ (k : Int) < ((fs.length + 1 : Nat) : Int) := by omega
        have hkj : ¬ (k : Int) < (fs.length : Int) + 1 := by omega
        have a2 : wr.cell? ⟨fb, fo + 2, none⟩ = some (.slice f0.A 0 f0.c) := by
          have h := HFC.out wr hbr 0 f0 rfl 2 _ (by omega) rfl
          rw [show fo + (0 * 9 + 2) = fo + 2 from by omega, HN0.out] at h
          exact h
        have hpos : (0 : Int) < (fs.length : Int) + 1 := by omega
        have HR2 := Lib.hid (below_then (below_then HB1.out H5.out) hbr)
        clear hbr hlt hk
        go_wp2_with fail
        go_returns
        exact ⟨rfl, HR2.out⟩
end Go.Proofs.Ytpnihimoekkepaa
