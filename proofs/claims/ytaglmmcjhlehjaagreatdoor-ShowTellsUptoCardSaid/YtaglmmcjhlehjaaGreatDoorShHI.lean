/-
  An expression's text, by the document's answer: records, matches; whole.
  An expression's text, by the document's answer, whole.
-/
import Derived.Test.YtaglmmcjhlehjaaGreatDoorShG
namespace Go.Proofs.YtaglmmcjhlehjaaGreatDoor
open Go.ChangeShapes Go.WideShapes Go.ChangeAt Go.RowKit Go.Sort
set_option linter.unusedVariables false
set_option linter.unusedSimpArgs false
attribute [local irreducible] Go.wpQuiet


set_option maxRecDepth 100000 in
set_option maxHeartbeats 4000000 in
theorem refFields_any (w0 : World) (d : ExD) (l : List Ex) (hI : (Ex.mk d l).In w0) (hpn : d.pn = d.ln) (h30 : d.ln ≤ 30) (WW : ∀ x ∈ l, RShow w0 x) (LL : ∀ x ∈ l, x.sh.length + 2 ≤ x.wt) (hwt : (Ex.mk d l).wt ≤ 100000000) :
    RefAt 42 w0 d (fieldsTo d.labels (shAt l) d.ln) := by
  intro W hW
  have hb1 : Below W.heap.size W (W.alloc (.cells d.arr 25)) := (Below.refl _ _).alloc (Nat.le_refl _) _
  have hE := ex_box W d
  have HB1 := Lib.hid hb1
  have HW1 := Lib.hid (below_then hW hb1)
  have HI := Lib.hid hI
  have WW := Lib.hid WW
  have LL := Lib.hid LL
  have HPN := Lib.hid (And.intro hpn h30)
  have HLB := Lib.hid (show d.labels.length = d.ln from hI.labLen)
  have HLP := Lib.hid (show l.length = d.ln by rw [← hpn]; exact hI.len)
  have HLAB := Lib.hid (show Rd w0 1 d.lA d.ln (strs d.labels) from hI.lab)
  have HWT := Lib.hid (show 40 + 8 * d.ln + (d.labels.map List.length).sum + wtL l ≤ 100000000 by
    have h1 := own_ge d; have h3 : d.labels.length = d.ln := hI.labLen; unfold Ex.wt at hwt; omega)
  have hn9 : (d.ln : Int) ≤ 100 := by omega
  clear hI hpn h30 hwt hW hb1
  obtain ⟨bx, hbx⟩ : ∃ bx, W.heap.size = bx := ⟨_, rfl⟩
  rw [hbx] at hE
  go_enter Tryz.func42, Tryz.ntmps42
  go_wp2_with fail
  try rw [hbx]
  clear hbx
  generalize (W.alloc (.cells d.arr 25)) = w1 at *
  have HE := Lib.hid (fun V (h : Below w1.heap.size w1 V) => hE.lower h)
  clear hE
  go_loopw [3, 4] (fun v i wr => ∃ k : Nat, v = .string (bstr (fieldsTo d.labels (shAt l) k)) ∧ i = .int .i64 k ∧ k ≤ d.ln ∧ Below w1.heap.size w1 wr) (fun _ i _ => d.ln - (intOf i).toNat)
  case atStart => exact ⟨0, rfl, rfl, Nat.zero_le _, Below.refl _ _⟩
  case round =>
    obtain ⟨k, rfl, rfl, hk, hbr⟩ := hrel
    have HR := Lib.hid hbr
    have c5 := (HE.out _ hbr).c5
    by_cases hlt : k < d.ln
    · have hkl : k < l.length := by rw [HLP.out]; exact hlt
      have hkb : k < d.labels.length := by rw [HLB.out]; exact hlt
      obtain ⟨b1, o1, hlA, hcs⟩ := (HLAB.out.below (below_then HW1.out hbr)).str hkb
      have hc := hcs k hkb
      have c7 := (HE.out _ hbr).c7
      obtain ⟨pb, po, hpA, hAtP⟩ := HI.out.part (k := k) hkl
      have HIL := Lib.hid (And.intro (show d.pA = some ⟨pb, po, none⟩ from hpA) (show ∀ j (hj : j < l.length), (l[j]).d.At w0 pb (po + j * 8) from hAtP))
      rw [hlA] at c5
      rw [HIL.out.1, HPN.out.1] at c7

      have hAx := HIL.out.2 k hkl
      obtain ⟨p0, p1, p2, p3, p4, p5, p6, p7⟩ := hAx.lower (below_then HW1.out HR.out)
      have HWx := WW.out l[k] (List.getElem_mem hkl)
      have HN := Lib.hid (show fieldsTo d.labels (shAt l) (k + 1) = fieldsTo d.labels (shAt l) k ++ (if k = 0 then [] else [44, 32]) ++ d.labels[k] ++ [32, 61, 32] ++ l[k].sh by
        rw [show fieldsTo d.labels (shAt l) (k + 1) = fieldsTo d.labels (shAt l) k ++ (if k = 0 then [] else [44, 32]) ++ d.labels.getD k [] ++ [32, 61, 32] ++ shAt l k from rfl, getD_at hkb, shAt_get hkl])
      have HLF := Lib.hid (show (fieldsTo d.labels (shAt l) k).length + (d.labels[k]).length + (l[k].sh).length + 20 ≤ 900000000 by
        have h1 := fieldsTo_le d.labels (shAt l) k
        have h2 := sumTo_list d.labels (k + 1)
        rw [show sumTo (fun i => d.labels.getD i []) (k + 1) = sumTo (fun i => d.labels.getD i []) k + (d.labels.getD k []).length from rfl, getD_at hkb] at h2
        have h3 := sumTo_sh l LL.out (k + 1)
        rw [show sumTo (shAt l) (k + 1) = sumTo (shAt l) k + (shAt l k).length from rfl, shAt_get hkl] at h3
        have h4 := HWT.out
        have h5 := HPN.out.2
        omega)
      obtain ⟨x, hx⟩ : ∃ x, l[k] = x := ⟨_, rfl⟩
      rw [hx] at p0 p1 p2 p3 p4 p5 p6 p7 HWx HN HLF
      obtain ⟨y, hy⟩ : ∃ y, d.labels[k] = y := ⟨_, rfl⟩
      rw [hy] at hc HN HLF
      obtain ⟨F, hF⟩ : ∃ F, fieldsTo d.labels (shAt l) k = F := ⟨_, rfl⟩
      rw [hF] at HN HLF
      have HF := Lib.hid hF
      have CX := Lib.hid (RefAt.quiet HWx (below_then HW1.out HR.out))
      obtain ⟨s, hs⟩ : ∃ s, x.sh = s := ⟨_, rfl⟩
      rw [hs] at CX HN HLF
      obtain ⟨dx, hdx⟩ : ∃ dx, x.d = dx := ⟨_, rfl⟩
      rw [hdx] at p0 p1 p2 p3 p4 p5 p6 p7 CX

      have k5 := cell_regrown c5
      have k7 := cell_regrown c7
      have kc := cell_regrown hc
      have kp0 := cell_regrown p0
      have kp1 := cell_regrown p1
      have kp2 := cell_regrown p2
      have kp3 := cell_regrown p3
      have kp4 := cell_regrown p4
      have kp5 := cell_regrown p5
      have kp6 := cell_regrown p6
      have kp7 := cell_regrown p7
      have hki : (k : Int) < (d.ln : Int) := by omega
      have hk0 : (0 : Int) ≤ (k : Int) := by omega
      have hk9 : (k : Int) ≤ 100 := by omega
      rw [hF]
      clear hbr hx hy hF hs hdx hAx hcs hlA hpA hAtP HWx p0 p1 p2 p3 p4 p5 p6 p7 hc c7
      by_cases hk1 : k = 0
      · have qk : ¬ (0 : Int) < (k : Int) := by omega
        obtain ⟨y0, hy0⟩ : ∃ y0, F = y0 := ⟨_, rfl⟩
        have HLN := Lib.hid (show y0.length + y.length + s.length + 10 ≤ 900000000 by have := HLF.out; rw [← hy0]; omega)
        have HRES := HN.out
        rw [if_pos hk1, List.append_nil, hy0] at HRES
        rw [hy0]
        have A0 : ∀ w : World, (Op.stringOp .add (bstr y0) (bstr y)).run Tryz.prog w = .ok (.string (bstr (y0 ++ y))) w := addS y0 y (by have h1 := HLN.out; first | omega | (simp only [List.length_cons, List.length_nil]; omega))
        obtain ⟨x0, hx0⟩ : ∃ x : Str, y0 ++ y = x := ⟨_, rfl⟩
        have hxl0 : x0.length = y0.length + y.length := by rw [← hx0, List.length_append]
        rw [hx0] at A0
        have A1 : ∀ w : World, (Op.stringOp .add (bstr x0) ⟨#[32, 61, 32]⟩).run Tryz.prog w = .ok (.string (bstr (x0 ++ [32, 61, 32]))) w := addS x0 [32, 61, 32] (by have h1 := HLN.out; first | omega | (simp only [List.length_cons, List.length_nil]; omega))
        obtain ⟨x1, hx1⟩ : ∃ x : Str, x0 ++ [32, 61, 32] = x := ⟨_, rfl⟩
        have hxl1 : x1.length = x0.length + 3 := by rw [← hx1, List.length_append]; rfl
        rw [hx1] at A1
        have A2 : ∀ w : World, (Op.stringOp .add (bstr x1) (bstr s)).run Tryz.prog w = .ok (.string (bstr (x1 ++ s))) w := addS x1 s (by have h1 := HLN.out; first | omega | (simp only [List.length_cons, List.length_nil]; omega))
        obtain ⟨x2, hx2⟩ : ∃ x : Str, x1 ++ s = x := ⟨_, rfl⟩
        have hxl2 : x2.length = x1.length + s.length := by rw [← hx2, List.length_append]
        rw [hx2] at A2
        rw [hx0, hx1, hx2] at HRES
        have HRS := Lib.hid HRES
        clear HRES hx0 hx1 hx2 hxl0 hxl1 hxl2 hy0 hk1
        go_wp2_with fail
        refine wp_region_quiet_below (by kernel_rfl) (by kernel_rfl) ?_
        iterate 16 (quiet_step ((go_at_call 16; with_reducible exact CX.out _ _)))
        refine wpQuiet_nil ?_
        intro _ hw
        obtain ⟨⟨dq, osq⟩, hw''⟩ := hw
        subst hw''
        have hbq := below_regrown wr dq osq
        have H5 := Lib.hid (below_then HR.out hbq)
        clear hbq
        go_wp2_with fail
        go_roundw
        case rel => exact ⟨k + 1, congrArg (fun v => Value.string (bstr v)) HRS.out.symm, by go_num, hlt, H5.out⟩
        case measure => simp [intOf] <;> omega
      · have qk : (0 : Int) < (k : Int) := by omega
        have AF : ∀ w : World, (Op.stringOp .add (bstr F) ⟨#[44, 32]⟩).run Tryz.prog w = .ok (.string (bstr (F ++ [44, 32]))) w := addS F [44, 32] (by have := HLF.out; simp only [List.length_cons, List.length_nil]; omega)
        have HRES := HN.out
        rw [if_neg hk1] at HRES
        have hl0 : (F ++ [44, 32]).length = F.length + 2 := by simp
        obtain ⟨y0, hy0⟩ : ∃ y0, F ++ [44, 32] = y0 := ⟨_, rfl⟩
        rw [hy0] at AF HRES hl0
        have HLN := Lib.hid (show y0.length + y.length + s.length + 10 ≤ 900000000 by have := HLF.out; omega)
        have A0 : ∀ w : World, (Op.stringOp .add (bstr y0) (bstr y)).run Tryz.prog w = .ok (.string (bstr (y0 ++ y))) w := addS y0 y (by have h1 := HLN.out; first | omega | (simp only [List.length_cons, List.length_nil]; omega))
        obtain ⟨x0, hx0⟩ : ∃ x : Str, y0 ++ y = x := ⟨_, rfl⟩
        have hxl0 : x0.length = y0.length + y.length := by rw [← hx0, List.length_append]
        rw [hx0] at A0
        have A1 : ∀ w : World, (Op.stringOp .add (bstr x0) ⟨#[32, 61, 32]⟩).run Tryz.prog w = .ok (.string (bstr (x0 ++ [32, 61, 32]))) w := addS x0 [32, 61, 32] (by have h1 := HLN.out; first | omega | (simp only [List.length_cons, List.length_nil]; omega))
        obtain ⟨x1, hx1⟩ : ∃ x : Str, x0 ++ [32, 61, 32] = x := ⟨_, rfl⟩
        have hxl1 : x1.length = x0.length + 3 := by rw [← hx1, List.length_append]; rfl
        rw [hx1] at A1
        have A2 : ∀ w : World, (Op.stringOp .add (bstr x1) (bstr s)).run Tryz.prog w = .ok (.string (bstr (x1 ++ s))) w := addS x1 s (by have h1 := HLN.out; first | omega | (simp only [List.length_cons, List.length_nil]; omega))
        obtain ⟨x2, hx2⟩ : ∃ x : Str, x1 ++ s = x := ⟨_, rfl⟩
        have hxl2 : x2.length = x1.length + s.length := by rw [← hx2, List.length_append]
        rw [hx2] at A2
        rw [hx0, hx1, hx2] at HRES
        have HRS := Lib.hid HRES
        clear HRES hx0 hx1 hx2 hxl0 hxl1 hxl2 hy0 hk1
        go_wp2_with fail
        refine wp_region_quiet_below (by kernel_rfl) (by kernel_rfl) ?_
        iterate 16 (quiet_step ((go_at_call 16; with_reducible exact CX.out _ _)))
        refine wpQuiet_nil ?_
        intro _ hw
        obtain ⟨⟨dq, osq⟩, hw''⟩ := hw
        subst hw''
        have hbq := below_regrown wr dq osq
        have H5 := Lib.hid (below_then HR.out hbq)
        clear hbq
        go_wp2_with fail
        go_roundw
        case rel => exact ⟨k + 1, congrArg (fun v => Value.string (bstr v)) HRS.out.symm, by go_num, hlt, H5.out⟩
        case measure => simp [intOf] <;> omega
    · have hki : ¬ (k : Int) < (d.ln : Int) := by omega
      have HK := Lib.hid (show k = d.ln by omega)
      clear hbr
      go_wp2_with fail
      go_returns
      exact ⟨by rw [← HK.out]; rfl, below_then HB1.out HR.out⟩

set_option maxRecDepth 100000 in
set_option maxHeartbeats 8000000 in
theorem refArms_any (w0 : World) (d : ExD) (l : List Ex) (hI : (Ex.mk d l).In w0) (hpn : d.pn = d.ln + 1 + (if d.t = [] then 0 else 1)) (hnn : d.nn = d.ln) (h30 : d.ln ≤ 30) (WW : ∀ x ∈ l, RShow w0 x) (LL : ∀ x ∈ l, x.sh.length + 2 ≤ x.wt) (hwt : (Ex.mk d l).wt ≤ 100000000) :
    RefAt 43 w0 d (armsTo d.labels d.names (shAt l) d.ln ++ d.restF (shAt l)) := by
  intro W hW
  have hb1 : Below W.heap.size W (W.alloc (.cells d.arr 25)) := (Below.refl _ _).alloc (Nat.le_refl _) _
  have hE := ex_box W d
  have HB1 := Lib.hid hb1
  have HW1 := Lib.hid (below_then hW hb1)
  have HI := Lib.hid hI
  have WW := Lib.hid WW
  have LL := Lib.hid LL
  have HPN := Lib.hid (And.intro hpn (And.intro hnn h30))
  have HLB := Lib.hid (show d.labels.length = d.ln from hI.labLen)
  have HNB := Lib.hid (show d.names.length = d.nn from hI.namLen)
  have HLP := Lib.hid (show l.length = d.pn from hI.len)
  have HLAB := Lib.hid (show Rd w0 1 d.lA d.ln (strs d.labels) from hI.lab)
  have HNAM := Lib.hid (show Rd w0 1 d.nA d.nn (strs d.names) from hI.nam)
  have HWT := Lib.hid (show 40 + 8 * d.ln + 8 * d.ln + d.t.length + (d.labels.map List.length).sum + (d.names.map List.length).sum + wtL l ≤ 100000000 by
    have h1 := own_ge d; have h3 : d.labels.length = d.ln := hI.labLen; have h4 : d.names.length = d.nn := hI.namLen; unfold Ex.wt at hwt; omega)
  have hn9 : (d.ln : Int) ≤ 100 := by omega
  clear hI hpn hnn h30 hwt hW hb1
  obtain ⟨bx, hbx⟩ : ∃ bx, W.heap.size = bx := ⟨_, rfl⟩
  rw [hbx] at hE
  go_enter Tryz.func43, Tryz.ntmps43
  go_wp2_with fail
  try rw [hbx]
  clear hbx
  generalize (W.alloc (.cells d.arr 25)) = w1 at *
  have HE := Lib.hid (fun V (h : Below w1.heap.size w1 V) => hE.lower h)
  clear hE
  go_loopw [3, 4] (fun v i wr => ∃ k : Nat, v = .string (bstr (armsTo d.labels d.names (shAt l) k)) ∧ i = .int .i64 k ∧ k ≤ d.ln ∧ Below w1.heap.size w1 wr) (fun _ i _ => d.ln - (intOf i).toNat)
  case atStart => exact ⟨0, rfl, rfl, Nat.zero_le _, Below.refl _ _⟩
  case round =>
    obtain ⟨k, rfl, rfl, hk, hbr⟩ := hrel
    have HR := Lib.hid hbr
    have c5 := (HE.out _ hbr).c5
    by_cases hlt : k < d.ln
    · have hkl : k + 1 < l.length := by rw [HLP.out, HPN.out.1]; omega
      have hkb : k < d.labels.length := by rw [HLB.out]; exact hlt
      have hkn : k < d.names.length := by rw [HNB.out, HPN.out.2.1]; exact hlt
      obtain ⟨b1, o1, hlA, hcs⟩ := (HLAB.out.below (below_then HW1.out hbr)).str hkb
      have hc := hcs k hkb
      obtain ⟨b2, o2, hnA, hcs2⟩ := (HNAM.out.below (below_then HW1.out hbr)).str hkn
      have hc2 := hcs2 k hkn
      have c6 := (HE.out _ hbr).c6
      have c7 := (HE.out _ hbr).c7
      obtain ⟨pb, po, hpA, hAtP⟩ := HI.out.part (k := k + 1) hkl
      have HIL := Lib.hid (And.intro (show d.pA = some ⟨pb, po, none⟩ from hpA) (show ∀ j (hj : j < l.length), (l[j]).d.At w0 pb (po + j * 8) from hAtP))
      rw [hlA] at c5
      rw [hnA] at c6
      rw [HIL.out.1] at c7
      have hAx := HIL.out.2 (k + 1) hkl
      obtain ⟨p0, p1, p2, p3, p4, p5, p6, p7⟩ := hAx.lower (below_then HW1.out HR.out)
      have HWx := WW.out l[k + 1] (List.getElem_mem hkl)
      have HN := Lib.hid (show armsTo d.labels d.names (shAt l) (k + 1) = armsTo d.labels d.names (shAt l) k ++ [32, 124, 32] ++ d.labels[k] ++ [32] ++ d.names[k] ++ [32, 45, 62, 32] ++ l[k + 1].sh by
        rw [show armsTo d.labels d.names (shAt l) (k + 1) = armsTo d.labels d.names (shAt l) k ++ [32, 124, 32] ++ d.labels.getD k [] ++ [32] ++ d.names.getD k [] ++ [32, 45, 62, 32] ++ shAt l (k + 1) from rfl, getD_at hkb, getD_at hkn, shAt_get hkl])
      have HLF := Lib.hid (show (armsTo d.labels d.names (shAt l) k).length + (d.labels[k]).length + (d.names[k]).length + (l[k + 1].sh).length + 20 ≤ 900000000 by
        have h1 := armsTo_le d.labels d.names (shAt l) k
        have h2 := sumTo_list d.labels (k + 1)
        rw [show sumTo (fun i => d.labels.getD i []) (k + 1) = sumTo (fun i => d.labels.getD i []) k + (d.labels.getD k []).length from rfl, getD_at hkb] at h2
        have h6 := sumTo_list d.names (k + 1)
        rw [show sumTo (fun i => d.names.getD i []) (k + 1) = sumTo (fun i => d.names.getD i []) k + (d.names.getD k []).length from rfl, getD_at hkn] at h6
        have h3 := sumTo_sh l LL.out (k + 1 + 1)
        rw [show sumTo (shAt l) (k + 1 + 1) = sumTo (shAt l) (k + 1) + (shAt l (k + 1)).length from rfl, shAt_get hkl] at h3
        have h4 := HWT.out
        have h5 := HPN.out.2.2
        omega)
      obtain ⟨x, hx⟩ : ∃ x, l[k + 1] = x := ⟨_, rfl⟩
      rw [hx] at p0 p1 p2 p3 p4 p5 p6 p7 HWx HN HLF
      obtain ⟨y, hy⟩ : ∃ y, d.labels[k] = y := ⟨_, rfl⟩
      rw [hy] at hc HN HLF
      obtain ⟨z, hz⟩ : ∃ z, d.names[k] = z := ⟨_, rfl⟩
      rw [hz] at hc2 HN HLF
      obtain ⟨F, hF⟩ : ∃ F, armsTo d.labels d.names (shAt l) k = F := ⟨_, rfl⟩
      rw [hF] at HN HLF
      have HF := Lib.hid hF
      have CX := Lib.hid (RefAt.quiet HWx (below_then HW1.out HR.out))
      obtain ⟨s, hs⟩ : ∃ s, x.sh = s := ⟨_, rfl⟩
      rw [hs] at CX HN HLF
      obtain ⟨dx, hdx⟩ : ∃ dx, x.d = dx := ⟨_, rfl⟩
      rw [hdx] at p0 p1 p2 p3 p4 p5 p6 p7 CX
      have k5 := cell_regrown c5
      have k6 := cell_regrown c6
      have k7 := cell_regrown c7
      have kc := cell_regrown hc
      have kc2 := cell_regrown hc2
      have kp0 := cell_regrown p0
      have kp1 := cell_regrown p1
      have kp2 := cell_regrown p2
      have kp3 := cell_regrown p3
      have kp4 := cell_regrown p4
      have kp5 := cell_regrown p5
      have kp6 := cell_regrown p6
      have kp7 := cell_regrown p7
      have hki : (k : Int) < (d.ln : Int) := by omega
      have hkn2 : (k : Int) < (d.nn : Int) := by rw [HPN.out.2.1]; omega
      have hkp : (k : Int) + 1 < (d.pn : Int) := by rw [HPN.out.1]; omega
      have hk0 : (0 : Int) ≤ (k : Int) := by omega
      have hk1 : (0 : Int) ≤ (k : Int) + 1 := by omega
      have hk9 : (k : Int) ≤ 100 := by omega
      have hwr : IntKind.i64.wrap ((k : Int) + 1) = (k : Int) + 1 := by rw [IntKind.wrap_i64]; omega
      have htn : ((k : Int) + 1).toNat = k + 1 := by omega
      have HRES := HN.out
      rw [hF]
      clear hbr hx hy hz hF hs hdx hAx hcs hcs2 hlA hnA hpA hAtP HWx p0 p1 p2 p3 p4 p5 p6 p7 hc hc2 c6 c7
      have A0 : ∀ w : World, (Op.stringOp .add (bstr F) ⟨#[32, 124, 32]⟩).run Tryz.prog w = .ok (.string (bstr (F ++ [32, 124, 32]))) w := addS F [32, 124, 32] (by have h1 := HLF.out; first | omega | (simp only [List.length_cons, List.length_nil]; omega))
      obtain ⟨x0, hx0⟩ : ∃ x : Str, F ++ [32, 124, 32] = x := ⟨_, rfl⟩
      have hxl0 : x0.length = F.length + 3 := by rw [← hx0, List.length_append]; rfl
      rw [hx0] at A0
      have A1 : ∀ w : World, (Op.stringOp .add (bstr x0) (bstr y)).run Tryz.prog w = .ok (.string (bstr (x0 ++ y))) w := addS x0 y (by have h1 := HLF.out; first | omega | (simp only [List.length_cons, List.length_nil]; omega))
      obtain ⟨x1, hx1⟩ : ∃ x : Str, x0 ++ y = x := ⟨_, rfl⟩
      have hxl1 : x1.length = x0.length + y.length := by rw [← hx1, List.length_append]
      rw [hx1] at A1
      have A2 : ∀ w : World, (Op.stringOp .add (bstr x1) ⟨#[32]⟩).run Tryz.prog w = .ok (.string (bstr (x1 ++ [32]))) w := addS x1 [32] (by have h1 := HLF.out; first | omega | (simp only [List.length_cons, List.length_nil]; omega))
      obtain ⟨x2, hx2⟩ : ∃ x : Str, x1 ++ [32] = x := ⟨_, rfl⟩
      have hxl2 : x2.length = x1.length + 1 := by rw [← hx2, List.length_append]; rfl
      rw [hx2] at A2
      have A3 : ∀ w : World, (Op.stringOp .add (bstr x2) (bstr z)).run Tryz.prog w = .ok (.string (bstr (x2 ++ z))) w := addS x2 z (by have h1 := HLF.out; first | omega | (simp only [List.length_cons, List.length_nil]; omega))
      obtain ⟨x3, hx3⟩ : ∃ x : Str, x2 ++ z = x := ⟨_, rfl⟩
      have hxl3 : x3.length = x2.length + z.length := by rw [← hx3, List.length_append]
      rw [hx3] at A3
      have A4 : ∀ w : World, (Op.stringOp .add (bstr x3) ⟨#[32, 45, 62, 32]⟩).run Tryz.prog w = .ok (.string (bstr (x3 ++ [32, 45, 62, 32]))) w := addS x3 [32, 45, 62, 32] (by have h1 := HLF.out; first | omega | (simp only [List.length_cons, List.length_nil]; omega))
      obtain ⟨x4, hx4⟩ : ∃ x : Str, x3 ++ [32, 45, 62, 32] = x := ⟨_, rfl⟩
      have hxl4 : x4.length = x3.length + 4 := by rw [← hx4, List.length_append]; rfl
      rw [hx4] at A4
      have A5 : ∀ w : World, (Op.stringOp .add (bstr x4) (bstr s)).run Tryz.prog w = .ok (.string (bstr (x4 ++ s))) w := addS x4 s (by have h1 := HLF.out; first | omega | (simp only [List.length_cons, List.length_nil]; omega))
      obtain ⟨x5, hx5⟩ : ∃ x : Str, x4 ++ s = x := ⟨_, rfl⟩
      have hxl5 : x5.length = x4.length + s.length := by rw [← hx5, List.length_append]
      rw [hx5] at A5
      rw [hx0, hx1, hx2, hx3, hx4, hx5] at HRES
      have HRS := Lib.hid HRES
      clear HRES hx0 hx1 hx2 hx3 hx4 hx5 hxl0 hxl1 hxl2 hxl3 hxl4 hxl5
      go_wp2_with fail
      refine wp_region_quiet_below (by kernel_rfl) (by kernel_rfl) ?_
      iterate 25 (quiet_step ((go_at_call 16; with_reducible exact CX.out _ _)))
      refine wpQuiet_nil ?_
      intro _ hw
      obtain ⟨⟨dq, osq⟩, hw''⟩ := hw
      subst hw''
      have hbq := below_regrown wr dq osq
      have H5 := Lib.hid (below_then HR.out hbq)
      clear hbq
      go_wp2_with fail
      go_roundw
      case rel => exact ⟨k + 1, congrArg (fun v => Value.string (bstr v)) HRS.out.symm, by go_num, hlt, H5.out⟩
      case measure => simp [intOf] <;> omega
    · have hki : ¬ (k : Int) < (d.ln : Int) := by omega
      have HK := Lib.hid (show k = d.ln by omega)
      have HLA := Lib.hid (show (armsTo d.labels d.names (shAt l) k).length + d.t.length + wtL l + 40 ≤ 800000000 by
        have h1 := armsTo_le d.labels d.names (shAt l) k
        have h2 := sumTo_list d.labels k
        have h6 := sumTo_list d.names k
        have h3 := sumTo_sh l LL.out (k + 1)
        have h4 := HWT.out
        have h5 := HPN.out.2.2
        omega)
      obtain ⟨c0, c1, c2, c3, c4, _, c6, c7⟩ := HE.out _ hbr
      by_cases ht : d.t = []
      · have g : (bstr d.t).toList.isEmpty = true := by rw [ht, bstr_toList]; rfl
        have g5 : (!(bstr d.t).toList.isEmpty) = false := by rw [g]; rfl
        have HM := Lib.hid (show armsTo d.labels d.names (shAt l) d.ln ++ d.restF (shAt l) = armsTo d.labels d.names (shAt l) k by
          unfold ExD.restF
          rw [if_pos ht, HK.out, List.append_nil])
        clear ht hbr
        go_wp2_with fail
        go_returns
        exact ⟨by rw [HM.out]; rfl, below_then HB1.out HR.out⟩
      · have g : (bstr d.t).toList.isEmpty = false := str_empty ht
        have g5 : (!(bstr d.t).toList.isEmpty) = true := by rw [g]; rfl
        have hq : d.pn = (d.ln + 1) + 1 := by rw [HPN.out.1, if_neg ht]
        have hql : d.ln + 1 < l.length := by rw [HLP.out, hq]; omega
        obtain ⟨pb, po, hpA, hAtP⟩ := HI.out.part (k := d.ln + 1) hql
        have HIL := Lib.hid (And.intro (show d.pA = some ⟨pb, po, none⟩ from hpA) (show ∀ j (hj : j < l.length), (l[j]).d.At w0 pb (po + j * 8) from hAtP))
        rw [HIL.out.1, hq] at c7
        have hAx := HIL.out.2 (d.ln + 1) hql
        obtain ⟨p0, p1, p2, p3, p4, p5, p6, p7⟩ := hAx.lower (below_then HW1.out HR.out)
        have HWx := WW.out l[d.ln + 1] (List.getElem_mem hql)
        have HM := Lib.hid (show armsTo d.labels d.names (shAt l) d.ln ++ d.restF (shAt l) = armsTo d.labels d.names (shAt l) k ++ [32, 124, 32] ++ d.t ++ [32, 45, 62, 32] ++ l[d.ln + 1].sh by
          unfold ExD.restF
          rw [if_neg ht, HK.out, hq, Nat.add_sub_cancel, shAt_get hql]
          simp [List.append_assoc])
        have HLF := Lib.hid (show (armsTo d.labels d.names (shAt l) k).length + d.t.length + (l[d.ln + 1].sh).length + 30 ≤ 900000000 by
          have h1 := HLA.out
          have h2 := wtL_at l (d.ln + 1) hql LL.out
          have h3 := LL.out l[d.ln + 1] (List.getElem_mem hql)
          omega)
        obtain ⟨x, hx⟩ : ∃ x, l[d.ln + 1] = x := ⟨_, rfl⟩
        rw [hx] at p0 p1 p2 p3 p4 p5 p6 p7 HWx HM HLF
        obtain ⟨m, hm⟩ : ∃ m, d.ln + 1 = m := ⟨_, rfl⟩
        have hm9 : m ≤ 100 := by have := HPN.out.2.2; omega
        rw [hm] at c7 p0 p1 p2 p3 p4 p5 p6 p7
        obtain ⟨F, hF⟩ : ∃ F, armsTo d.labels d.names (shAt l) k = F := ⟨_, rfl⟩
        rw [hF] at HM HLF
        have CX := Lib.hid (RefAt.quiet HWx (below_then HW1.out HR.out))
        obtain ⟨s, hs⟩ : ∃ s, x.sh = s := ⟨_, rfl⟩
        rw [hs] at CX HM HLF
        obtain ⟨dx, hdx⟩ : ∃ dx, x.d = dx := ⟨_, rfl⟩
        rw [hdx] at p0 p1 p2 p3 p4 p5 p6 p7 CX
        obtain ⟨tt, htt⟩ : ∃ tt, d.t = tt := ⟨_, rfl⟩
        rw [htt] at c4 g g5 HM HLF
        have k4 := cell_regrown c4
        have k7 := cell_regrown c7
        have kp0 := cell_regrown p0
        have kp1 := cell_regrown p1
        have kp2 := cell_regrown p2
        have kp3 := cell_regrown p3
        have kp4 := cell_regrown p4
        have kp5 := cell_regrown p5
        have kp6 := cell_regrown p6
        have kp7 := cell_regrown p7
        have i1 : (m : Int) < (m : Int) + 1 := by omega
        have i2 : (0 : Int) ≤ (m : Int) := by omega
        have hwr : IntKind.i64.wrap (m : Int) = (m : Int) := by rw [IntKind.wrap_i64]; omega
        have HRES := HM.out
        rw [hF]
        clear hbr ht hq hx hm hF hs hdx htt hAx hpA hAtP HWx p0 p1 p2 p3 p4 p5 p6 p7 c0 c1 c2 c3 c6 c7
        have A0 : ∀ w : World, (Op.stringOp .add (bstr F) ⟨#[32, 124, 32]⟩).run Tryz.prog w = .ok (.string (bstr (F ++ [32, 124, 32]))) w := addS F [32, 124, 32] (by have h1 := HLF.out; first | omega | (simp only [List.length_cons, List.length_nil]; omega))
        obtain ⟨x0, hx0⟩ : ∃ x : Str, F ++ [32, 124, 32] = x := ⟨_, rfl⟩
        have hxl0 : x0.length = F.length + 3 := by rw [← hx0, List.length_append]; rfl
        rw [hx0] at A0
        have A1 : ∀ w : World, (Op.stringOp .add (bstr x0) (bstr tt)).run Tryz.prog w = .ok (.string (bstr (x0 ++ tt))) w := addS x0 tt (by have h1 := HLF.out; first | omega | (simp only [List.length_cons, List.length_nil]; omega))
        obtain ⟨x1, hx1⟩ : ∃ x : Str, x0 ++ tt = x := ⟨_, rfl⟩
        have hxl1 : x1.length = x0.length + tt.length := by rw [← hx1, List.length_append]
        rw [hx1] at A1
        have A2 : ∀ w : World, (Op.stringOp .add (bstr x1) ⟨#[32, 45, 62, 32]⟩).run Tryz.prog w = .ok (.string (bstr (x1 ++ [32, 45, 62, 32]))) w := addS x1 [32, 45, 62, 32] (by have h1 := HLF.out; first | omega | (simp only [List.length_cons, List.length_nil]; omega))
        obtain ⟨x2, hx2⟩ : ∃ x : Str, x1 ++ [32, 45, 62, 32] = x := ⟨_, rfl⟩
        have hxl2 : x2.length = x1.length + 4 := by rw [← hx2, List.length_append]; rfl
        rw [hx2] at A2
        have A3 : ∀ w : World, (Op.stringOp .add (bstr x2) (bstr s)).run Tryz.prog w = .ok (.string (bstr (x2 ++ s))) w := addS x2 s (by have h1 := HLF.out; first | omega | (simp only [List.length_cons, List.length_nil]; omega))
        obtain ⟨x3, hx3⟩ : ∃ x : Str, x2 ++ s = x := ⟨_, rfl⟩
        have hxl3 : x3.length = x2.length + s.length := by rw [← hx3, List.length_append]
        rw [hx3] at A3
        rw [hx0, hx1, hx2, hx3] at HRES
        have HRS := Lib.hid HRES
        clear HRES hx0 hx1 hx2 hx3 hxl0 hxl1 hxl2 hxl3
        go_wp2_with fail
        refine wp_region_quiet_below (by kernel_rfl) (by kernel_rfl) ?_
        iterate 17 (quiet_step ((go_at_call 16; with_reducible exact CX.out _ _)))
        refine wpQuiet_nil ?_
        intro _ hw
        obtain ⟨⟨dq, osq⟩, hw''⟩ := hw
        subst hw''
        have hbq := below_regrown wr dq osq
        have H5 := Lib.hid (below_then HR.out hbq)
        clear hbq
        go_wp2_with fail
        go_returns
        exact ⟨by rw [HRS.out]; rfl, below_then HB1.out H5.out⟩
end Go.Proofs.YtaglmmcjhlehjaaGreatDoor

namespace Go.Proofs.YtaglmmcjhlehjaaGreatDoor
open Go.ChangeShapes Go.WideShapes Go.ChangeAt Go.RowKit Go.Sort
set_option linter.unusedVariables false
set_option linter.unusedSimpArgs false
attribute [local irreducible] Go.wpQuiet


set_option maxRecDepth 100000 in
set_option maxHeartbeats 4000000 in
theorem refShow_1 (w0 : World) (d : ExD) (hk : d.kind = 1) (hT : Tab w0) (h0 : 0 ≤ d.n) (h1 : d.n ≤ 9223372036854775807) : RefAt 16 w0 d (Lib.itoa d.n) := by
  intro W hW
  have hb1 : Below W.heap.size W (W.alloc (.cells d.arr 25)) := (Below.refl _ _).alloc (Nat.le_refl _) _
  have HB1 := Lib.hid hb1
  have HW1 := Lib.hid (below_then hW hb1)
  obtain ⟨c0, c1, c2, c3, c4, c5, c6, c7⟩ := ex_box W d
  have q1 : (d.kind == 1) = true := by rw [hk]; rfl
  have HC := Lib.hid (Tryz.strconv_FormatInt_10 d.n (by omega) h1 (W.alloc (.cells d.arr 25)) (tab_below hT HW1.out))
  clear hW hb1 hk hT h0 h1
  go_enter Tryz.func16, Tryz.ntmps16
  go_wp2_with fail
  refine HC.out.mono ?_
  rintro e v1 ⟨rfl, k, os, hw1⟩
  have H1 := Lib.hid (show Below W.heap.size W v1 from below_then HB1.out (by rw [hw1]; exact below_growN k os))
  clear hw1 HC c0 c1 c2 c3 c4 c5 c6 c7
  go_wp2_with fail
  go_returns
  exact ⟨rfl, H1.out⟩

set_option maxRecDepth 100000 in
set_option maxHeartbeats 4000000 in
theorem refShow_2 (w0 : World) (d : ExD) (hk : d.kind = 2) (q : Str) (hq : quoteS d.s = some q) (hs : d.s.length ≤ 3000000) : RefAt 16 w0 d q := by
  intro W hW
  have hb1 : Below W.heap.size W (W.alloc (.cells d.arr 25)) := (Below.refl _ _).alloc (Nat.le_refl _) _
  have HB1 := Lib.hid hb1
  have HW1 := Lib.hid (below_then hW hb1)
  obtain ⟨c0, c1, c2, c3, c4, c5, c6, c7⟩ := ex_box W d
  have q1 : (d.kind == 1) = false := by rw [hk]; rfl
  have q2 : (d.kind == 2) = true := by rw [hk]; rfl
  have HC := Lib.hid (refQuote_any d.s (W.alloc (.cells d.arr 25)) hs)
  have HQ := Lib.hid hq
  clear hW hb1 hk hq hs
  go_enter Tryz.func16, Tryz.ntmps16
  go_wp2_with fail
  refine HC.out.mono ?_
  rintro e v1 ⟨q2, ok, rfl, rfl, hq2⟩
  have HE := Lib.hid (show q2 = q by
    rw [HQ.out] at hq2
    cases ok with
    | false => cases hq2
    | true => exact (Option.some.inj hq2).symm)
  clear hq2 HC c0 c1 c2 c3 c4 c5 c6 c7
  go_wp2_with fail
  go_returns
  exact ⟨by rw [HE.out]; rfl, HB1.out⟩

set_option maxRecDepth 100000 in
set_option maxHeartbeats 4000000 in
theorem refShow_3 (w0 : World) (d : ExD) (hk : d.kind = 3) : RefAt 16 w0 d d.s := by
  intro W hW
  have hb1 : Below W.heap.size W (W.alloc (.cells d.arr 25)) := (Below.refl _ _).alloc (Nat.le_refl _) _
  have HB1 := Lib.hid hb1
  have HW1 := Lib.hid (below_then hW hb1)
  obtain ⟨c0, c1, c2, c3, c4, c5, c6, c7⟩ := ex_box W d
  have q1 : (d.kind == 1) = false := by rw [hk]; rfl
  have q2 : (d.kind == 2) = false := by rw [hk]; rfl
  have q3 : (d.kind == 3) = true := by rw [hk]; rfl
  clear hW hb1 hk
  go_enter Tryz.func16, Tryz.ntmps16
  go_wp2_with fail
  go_returns
  exact ⟨rfl, HB1.out⟩

set_option maxRecDepth 100000 in
set_option maxHeartbeats 4000000 in
theorem refShow_22 (w0 : World) (d : ExD) (hk : d.kind = 22) : RefAt 16 w0 d [114, 101, 97, 100] := by
  intro W hW
  have hb1 : Below W.heap.size W (W.alloc (.cells d.arr 25)) := (Below.refl _ _).alloc (Nat.le_refl _) _
  have HB1 := Lib.hid hb1
  have HW1 := Lib.hid (below_then hW hb1)
  obtain ⟨c0, c1, c2, c3, c4, c5, c6, c7⟩ := ex_box W d
  have q1 : (d.kind == 1) = false := by rw [hk]; rfl
  have q2 : (d.kind == 2) = false := by rw [hk]; rfl
  have q3 : (d.kind == 3) = false := by rw [hk]; rfl
  have q4 : (d.kind == 4) = false := by rw [hk]; rfl
  have q5 : (d.kind == 5) = false := by rw [hk]; rfl
  have q6 : (d.kind == 6) = false := by rw [hk]; rfl
  have q7 : (d.kind == 7) = false := by rw [hk]; rfl
  have q8 : (d.kind == 8) = false := by rw [hk]; rfl
  have q9 : (d.kind == 9) = false := by rw [hk]; rfl
  have q10 : (d.kind == 10) = false := by rw [hk]; rfl
  have q11 : (d.kind == 11) = false := by rw [hk]; rfl
  have q12 : (d.kind == 12) = false := by rw [hk]; rfl
  have q13 : (d.kind == 13) = false := by rw [hk]; rfl
  have q14 : (d.kind == 14) = false := by rw [hk]; rfl
  have q15 : (d.kind == 15) = false := by rw [hk]; rfl
  have q16 : (d.kind == 16) = false := by rw [hk]; rfl
  have q17 : (d.kind == 17) = false := by rw [hk]; rfl
  have q18 : (d.kind == 18) = false := by rw [hk]; rfl
  have q19 : (d.kind == 19) = false := by rw [hk]; rfl
  have q20 : (d.kind == 20) = false := by rw [hk]; rfl
  have q21 : (d.kind == 21) = false := by rw [hk]; rfl
  clear hW hb1 hk
  go_enter Tryz.func16, Tryz.ntmps16
  go_wp2_with fail
  go_returns
  exact ⟨rfl, HB1.out⟩

set_option maxRecDepth 100000 in
set_option maxHeartbeats 4000000 in
theorem refShow_8 (w0 : World) (d : ExD) (hk : d.kind = 8) (r : Str) (hr : r.length ≤ 800000000) (HF : RefAt 42 w0 d r) : RefAt 16 w0 d ([123] ++ r ++ [125]) := by
  intro W hW
  have hb1 : Below W.heap.size W (W.alloc (.cells d.arr 25)) := (Below.refl _ _).alloc (Nat.le_refl _) _
  have HB1 := Lib.hid hb1
  have HW1 := Lib.hid (below_then hW hb1)
  obtain ⟨c0, c1, c2, c3, c4, c5, c6, c7⟩ := ex_box W d
  have q1 : (d.kind == 1) = false := by rw [hk]; rfl
  have q2 : (d.kind == 2) = false := by rw [hk]; rfl
  have q3 : (d.kind == 3) = false := by rw [hk]; rfl
  have q4 : (d.kind == 4) = false := by rw [hk]; rfl
  have q5 : (d.kind == 5) = false := by rw [hk]; rfl
  have q6 : (d.kind == 6) = false := by rw [hk]; rfl
  have q7 : (d.kind == 7) = false := by rw [hk]; rfl
  have q8 : (d.kind == 8) = true := by rw [hk]; rfl
  have A0 : ∀ w : World, (Op.stringOp .add ⟨#[123]⟩ (bstr r)).run Tryz.prog w = .ok (.string (bstr ([123] ++ r))) w := addS [123] r (by simp only [List.length_cons, List.length_nil]; omega)
  have A1 : ∀ w : World, (Op.stringOp .add (bstr ([123] ++ r)) ⟨#[125]⟩).run Tryz.prog w = .ok (.string (bstr ([123] ++ r ++ [125]))) w := addS ([123] ++ r) [125] (by simp only [List.length_append, List.length_cons, List.length_nil]; omega)
  obtain ⟨x0, hx0⟩ : ∃ x : Str, [123] ++ r = x := ⟨_, rfl⟩
  rw [hx0] at A0 A1 ⊢
  obtain ⟨x1, hx1⟩ : ∃ x : Str, x0 ++ [125] = x := ⟨_, rfl⟩
  rw [hx1] at A1 ⊢
  have HC := Lib.hid (HF _ HW1.out)
  clear hW hb1 hk hr HF hx0 hx1
  go_enter Tryz.func16, Tryz.ntmps16
  go_wp2_with fail
  refine HC.out.mono ?_
  rintro e v1 ⟨rfl, hb2⟩
  have H1 := Lib.hid (below_then HB1.out hb2)
  clear hb2 HC c0 c1 c2 c3 c4 c5 c6 c7
  go_wp2_with fail
  go_returns
  exact ⟨rfl, H1.out⟩

set_option maxRecDepth 100000 in
set_option maxHeartbeats 4000000 in
theorem refShow_14 (w0 : World) (d : ExD) (hk : d.kind = 14) (x : Ex) (ra : Str) (pb po n : Nat) (hpA : d.pA = some ⟨pb, po, none⟩) (hpn : d.pn = n) (hn0 : 0 < n) (hAx : x.d.At w0 pb po) (s0 : Str) (hs : x.sh = s0) (hlen : s0.length + ra.length + 60 ≤ 900000000) (HX : RShow w0 x) (HM : RefAt 43 w0 d ra) (R : Str) (hR : R = [109, 97, 116, 99, 104, 32] ++ s0 ++ [32, 119, 105, 116, 104] ++ ra ++ [32, 101, 110, 100]) : RefAt 16 w0 d R := by
  intro W hW
  have hb1 : Below W.heap.size W (W.alloc (.cells d.arr 25)) := (Below.refl _ _).alloc (Nat.le_refl _) _
  have HB1 := Lib.hid hb1
  have HW1 := Lib.hid (below_then hW hb1)
  obtain ⟨c0, c1, c2, c3, c4, c5, c6, c7⟩ := ex_box W d
  have q1 : (d.kind == 1) = false := by rw [hk]; rfl
  have q2 : (d.kind == 2) = false := by rw [hk]; rfl
  have q3 : (d.kind == 3) = false := by rw [hk]; rfl
  have q4 : (d.kind == 4) = false := by rw [hk]; rfl
  have q5 : (d.kind == 5) = false := by rw [hk]; rfl
  have q6 : (d.kind == 6) = false := by rw [hk]; rfl
  have q7 : (d.kind == 7) = false := by rw [hk]; rfl
  have q8 : (d.kind == 8) = false := by rw [hk]; rfl
  have q9 : (d.kind == 9) = false := by rw [hk]; rfl
  have q10 : (d.kind == 10) = false := by rw [hk]; rfl
  have q11 : (d.kind == 11) = false := by rw [hk]; rfl
  have q12 : (d.kind == 12) = false := by rw [hk]; rfl
  have q13 : (d.kind == 13) = false := by rw [hk]; rfl
  have q14 : (d.kind == 14) = true := by rw [hk]; rfl
  have HN := Lib.hid hlen
  have A0 : ∀ w : World, (Op.stringOp .add ⟨#[109, 97, 116, 99, 104, 32]⟩ (bstr (s0))).run Tryz.prog w = .ok (.string (bstr ([109, 97, 116, 99, 104, 32] ++ s0))) w := addS ([109, 97, 116, 99, 104, 32]) (s0) (by have h := HN.out; simp only [List.length_append, List.length_cons, List.length_nil]; omega)
  have A1 : ∀ w : World, (Op.stringOp .add (bstr ([109, 97, 116, 99, 104, 32] ++ s0)) ⟨#[32, 119, 105, 116, 104]⟩).run Tryz.prog w = .ok (.string (bstr ([109, 97, 116, 99, 104, 32] ++ s0 ++ [32, 119, 105, 116, 104]))) w := addS ([109, 97, 116, 99, 104, 32] ++ s0) ([32, 119, 105, 116, 104]) (by have h := HN.out; simp only [List.length_append, List.length_cons, List.length_nil]; omega)
  have A2 : ∀ w : World, (Op.stringOp .add (bstr ([109, 97, 116, 99, 104, 32] ++ s0 ++ [32, 119, 105, 116, 104])) (bstr (ra))).run Tryz.prog w = .ok (.string (bstr ([109, 97, 116, 99, 104, 32] ++ s0 ++ [32, 119, 105, 116, 104] ++ ra))) w := addS ([109, 97, 116, 99, 104, 32] ++ s0 ++ [32, 119, 105, 116, 104]) (ra) (by have h := HN.out; simp only [List.length_append, List.length_cons, List.length_nil]; omega)
  have A3 : ∀ w : World, (Op.stringOp .add (bstr ([109, 97, 116, 99, 104, 32] ++ s0 ++ [32, 119, 105, 116, 104] ++ ra)) ⟨#[32, 101, 110, 100]⟩).run Tryz.prog w = .ok (.string (bstr ([109, 97, 116, 99, 104, 32] ++ s0 ++ [32, 119, 105, 116, 104] ++ ra ++ [32, 101, 110, 100]))) w := addS ([109, 97, 116, 99, 104, 32] ++ s0 ++ [32, 119, 105, 116, 104] ++ ra) ([32, 101, 110, 100]) (by have h := HN.out; simp only [List.length_append, List.length_cons, List.length_nil]; omega)
  have HR : R = [109, 97, 116, 99, 104, 32] ++ s0 ++ [32, 119, 105, 116, 104] ++ ra ++ [32, 101, 110, 100] := by exact hR
  obtain ⟨x0, hx0⟩ : ∃ x : Str, [109, 97, 116, 99, 104, 32] ++ s0 = x := ⟨_, rfl⟩
  rw [hx0] at A0 A1 A2 A3 HR
  clear hx0
  obtain ⟨x1, hx1⟩ : ∃ x : Str, x0 ++ [32, 119, 105, 116, 104] = x := ⟨_, rfl⟩
  rw [hx1] at A1 A2 A3 HR
  clear hx1
  obtain ⟨x2, hx2⟩ : ∃ x : Str, x1 ++ ra = x := ⟨_, rfl⟩
  rw [hx2] at A2 A3 HR
  clear hx2
  obtain ⟨x3, hx3⟩ : ∃ x : Str, x2 ++ [32, 101, 110, 100] = x := ⟨_, rfl⟩
  rw [hx3] at A3 HR
  clear hx3
  have HR := Lib.hid HR
  rw [HR.out]
  rw [hpA, hpn] at c7
  obtain ⟨p0, p1, p2, p3, p4, p5, p6, p7⟩ := hAx.lower HW1.out
  have CX := Lib.hid (HX.quiet HW1.out)
  have CM := Lib.hid (HM.quiet HW1.out)
  rw [hs] at CX
  have earr : d.arr = #[.int .i64 d.kind, .int .i64 d.at_, .int .i64 d.n, .string (bstr d.s), .string (bstr d.t), .slice d.lA d.ln d.lc, .slice d.nA d.nn d.nc, .slice (some ⟨pb, po, none⟩) n d.pc] := by rw [← hpA, ← hpn]
  have HEA := Lib.hid earr
  obtain ⟨dx, hdx⟩ : ∃ dx, x.d = dx := ⟨_, rfl⟩
  rw [hdx] at p0 p1 p2 p3 p4 p5 p6 p7 CX
  have kp0 := cell_regrown p0
  have kp1 := cell_regrown p1
  have kp2 := cell_regrown p2
  have kp3 := cell_regrown p3
  have kp4 := cell_regrown p4
  have kp5 := cell_regrown p5
  have kp6 := cell_regrown p6
  have kp7 := cell_regrown p7
  have kc0 := cell_regrown c0
  have kc1 := cell_regrown c1
  have kc2 := cell_regrown c2
  have kc3 := cell_regrown c3
  have kc4 := cell_regrown c4
  have kc5 := cell_regrown c5
  have kc6 := cell_regrown c6
  have kc7 := cell_regrown c7
  have i0 : (0 : Int) < (n : Int) := by omega
  clear hW hb1 hk hpA hpn hAx hs hlen HX HM hR hdx earr p0 p1 p2 p3 p4 p5 p6 p7 c1 c2 c3 c4 c5 c6 c7
  go_enter Tryz.func16, Tryz.ntmps16
  go_wp2_with fail
  generalize (W.alloc (.cells d.arr 25)) = w1 at *
  rw [HEA.out] at CM
  refine wp_region_quiet_below (by kernel_rfl) (by kernel_rfl) ?_
  iterate 12 (quiet_step ((first | (go_at_call 16; with_reducible exact CX.out _ _) | (go_at_call 43; with_reducible exact CM.out _ _))))
  refine wpQuiet_nil ?_
  intro _ hw
  obtain ⟨⟨dq, osq⟩, hw''⟩ := hw
  subst hw''
  have hbq := below_regrown w1 dq osq
  go_wp2_with fail
  go_returns
  exact ⟨rfl, below_then HB1.out hbq⟩

theorem refShow_any (w0 : World) (hT : Tab w0) : ∀ (e : Ex), e.In w0 → e.fineE = true → e.Rg → e.Sm → e.wt ≤ 100000000 → RShow w0 e
  | .mk d l, hI, hf, hr, hm, hw => by
    have hF := fields_of (fine_own hf)
    have hwx : ∀ x ∈ l, x.wt ≤ 100000000 := fun x hx => by
      have h1 : ∀ (m : List Ex), x ∈ m → x.wt ≤ wtL m := by
        intro m hm
        induction m with
        | nil => cases hm
        | cons y r ih =>
          simp only [wtL]
          rcases List.mem_cons.1 hm with rfl | h
          · omega
          · have := ih h; omega
      have h2 := h1 l hx
      have h3 : (Ex.mk d l).wt = d.own + wtL l := rfl
      omega
    have WW : ∀ x ∈ l, RShow w0 x := fun x hx => refShow_any w0 hT x (hI.sub x hx) (fine_sub hf x hx) (hr.sub x hx) (hm.sub x hx) (hwx x hx)
    have LL : ∀ x ∈ l, x.sh.length + 2 ≤ x.wt := fun x hx => sh_le w0 x (hI.sub x hx) (fine_sub hf x hx) (hr.sub x hx)
    have PP : ∀ x ∈ l, RP w0 x := fun x hx => refP_any w0 x (by have := LL x hx; have := hwx x hx; omega) (WW x hx)
    have hlen : l.length = d.pn := hI.len
    have hs : d.s.length ≤ 3000000 := hm.s
    have ho := own_ge d
    have hwt : (Ex.mk d l).wt = d.own + wtL l := rfl
    have hself := sh_le w0 (.mk d l) hI hf hr
    show RefAt _ w0 d (Ex.mk d l).sh
    rw [sh_mk]
    have h30 : d.kind = 8 ∨ d.kind = 14 → d.ln ≤ 30 := by
      intro hk
      have h3 := hF.lists
      have hll : d.labels.length = d.ln := hI.labLen
      unfold ExD.listsB at h3
      rcases hk with hk | hk
      · rw [if_pos hk] at h3
        simp only [Bool.and_eq_true, decide_eq_true_eq] at h3
        have := labB_len h3.1
        omega
      · rw [if_neg (by omega), if_pos hk] at h3
        simp only [Bool.and_eq_true, decide_eq_true_eq] at h3
        have := labB_len h3.1.1.1
        omega
    rcases kinds_of hF with k | k | k | k | k | k | k
    · unfold ExD.shF; rw [if_pos k]
      exact refShow_1 w0 d k hT (hF.n0 k) hr.n
    · unfold ExD.shF; rw [if_neg (by omega), if_pos k]
      have h1 := hF.s
      unfold ExD.sB at h1
      rw [if_neg (by omega), if_neg (by omega), if_pos k] at h1
      obtain ⟨q, hq⟩ := Option.isSome_iff_exists.1 h1
      rw [hq]
      exact refShow_2 w0 d k q hq hs
    · unfold ExD.shF; rw [if_neg (by omega), if_neg (by omega), if_pos k]
      exact refShow_3 w0 d k
    · unfold ExD.shF; rw [if_neg (by omega), if_neg (by omega), if_neg (by omega), if_pos k]
      exact refShow_22 w0 d k
    · have hb := k
      unfold braceB at k
      have k := of_decide_eq_true k
      rcases k with k | k | k
      · rw [sh_mk] at hself
        unfold ExD.shF at hself ⊢
        rw [if_neg (by omega), if_neg (by omega), if_neg (by omega), if_neg (by omega), if_pos hb] at hself ⊢
        unfold ExD.bracesF at hself ⊢
        rw [if_pos k] at hself ⊢
        exact refShow_8 w0 d k _ (by simp only [List.length_append, List.length_cons, List.length_nil] at hself; omega) (refFields_any w0 d l hI (parts_rec hF k).1 (h30 (.inl k)) WW LL hw)
      · obtain ⟨a, c, rfl, hp⟩ := parts_two hF hlen (by omega)
        exact refShow_10 w0 d a c hI k hp hw (LL a (by simp)) (WW a (by simp)) (PP a (by simp)) (LL c (by simp)) (WW c (by simp)) (PP c (by simp))
      · obtain ⟨a, c, rfl, hp⟩ := parts_two hF hlen (by omega)
        exact refShow_12 w0 d a c hI k hp hw (LL a (by simp)) (WW a (by simp)) (PP a (by simp)) (LL c (by simp)) (WW c (by simp)) (PP c (by simp))
    · have hb := k
      unfold blockB at k
      have k := of_decide_eq_true k
      rcases k with k | k | k | k | k
      · obtain ⟨a, rfl, hp⟩ := parts_one hF hlen (by omega)
        exact refShow_4 w0 d a hI k hp hw (LL a (by simp)) (WW a (by simp)) (PP a (by simp))
      · obtain ⟨a, c, rfl, hp⟩ := parts_two hF hlen (by omega)
        exact refShow_6 w0 d a c hI k hp hw (LL a (by simp)) (WW a (by simp)) (PP a (by simp)) (LL c (by simp)) (WW c (by simp)) (PP c (by simp))
      · obtain ⟨a, c, rfl, hp⟩ := parts_two hF hlen (by omega)
        exact refShow_7 w0 d a c hI k hp hw (LL a (by simp)) (WW a (by simp)) (PP a (by simp)) (LL c (by simp)) (WW c (by simp)) (PP c (by simp))
      · obtain ⟨a, c, f, rfl, hp⟩ := parts_three hF hlen (by omega)
        exact refShow_15 w0 d a c f hI k hp hw (LL a (by simp)) (WW a (by simp)) (PP a (by simp)) (LL c (by simp)) (WW c (by simp)) (PP c (by simp)) (LL f (by simp)) (WW f (by simp)) (PP f (by simp))
      · obtain ⟨h4, h5, h6⟩ := parts_match hF k (by have := h30 (.inr k); omega)
        have hp0 : 0 < l.length := by rw [hlen, h4]; omega
        obtain ⟨pb, po, hpA, hAtP⟩ := hI.part (k := 0) hp0
        have hA0 : (l[0]).d.At w0 pb po := by have h := hAtP 0 hp0; simpa [Ex.l] using h
        have nb : ¬ braceB d.kind = true := by unfold braceB; rw [decide_eq_true_eq]; omega
        rw [sh_mk] at hself
        have e1 : d.shF (shAt l) (paAt l) = ([109, 97, 116, 99, 104, 32] : Str) ++ (l[0]).sh ++ [32, 119, 105, 116, 104] ++ (armsTo d.labels d.names (shAt l) d.ln ++ d.restF (shAt l)) ++ [32, 101, 110, 100] := by
          unfold ExD.shF
          rw [if_neg (by omega), if_neg (by omega), if_neg (by omega), if_neg (by omega), if_neg nb, if_pos hb]
          unfold ExD.blockF
          rw [if_neg (by omega), if_neg (by omega), if_neg (by omega), if_neg (by omega)]
          unfold ExD.matchF
          rw [shAt_get hp0]
          simp [List.append_assoc]
        rw [e1] at hself ⊢
        exact refShow_14 w0 d k (l[0]) _ pb po d.pn hpA rfl (by rw [← hlen]; exact hp0) hA0 _ rfl (by simp only [List.length_append, List.length_cons, List.length_nil] at hself ⊢; omega) (WW _ (List.getElem_mem hp0)) (refArms_any w0 d l hI h4 h5 (h30 (.inr k)) WW LL hw) _ rfl
    · rcases k with k | k | k | k | k | k | k | k | k | k
      · obtain ⟨a, rfl, hp⟩ := parts_one hF hlen (by omega)
        exact refShow_9 w0 d a hI k hp hw (LL a (by simp)) (WW a (by simp)) (PP a (by simp))
      · obtain ⟨a, rfl, hp⟩ := parts_one hF hlen (by omega)
        exact refShow_11 w0 d a hI k hp hw (LL a (by simp)) (WW a (by simp)) (PP a (by simp))
      · obtain ⟨a, rfl, hp⟩ := parts_one hF hlen (by omega)
        exact refShow_13 w0 d a hI k hp hw (LL a (by simp)) (WW a (by simp)) (PP a (by simp))
      · obtain ⟨a, rfl, hp⟩ := parts_one hF hlen (by omega)
        exact refShow_17 w0 d a hI k hp hw (LL a (by simp)) (WW a (by simp)) (PP a (by simp))
      · obtain ⟨a, rfl, hp⟩ := parts_one hF hlen (by omega)
        exact refShow_18 w0 d a hI k hp hw (LL a (by simp)) (WW a (by simp)) (PP a (by simp))
      · obtain ⟨a, rfl, hp⟩ := parts_one hF hlen (by omega)
        exact refShow_20 w0 d a hI k hp hw (LL a (by simp)) (WW a (by simp)) (PP a (by simp))
      · obtain ⟨a, rfl, hp⟩ := parts_one hF hlen (by omega)
        exact refShow_21 w0 d a hI k hp hw (LL a (by simp)) (WW a (by simp)) (PP a (by simp))
      · obtain ⟨a, c, rfl, hp⟩ := parts_two hF hlen (by omega)
        exact refShow_5 w0 d a c hI k hp hw (LL a (by simp)) (WW a (by simp)) (PP a (by simp)) (LL c (by simp)) (WW c (by simp)) (PP c (by simp))
      · obtain ⟨a, c, rfl, hp⟩ := parts_two hF hlen (by omega)
        exact refShow_16 w0 d a c hI k hp hw (LL a (by simp)) (WW a (by simp)) (PP a (by simp)) (LL c (by simp)) (WW c (by simp)) (PP c (by simp))
      · obtain ⟨a, c, rfl, hp⟩ := parts_two hF hlen (by omega)
        exact refShow_19 w0 d a c hI k hp hw (LL a (by simp)) (WW a (by simp)) (PP a (by simp)) (LL c (by simp)) (WW c (by simp)) (PP c (by simp))
end Go.Proofs.YtaglmmcjhlehjaaGreatDoor
