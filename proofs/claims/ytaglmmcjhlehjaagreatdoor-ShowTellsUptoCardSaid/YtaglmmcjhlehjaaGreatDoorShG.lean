/-
  An expression's text, by the document's answer: kinds with so many parts.
-/
import Derived.Test.YtaglmmcjhlehjaaGreatDoorShEF
namespace Go.Proofs.YtaglmmcjhlehjaaGreatDoor
open Go.ChangeShapes Go.WideShapes Go.ChangeAt Go.RowKit Go.Sort
set_option linter.unusedVariables false
set_option linter.unusedSimpArgs false
attribute [local irreducible] Go.wpQuiet

theorem addS (a b : Str) (h : a.length + b.length ≤ 1000000000) : ∀ w : World, (Op.stringOp .add (bstr a) (bstr b)).run Tryz.prog w = .ok (.string (bstr (a ++ b))) w := fun w => by
  have h := run_string_add_sum (P := Tryz.prog) (w := w) (bstr a) (bstr b) (by rw [bstr_size, bstr_size]; omega)
  rw [bstr_app] at h; exact h
/-- What the document's Show, and its p, tell of an expression, wherever its memory stands. -/
def RefAt (F : FuncId) (w0 : World) (d : ExD) (r : Str) : Prop := ∀ W : World, Below w0.heap.size w0 W → Calls Tryz.prog F #[.agg d.arr] W fun e w' => e = .returned (.string (bstr r)) ∧ Below W.heap.size W w'
abbrev RShow (w0 : World) (x : Ex) : Prop := RefAt 16 w0 x.d x.sh
abbrev RP (w0 : World) (x : Ex) : Prop := RefAt 41 w0 x.d x.pa
theorem RefAt.quiet {F : FuncId} {w0 : World} {d : ExD} {r : Str} (h : RefAt F w0 d r) {w : World} (hb : Below w0.heap.size w0 w) : ∀ dd os, Calls Tryz.prog F #[.agg d.arr] (grow (redrawn w dd) os) fun e w'' => e = .returned (.string (bstr r)) ∧ ∃ p : Regrown, w'' = grow (redrawn w p.d) p.os :=
  fun dd os => Calls.regrown_of ((h (grow (redrawn w dd) os) (below_then hb (below_regrown w dd os))).mono fun e w' hh => ⟨hh.1, hh.2⟩)
theorem wt_le_one {d : ExD} {a : Ex} (h : (Ex.mk d [a]).wt ≤ 100000000) (La : a.sh.length + 2 ≤ a.wt) : 40 + 2 * d.s.length + d.t.length + a.sh.length + a.pa.length ≤ 900000000 := by
  have h1 := own_ge d; have h2 := pa_le a; rw [wt_one] at h; omega
theorem wt_le_two {d : ExD} {a c : Ex} (h : (Ex.mk d [a, c]).wt ≤ 100000000) (La : a.sh.length + 2 ≤ a.wt) (Lc : c.sh.length + 2 ≤ c.wt) : 40 + 2 * d.s.length + d.t.length + a.sh.length + a.pa.length + c.sh.length + c.pa.length ≤ 900000000 := by
  have h1 := own_ge d; have h2 := pa_le a; have h3 := pa_le c; rw [wt_two] at h; omega
theorem wt_le_three {d : ExD} {a c f : Ex} (h : (Ex.mk d [a, c, f]).wt ≤ 100000000) (La : a.sh.length + 2 ≤ a.wt) (Lc : c.sh.length + 2 ≤ c.wt) (Lf : f.sh.length + 2 ≤ f.wt) : 40 + 2 * d.s.length + d.t.length + a.sh.length + a.pa.length + c.sh.length + c.pa.length + f.sh.length + f.pa.length ≤ 900000000 := by
  have h1 := own_ge d; have h2 := pa_le a; have h3 := pa_le c; have h4 := pa_le f; rw [wt_three] at h; omega
theorem three_at {w0 : World} {d : ExD} {a c f : Ex} (h : (Ex.mk d [a, c, f]).In w0) : ∃ pb po, d.pA = some ⟨pb, po, none⟩ ∧ a.d.At w0 pb po ∧ c.d.At w0 pb (po + 8) ∧ f.d.At w0 pb (po + 16) := by
  obtain ⟨pb, po, h1, h2⟩ := h.part (k := 0) (by simp [Ex.l])
  exact ⟨pb, po, h1, by have := h2 0 (by simp [Ex.l]); simpa [Ex.l] using this, by have := h2 1 (by simp [Ex.l]); simpa [Ex.l] using this, by have := h2 2 (by simp [Ex.l]); simpa [Ex.l] using this⟩

set_option maxRecDepth 100000 in
set_option maxHeartbeats 2000000 in
theorem refP_any (w0 : World) (x : Ex) (hx : x.sh.length ≤ 100000000) (h : RShow w0 x) : RP w0 x := by
  intro W hW
  obtain ⟨d, hd⟩ : ∃ d, x.d = d := ⟨_, rfl⟩
  have hb1 : Below W.heap.size W (W.alloc (.cells d.arr 25)) := (Below.refl _ _).alloc (Nat.le_refl _) _
  have HC := Lib.hid (h _ (below_then hW hb1))
  have HB1 := Lib.hid hb1
  have HP0 : x.pa = brk x.d.kind x.sh := rfl
  rw [hd] at HC HP0 ⊢
  obtain ⟨c0, c1, c2, c3, c4, c5, c6, c7⟩ := ex_box W d
  clear h hW hb1 hd
  by_cases k1 : d.kind = 1
  · have HP := Lib.hid (show x.pa = x.sh by rw [HP0]; unfold brk bareB; rw [decide_eq_true (by omega)]; rfl)
    have q1 : (d.kind == 1) = true := by rw [k1]; rfl
    clear HP0 k1
    go_enter Tryz.func41, Tryz.ntmps41
    go_wp2_with fail
    refine HC.out.mono ?_
    rintro e w2 ⟨rfl, hb2⟩
    have H2 := Lib.hid (below_then HB1.out hb2)
    clear hb2 c0 c1 c2 c3 c4 c5 c6 c7
    go_wp2_with fail
    go_returns
    exact ⟨by rw [HP.out]; rfl, H2.out⟩
  by_cases k2 : d.kind = 2
  · have HP := Lib.hid (show x.pa = x.sh by rw [HP0]; unfold brk bareB; rw [decide_eq_true (by omega)]; rfl)
    have q1 : (d.kind == 1) = false := by rw [k2]; rfl
    have q2 : (d.kind == 2) = true := by rw [k2]; rfl
    clear HP0 k1 k2
    go_enter Tryz.func41, Tryz.ntmps41
    go_wp2_with fail
    refine HC.out.mono ?_
    rintro e w2 ⟨rfl, hb2⟩
    have H2 := Lib.hid (below_then HB1.out hb2)
    clear hb2 c0 c1 c2 c3 c4 c5 c6 c7
    go_wp2_with fail
    go_returns
    exact ⟨by rw [HP.out]; rfl, H2.out⟩
  by_cases k3 : d.kind = 3
  · have HP := Lib.hid (show x.pa = x.sh by rw [HP0]; unfold brk bareB; rw [decide_eq_true (by omega)]; rfl)
    have q1 : (d.kind == 1) = false := by rw [k3]; rfl
    have q2 : (d.kind == 2) = false := by rw [k3]; rfl
    have q3 : (d.kind == 3) = true := by rw [k3]; rfl
    clear HP0 k1 k2 k3
    go_enter Tryz.func41, Tryz.ntmps41
    go_wp2_with fail
    refine HC.out.mono ?_
    rintro e w2 ⟨rfl, hb2⟩
    have H2 := Lib.hid (below_then HB1.out hb2)
    clear hb2 c0 c1 c2 c3 c4 c5 c6 c7
    go_wp2_with fail
    go_returns
    exact ⟨by rw [HP.out]; rfl, H2.out⟩
  by_cases k8 : d.kind = 8
  · have HP := Lib.hid (show x.pa = x.sh by rw [HP0]; unfold brk bareB; rw [decide_eq_true (by omega)]; rfl)
    have q1 : (d.kind == 1) = false := by rw [k8]; rfl
    have q2 : (d.kind == 2) = false := by rw [k8]; rfl
    have q3 : (d.kind == 3) = false := by rw [k8]; rfl
    have q8 : (d.kind == 8) = true := by rw [k8]; rfl
    clear HP0 k1 k2 k3 k8
    go_enter Tryz.func41, Tryz.ntmps41
    go_wp2_with fail
    refine HC.out.mono ?_
    rintro e w2 ⟨rfl, hb2⟩
    have H2 := Lib.hid (below_then HB1.out hb2)
    clear hb2 c0 c1 c2 c3 c4 c5 c6 c7
    go_wp2_with fail
    go_returns
    exact ⟨by rw [HP.out]; rfl, H2.out⟩
  by_cases k10 : d.kind = 10
  · have HP := Lib.hid (show x.pa = x.sh by rw [HP0]; unfold brk bareB; rw [decide_eq_true (by omega)]; rfl)
    have q1 : (d.kind == 1) = false := by rw [k10]; rfl
    have q2 : (d.kind == 2) = false := by rw [k10]; rfl
    have q3 : (d.kind == 3) = false := by rw [k10]; rfl
    have q8 : (d.kind == 8) = false := by rw [k10]; rfl
    have q10 : (d.kind == 10) = true := by rw [k10]; rfl
    clear HP0 k1 k2 k3 k8 k10
    go_enter Tryz.func41, Tryz.ntmps41
    go_wp2_with fail
    refine HC.out.mono ?_
    rintro e w2 ⟨rfl, hb2⟩
    have H2 := Lib.hid (below_then HB1.out hb2)
    clear hb2 c0 c1 c2 c3 c4 c5 c6 c7
    go_wp2_with fail
    go_returns
    exact ⟨by rw [HP.out]; rfl, H2.out⟩
  by_cases k12 : d.kind = 12
  · have HP := Lib.hid (show x.pa = x.sh by rw [HP0]; unfold brk bareB; rw [decide_eq_true (by omega)]; rfl)
    have q1 : (d.kind == 1) = false := by rw [k12]; rfl
    have q2 : (d.kind == 2) = false := by rw [k12]; rfl
    have q3 : (d.kind == 3) = false := by rw [k12]; rfl
    have q8 : (d.kind == 8) = false := by rw [k12]; rfl
    have q10 : (d.kind == 10) = false := by rw [k12]; rfl
    have q12 : (d.kind == 12) = true := by rw [k12]; rfl
    clear HP0 k1 k2 k3 k8 k10 k12
    go_enter Tryz.func41, Tryz.ntmps41
    go_wp2_with fail
    refine HC.out.mono ?_
    rintro e w2 ⟨rfl, hb2⟩
    have H2 := Lib.hid (below_then HB1.out hb2)
    clear hb2 c0 c1 c2 c3 c4 c5 c6 c7
    go_wp2_with fail
    go_returns
    exact ⟨by rw [HP.out]; rfl, H2.out⟩
  by_cases k22 : d.kind = 22
  · have HP := Lib.hid (show x.pa = x.sh by rw [HP0]; unfold brk bareB; rw [decide_eq_true (by omega)]; rfl)
    have q1 : (d.kind == 1) = false := by rw [k22]; rfl
    have q2 : (d.kind == 2) = false := by rw [k22]; rfl
    have q3 : (d.kind == 3) = false := by rw [k22]; rfl
    have q8 : (d.kind == 8) = false := by rw [k22]; rfl
    have q10 : (d.kind == 10) = false := by rw [k22]; rfl
    have q12 : (d.kind == 12) = false := by rw [k22]; rfl
    have q22 : (d.kind == 22) = true := by rw [k22]; rfl
    clear HP0 k1 k2 k3 k8 k10 k12 k22
    go_enter Tryz.func41, Tryz.ntmps41
    go_wp2_with fail
    refine HC.out.mono ?_
    rintro e w2 ⟨rfl, hb2⟩
    have H2 := Lib.hid (below_then HB1.out hb2)
    clear hb2 c0 c1 c2 c3 c4 c5 c6 c7
    go_wp2_with fail
    go_returns
    exact ⟨by rw [HP.out]; rfl, H2.out⟩
  have HP := Lib.hid (show x.pa = [40] ++ x.sh ++ [41] by rw [HP0]; unfold brk bareB; rw [decide_eq_false (by omega)]; rfl)
  have q1 : (d.kind == 1) = false := by simpa using k1
  have q2 : (d.kind == 2) = false := by simpa using k2
  have q3 : (d.kind == 3) = false := by simpa using k3
  have q8 : (d.kind == 8) = false := by simpa using k8
  have q10 : (d.kind == 10) = false := by simpa using k10
  have q12 : (d.kind == 12) = false := by simpa using k12
  have q22 : (d.kind == 22) = false := by simpa using k22
  have A0 : ∀ w : World, (Op.stringOp .add ⟨#[40]⟩ (bstr x.sh)).run Tryz.prog w = .ok (.string (bstr ([40] ++ x.sh))) w := addS [40] x.sh (by simp only [List.length_cons, List.length_nil]; omega)
  have A1 : ∀ w : World, (Op.stringOp .add (bstr ([40] ++ x.sh)) ⟨#[41]⟩).run Tryz.prog w = .ok (.string (bstr ([40] ++ x.sh ++ [41]))) w := addS ([40] ++ x.sh) [41] (by simp only [List.length_append, List.length_cons, List.length_nil]; omega)
  have HP := HP.out
  obtain ⟨s, hs⟩ : ∃ s, x.sh = s := ⟨_, rfl⟩
  rw [hs] at A0 A1 HP HC
  obtain ⟨x0, hx0⟩ : ∃ x : Str, [40] ++ s = x := ⟨_, rfl⟩
  rw [hx0] at A0 A1 HP
  obtain ⟨x1, hx1⟩ : ∃ x : Str, x0 ++ [41] = x := ⟨_, rfl⟩
  rw [hx1] at A1 HP
  rw [HP]
  clear HP HP0 hx hs hx0 hx1 k1 k2 k3 k8 k10 k12 k22
  go_enter Tryz.func41, Tryz.ntmps41
  go_wp2_with fail
  refine HC.out.mono ?_
  rintro e w2 ⟨rfl, hb2⟩
  have H2 := Lib.hid (below_then HB1.out hb2)
  clear hb2 c0 c1 c2 c3 c4 c5 c6 c7
  go_wp2_with fail
  go_returns
  exact ⟨rfl, H2.out⟩

set_option maxRecDepth 100000 in
set_option maxHeartbeats 4000000 in
theorem refShow_4 (w0 : World) (d : ExD) (a : Ex) (hI : (Ex.mk d [a]).In w0) (hk : d.kind = 4) (hpn : d.pn = 1) (hwt : (Ex.mk d [a]).wt ≤ 100000000) (La : a.sh.length + 2 ≤ a.wt) (Wa : RShow w0 a) (Pa : RP w0 a) :
    RefAt 16 w0 d (d.shF (shAt [a]) (paAt [a])) := by
  intro W hW
  have HN := Lib.hid (wt_le_one hwt La)
  have A0 : ∀ w : World, (Op.stringOp .add ⟨#[102, 110, 32]⟩ (bstr (d.s))).run Tryz.prog w = .ok (.string (bstr ([102, 110, 32] ++ d.s))) w := addS ([102, 110, 32]) (d.s) (by have h := HN.out; simp only [List.length_append, List.length_cons, List.length_nil]; omega)
  have A1 : ∀ w : World, (Op.stringOp .add (bstr ([102, 110, 32] ++ d.s)) ⟨#[32, 45, 62, 32]⟩).run Tryz.prog w = .ok (.string (bstr ([102, 110, 32] ++ d.s ++ [32, 45, 62, 32]))) w := addS ([102, 110, 32] ++ d.s) ([32, 45, 62, 32]) (by have h := HN.out; simp only [List.length_append, List.length_cons, List.length_nil]; omega)
  have A2 : ∀ w : World, (Op.stringOp .add (bstr ([102, 110, 32] ++ d.s ++ [32, 45, 62, 32])) (bstr (a.sh))).run Tryz.prog w = .ok (.string (bstr ([102, 110, 32] ++ d.s ++ [32, 45, 62, 32] ++ a.sh))) w := addS ([102, 110, 32] ++ d.s ++ [32, 45, 62, 32]) (a.sh) (by have h := HN.out; simp only [List.length_append, List.length_cons, List.length_nil]; omega)
  have HR : d.shF (shAt [a]) (paAt [a]) = [102, 110, 32] ++ d.s ++ [32, 45, 62, 32] ++ a.sh := by unfold ExD.shF; rw [if_neg (by omega), if_neg (by omega), if_neg (by omega), if_neg (by omega)]; rw [if_neg (by unfold braceB; rw [decide_eq_true_eq]; omega), if_pos (by unfold blockB; exact decide_eq_true (by omega))]; unfold ExD.blockF; rw [if_pos hk]; simp [shAt, betweenTo, inS]
  obtain ⟨x0, hx0⟩ : ∃ x : Str, [102, 110, 32] ++ d.s = x := ⟨_, rfl⟩
  rw [hx0] at A0 A1 A2 HR
  clear hx0
  obtain ⟨x1, hx1⟩ : ∃ x : Str, x0 ++ [32, 45, 62, 32] = x := ⟨_, rfl⟩
  rw [hx1] at A1 A2 HR
  clear hx1
  obtain ⟨x2, hx2⟩ : ∃ x : Str, x1 ++ a.sh = x := ⟨_, rfl⟩
  rw [hx2] at A2 HR
  clear hx2
  have HR := Lib.hid HR
  rw [HR.out]
  obtain ⟨pb, po, hpA, hAa⟩ := one_at hI
  have hb1 : Below W.heap.size W (W.alloc (.cells d.arr 25)) := (Below.refl _ _).alloc (Nat.le_refl _) _
  have hE := ex_box W d
  have HB1 := Lib.hid hb1
  have HW1 := Lib.hid (below_then hW hb1)
  have c0 := hE.c0
  have k3 := cell_regrown hE.c3
  have k4 := cell_regrown hE.c4
  have k7 := cell_regrown hE.c7
  have c3 := hE.c3
  have c7 := hE.c7
  rw [hpA, hpn] at k7 c7
  obtain ⟨a0, a1, a2, a3, a4, a5, a6, a7⟩ := hAa.lower HW1.out
  have ka0 := cell_regrown a0
  have ka1 := cell_regrown a1
  have ka2 := cell_regrown a2
  have ka3 := cell_regrown a3
  have ka4 := cell_regrown a4
  have ka5 := cell_regrown a5
  have ka6 := cell_regrown a6
  have ka7 := cell_regrown a7
  have Ca := Lib.hid (Wa.quiet HW1.out)
  have q1 : (d.kind == 1) = false := by rw [hk]; rfl
  have q2 : (d.kind == 2) = false := by rw [hk]; rfl
  have q3 : (d.kind == 3) = false := by rw [hk]; rfl
  have q4 : (d.kind == 4) = true := by rw [hk]; rfl
  clear hI hpn hwt hpA hb1 hE hW hk La Wa Pa hAa
  obtain ⟨da, hda⟩ : ∃ da, a.d = da := ⟨_, rfl⟩
  rw [hda] at Ca ka0 ka1 ka2 ka3 ka4 ka5 ka6 ka7
  clear a0 a1 a2 a3 a4 a5 a6 a7
  clear hda
  clear c3 c7
  go_enter Tryz.func16, Tryz.ntmps16
  go_wp2_with fail
  refine wp_region_quiet_below (by kernel_rfl) (by kernel_rfl) ?_
  iterate 11 (quiet_step ((go_at_call 16; with_reducible exact Ca.out _ _)))
  refine wpQuiet_nil ?_
  intro _ hw
  obtain ⟨⟨dq, osq⟩, hw''⟩ := hw
  subst hw''
  have hbq := below_regrown (W.alloc (.cells d.arr 25)) dq osq
  go_wp2_with fail
  go_returns
  exact ⟨rfl, below_then HB1.out hbq⟩

set_option maxRecDepth 100000 in
set_option maxHeartbeats 4000000 in
theorem refShow_5 (w0 : World) (d : ExD) (a c : Ex) (hI : (Ex.mk d [a, c]).In w0) (hk : d.kind = 5) (hpn : d.pn = 2) (hwt : (Ex.mk d [a, c]).wt ≤ 100000000) (La : a.sh.length + 2 ≤ a.wt) (Wa : RShow w0 a) (Pa : RP w0 a) (Lc : c.sh.length + 2 ≤ c.wt) (Wc : RShow w0 c) (Pc : RP w0 c) :
    RefAt 16 w0 d (d.shF (shAt [a, c]) (paAt [a, c])) := by
  intro W hW
  have HN := Lib.hid (wt_le_two hwt La Lc)
  have A0 : ∀ w : World, (Op.stringOp .add (bstr (a.pa)) ⟨#[32]⟩).run Tryz.prog w = .ok (.string (bstr (a.pa ++ [32]))) w := addS (a.pa) ([32]) (by have h := HN.out; simp only [List.length_append, List.length_cons, List.length_nil]; omega)
  have A1 : ∀ w : World, (Op.stringOp .add (bstr (a.pa ++ [32])) (bstr (c.pa))).run Tryz.prog w = .ok (.string (bstr (a.pa ++ [32] ++ c.pa))) w := addS (a.pa ++ [32]) (c.pa) (by have h := HN.out; simp only [List.length_append, List.length_cons, List.length_nil]; omega)
  have HR : d.shF (shAt [a, c]) (paAt [a, c]) = a.pa ++ [32] ++ c.pa := by unfold ExD.shF; rw [if_neg (by omega), if_neg (by omega), if_neg (by omega), if_neg (by omega)]; rw [if_neg (by unfold braceB; rw [decide_eq_true_eq]; omega), if_neg (by unfold blockB; rw [decide_eq_true_eq]; omega)]; unfold ExD.aheadF ExD.behindF; rw [if_neg (by omega), if_neg (by omega), if_neg (by omega), if_neg (by omega), if_neg (by omega), if_neg (by omega), if_neg (by omega), if_pos hk]; simp [paAt]
  obtain ⟨x0, hx0⟩ : ∃ x : Str, a.pa ++ [32] = x := ⟨_, rfl⟩
  rw [hx0] at A0 A1 HR
  clear hx0
  obtain ⟨x1, hx1⟩ : ∃ x : Str, x0 ++ c.pa = x := ⟨_, rfl⟩
  rw [hx1] at A1 HR
  clear hx1
  have HR := Lib.hid HR
  rw [HR.out]
  obtain ⟨pb, po, hpA, hAa, hAc⟩ := two_at hI
  have hb1 : Below W.heap.size W (W.alloc (.cells d.arr 25)) := (Below.refl _ _).alloc (Nat.le_refl _) _
  have hE := ex_box W d
  have HB1 := Lib.hid hb1
  have HW1 := Lib.hid (below_then hW hb1)
  have c0 := hE.c0
  have k3 := cell_regrown hE.c3
  have k4 := cell_regrown hE.c4
  have k7 := cell_regrown hE.c7
  have c3 := hE.c3
  have c7 := hE.c7
  rw [hpA, hpn] at k7 c7
  obtain ⟨a0, a1, a2, a3, a4, a5, a6, a7⟩ := hAa.lower HW1.out
  obtain ⟨c0, c1, c2, c3, c4, c5, c6, c7⟩ := hAc.lower HW1.out
  have ka0 := cell_regrown a0
  have ka1 := cell_regrown a1
  have ka2 := cell_regrown a2
  have ka3 := cell_regrown a3
  have ka4 := cell_regrown a4
  have ka5 := cell_regrown a5
  have ka6 := cell_regrown a6
  have ka7 := cell_regrown a7
  have kc0 := cell_regrown c0
  have kc1 := cell_regrown c1
  have kc2 := cell_regrown c2
  have kc3 := cell_regrown c3
  have kc4 := cell_regrown c4
  have kc5 := cell_regrown c5
  have kc6 := cell_regrown c6
  have kc7 := cell_regrown c7
  have Ca := Lib.hid (Pa.quiet HW1.out)
  have Cc := Lib.hid (Pc.quiet HW1.out)
  have q1 : (d.kind == 1) = false := by rw [hk]; rfl
  have q2 : (d.kind == 2) = false := by rw [hk]; rfl
  have q3 : (d.kind == 3) = false := by rw [hk]; rfl
  have q4 : (d.kind == 4) = false := by rw [hk]; rfl
  have q5 : (d.kind == 5) = true := by rw [hk]; rfl
  clear hI hpn hwt hpA hb1 hE hW hk La Wa Pa hAa Lc Wc Pc hAc
  obtain ⟨da, hda⟩ : ∃ da, a.d = da := ⟨_, rfl⟩
  rw [hda] at Ca ka0 ka1 ka2 ka3 ka4 ka5 ka6 ka7
  clear a0 a1 a2 a3 a4 a5 a6 a7
  clear hda
  obtain ⟨dc, hdc⟩ : ∃ dc, c.d = dc := ⟨_, rfl⟩
  rw [hdc] at Cc kc0 kc1 kc2 kc3 kc4 kc5 kc6 kc7
  clear c0 c1 c2 c3 c4 c5 c6 c7
  clear hdc
  clear c3 c7
  go_enter Tryz.func16, Tryz.ntmps16
  go_wp2_with fail
  refine wp_region_quiet_below (by kernel_rfl) (by kernel_rfl) ?_
  iterate 13 (quiet_step ((first | (go_at_call 41; with_reducible exact Ca.out _ _) | (go_at_call 41; with_reducible exact Cc.out _ _))))
  refine wpQuiet_nil ?_
  intro _ hw
  obtain ⟨⟨dq, osq⟩, hw''⟩ := hw
  subst hw''
  have hbq := below_regrown (W.alloc (.cells d.arr 25)) dq osq
  go_wp2_with fail
  go_returns
  exact ⟨rfl, below_then HB1.out hbq⟩

set_option maxRecDepth 100000 in
set_option maxHeartbeats 4000000 in
theorem refShow_6 (w0 : World) (d : ExD) (a c : Ex) (hI : (Ex.mk d [a, c]).In w0) (hk : d.kind = 6) (hpn : d.pn = 2) (hwt : (Ex.mk d [a, c]).wt ≤ 100000000) (La : a.sh.length + 2 ≤ a.wt) (Wa : RShow w0 a) (Pa : RP w0 a) (Lc : c.sh.length + 2 ≤ c.wt) (Wc : RShow w0 c) (Pc : RP w0 c) :
    RefAt 16 w0 d (d.shF (shAt [a, c]) (paAt [a, c])) := by
  intro W hW
  have HN := Lib.hid (wt_le_two hwt La Lc)
  have A0 : ∀ w : World, (Op.stringOp .add ⟨#[108, 101, 116, 32]⟩ (bstr (d.s))).run Tryz.prog w = .ok (.string (bstr ([108, 101, 116, 32] ++ d.s))) w := addS ([108, 101, 116, 32]) (d.s) (by have h := HN.out; simp only [List.length_append, List.length_cons, List.length_nil]; omega)
  have A1 : ∀ w : World, (Op.stringOp .add (bstr ([108, 101, 116, 32] ++ d.s)) ⟨#[32, 61, 32]⟩).run Tryz.prog w = .ok (.string (bstr ([108, 101, 116, 32] ++ d.s ++ [32, 61, 32]))) w := addS ([108, 101, 116, 32] ++ d.s) ([32, 61, 32]) (by have h := HN.out; simp only [List.length_append, List.length_cons, List.length_nil]; omega)
  have A2 : ∀ w : World, (Op.stringOp .add (bstr ([108, 101, 116, 32] ++ d.s ++ [32, 61, 32])) (bstr (a.sh))).run Tryz.prog w = .ok (.string (bstr ([108, 101, 116, 32] ++ d.s ++ [32, 61, 32] ++ a.sh))) w := addS ([108, 101, 116, 32] ++ d.s ++ [32, 61, 32]) (a.sh) (by have h := HN.out; simp only [List.length_append, List.length_cons, List.length_nil]; omega)
  have A3 : ∀ w : World, (Op.stringOp .add (bstr ([108, 101, 116, 32] ++ d.s ++ [32, 61, 32] ++ a.sh)) ⟨#[32, 105, 110, 32]⟩).run Tryz.prog w = .ok (.string (bstr ([108, 101, 116, 32] ++ d.s ++ [32, 61, 32] ++ a.sh ++ [32, 105, 110, 32]))) w := addS ([108, 101, 116, 32] ++ d.s ++ [32, 61, 32] ++ a.sh) ([32, 105, 110, 32]) (by have h := HN.out; simp only [List.length_append, List.length_cons, List.length_nil]; omega)
  have A4 : ∀ w : World, (Op.stringOp .add (bstr ([108, 101, 116, 32] ++ d.s ++ [32, 61, 32] ++ a.sh ++ [32, 105, 110, 32])) (bstr (c.sh))).run Tryz.prog w = .ok (.string (bstr ([108, 101, 116, 32] ++ d.s ++ [32, 61, 32] ++ a.sh ++ [32, 105, 110, 32] ++ c.sh))) w := addS ([108, 101, 116, 32] ++ d.s ++ [32, 61, 32] ++ a.sh ++ [32, 105, 110, 32]) (c.sh) (by have h := HN.out; simp only [List.length_append, List.length_cons, List.length_nil]; omega)
  have HR : d.shF (shAt [a, c]) (paAt [a, c]) = [108, 101, 116, 32] ++ d.s ++ [32, 61, 32] ++ a.sh ++ [32, 105, 110, 32] ++ c.sh := by unfold ExD.shF; rw [if_neg (by omega), if_neg (by omega), if_neg (by omega), if_neg (by omega)]; rw [if_neg (by unfold braceB; rw [decide_eq_true_eq]; omega), if_pos (by unfold blockB; exact decide_eq_true (by omega))]; unfold ExD.blockF; rw [if_neg (by omega), if_pos hk]; simp [shAt, betweenTo, inS]
  obtain ⟨x0, hx0⟩ : ∃ x : Str, [108, 101, 116, 32] ++ d.s = x := ⟨_, rfl⟩
  rw [hx0] at A0 A1 A2 A3 A4 HR
  clear hx0
  obtain ⟨x1, hx1⟩ : ∃ x : Str, x0 ++ [32, 61, 32] = x := ⟨_, rfl⟩
  rw [hx1] at A1 A2 A3 A4 HR
  clear hx1
  obtain ⟨x2, hx2⟩ : ∃ x : Str, x1 ++ a.sh = x := ⟨_, rfl⟩
  rw [hx2] at A2 A3 A4 HR
  clear hx2
  obtain ⟨x3, hx3⟩ : ∃ x : Str, x2 ++ [32, 105, 110, 32] = x := ⟨_, rfl⟩
  rw [hx3] at A3 A4 HR
  clear hx3
  obtain ⟨x4, hx4⟩ : ∃ x : Str, x3 ++ c.sh = x := ⟨_, rfl⟩
  rw [hx4] at A4 HR
  clear hx4
  have HR := Lib.hid HR
  rw [HR.out]
  obtain ⟨pb, po, hpA, hAa, hAc⟩ := two_at hI
  have hb1 : Below W.heap.size W (W.alloc (.cells d.arr 25)) := (Below.refl _ _).alloc (Nat.le_refl _) _
  have hE := ex_box W d
  have HB1 := Lib.hid hb1
  have HW1 := Lib.hid (below_then hW hb1)
  have c0 := hE.c0
  have k3 := cell_regrown hE.c3
  have k4 := cell_regrown hE.c4
  have k7 := cell_regrown hE.c7
  have c3 := hE.c3
  have c7 := hE.c7
  rw [hpA, hpn] at k7 c7
  obtain ⟨a0, a1, a2, a3, a4, a5, a6, a7⟩ := hAa.lower HW1.out
  obtain ⟨c0, c1, c2, c3, c4, c5, c6, c7⟩ := hAc.lower HW1.out
  have ka0 := cell_regrown a0
  have ka1 := cell_regrown a1
  have ka2 := cell_regrown a2
  have ka3 := cell_regrown a3
  have ka4 := cell_regrown a4
  have ka5 := cell_regrown a5
  have ka6 := cell_regrown a6
  have ka7 := cell_regrown a7
  have kc0 := cell_regrown c0
  have kc1 := cell_regrown c1
  have kc2 := cell_regrown c2
  have kc3 := cell_regrown c3
  have kc4 := cell_regrown c4
  have kc5 := cell_regrown c5
  have kc6 := cell_regrown c6
  have kc7 := cell_regrown c7
  have Ca := Lib.hid (Wa.quiet HW1.out)
  have Cc := Lib.hid (Wc.quiet HW1.out)
  have q1 : (d.kind == 1) = false := by rw [hk]; rfl
  have q2 : (d.kind == 2) = false := by rw [hk]; rfl
  have q3 : (d.kind == 3) = false := by rw [hk]; rfl
  have q4 : (d.kind == 4) = false := by rw [hk]; rfl
  have q5 : (d.kind == 5) = false := by rw [hk]; rfl
  have q6 : (d.kind == 6) = true := by rw [hk]; rfl
  clear hI hpn hwt hpA hb1 hE hW hk La Wa Pa hAa Lc Wc Pc hAc
  obtain ⟨da, hda⟩ : ∃ da, a.d = da := ⟨_, rfl⟩
  rw [hda] at Ca ka0 ka1 ka2 ka3 ka4 ka5 ka6 ka7
  clear a0 a1 a2 a3 a4 a5 a6 a7
  clear hda
  obtain ⟨dc, hdc⟩ : ∃ dc, c.d = dc := ⟨_, rfl⟩
  rw [hdc] at Cc kc0 kc1 kc2 kc3 kc4 kc5 kc6 kc7
  clear c0 c1 c2 c3 c4 c5 c6 c7
  clear hdc
  clear c3 c7
  go_enter Tryz.func16, Tryz.ntmps16
  go_wp2_with fail
  refine wp_region_quiet_below (by kernel_rfl) (by kernel_rfl) ?_
  iterate 18 (quiet_step ((first | (go_at_call 16; with_reducible exact Ca.out _ _) | (go_at_call 16; with_reducible exact Cc.out _ _))))
  refine wpQuiet_nil ?_
  intro _ hw
  obtain ⟨⟨dq, osq⟩, hw''⟩ := hw
  subst hw''
  have hbq := below_regrown (W.alloc (.cells d.arr 25)) dq osq
  go_wp2_with fail
  go_returns
  exact ⟨rfl, below_then HB1.out hbq⟩

set_option maxRecDepth 100000 in
set_option maxHeartbeats 4000000 in
theorem refShow_7 (w0 : World) (d : ExD) (a c : Ex) (hI : (Ex.mk d [a, c]).In w0) (hk : d.kind = 7) (hpn : d.pn = 2) (hwt : (Ex.mk d [a, c]).wt ≤ 100000000) (La : a.sh.length + 2 ≤ a.wt) (Wa : RShow w0 a) (Pa : RP w0 a) (Lc : c.sh.length + 2 ≤ c.wt) (Wc : RShow w0 c) (Pc : RP w0 c) :
    RefAt 16 w0 d (d.shF (shAt [a, c]) (paAt [a, c])) := by
  intro W hW
  have HN := Lib.hid (wt_le_two hwt La Lc)
  have A0 : ∀ w : World, (Op.stringOp .add ⟨#[108, 101, 116, 32, 114, 101, 99, 32]⟩ (bstr (d.s))).run Tryz.prog w = .ok (.string (bstr ([108, 101, 116, 32, 114, 101, 99, 32] ++ d.s))) w := addS ([108, 101, 116, 32, 114, 101, 99, 32]) (d.s) (by have h := HN.out; simp only [List.length_append, List.length_cons, List.length_nil]; omega)
  have A1 : ∀ w : World, (Op.stringOp .add (bstr ([108, 101, 116, 32, 114, 101, 99, 32] ++ d.s)) ⟨#[32]⟩).run Tryz.prog w = .ok (.string (bstr ([108, 101, 116, 32, 114, 101, 99, 32] ++ d.s ++ [32]))) w := addS ([108, 101, 116, 32, 114, 101, 99, 32] ++ d.s) ([32]) (by have h := HN.out; simp only [List.length_append, List.length_cons, List.length_nil]; omega)
  have A2 : ∀ w : World, (Op.stringOp .add (bstr ([108, 101, 116, 32, 114, 101, 99, 32] ++ d.s ++ [32])) (bstr (d.t))).run Tryz.prog w = .ok (.string (bstr ([108, 101, 116, 32, 114, 101, 99, 32] ++ d.s ++ [32] ++ d.t))) w := addS ([108, 101, 116, 32, 114, 101, 99, 32] ++ d.s ++ [32]) (d.t) (by have h := HN.out; simp only [List.length_append, List.length_cons, List.length_nil]; omega)
  have A3 : ∀ w : World, (Op.stringOp .add (bstr ([108, 101, 116, 32, 114, 101, 99, 32] ++ d.s ++ [32] ++ d.t)) ⟨#[32, 61, 32]⟩).run Tryz.prog w = .ok (.string (bstr ([108, 101, 116, 32, 114, 101, 99, 32] ++ d.s ++ [32] ++ d.t ++ [32, 61, 32]))) w := addS ([108, 101, 116, 32, 114, 101, 99, 32] ++ d.s ++ [32] ++ d.t) ([32, 61, 32]) (by have h := HN.out; simp only [List.length_append, List.length_cons, List.length_nil]; omega)
  have A4 : ∀ w : World, (Op.stringOp .add (bstr ([108, 101, 116, 32, 114, 101, 99, 32] ++ d.s ++ [32] ++ d.t ++ [32, 61, 32])) (bstr (a.sh))).run Tryz.prog w = .ok (.string (bstr ([108, 101, 116, 32, 114, 101, 99, 32] ++ d.s ++ [32] ++ d.t ++ [32, 61, 32] ++ a.sh))) w := addS ([108, 101, 116, 32, 114, 101, 99, 32] ++ d.s ++ [32] ++ d.t ++ [32, 61, 32]) (a.sh) (by have h := HN.out; simp only [List.length_append, List.length_cons, List.length_nil]; omega)
  have A5 : ∀ w : World, (Op.stringOp .add (bstr ([108, 101, 116, 32, 114, 101, 99, 32] ++ d.s ++ [32] ++ d.t ++ [32, 61, 32] ++ a.sh)) ⟨#[32, 105, 110, 32]⟩).run Tryz.prog w = .ok (.string (bstr ([108, 101, 116, 32, 114, 101, 99, 32] ++ d.s ++ [32] ++ d.t ++ [32, 61, 32] ++ a.sh ++ [32, 105, 110, 32]))) w := addS ([108, 101, 116, 32, 114, 101, 99, 32] ++ d.s ++ [32] ++ d.t ++ [32, 61, 32] ++ a.sh) ([32, 105, 110, 32]) (by have h := HN.out; simp only [List.length_append, List.length_cons, List.length_nil]; omega)
  have A6 : ∀ w : World, (Op.stringOp .add (bstr ([108, 101, 116, 32, 114, 101, 99, 32] ++ d.s ++ [32] ++ d.t ++ [32, 61, 32] ++ a.sh ++ [32, 105, 110, 32])) (bstr (c.sh))).run Tryz.prog w = .ok (.string (bstr ([108, 101, 116, 32, 114, 101, 99, 32] ++ d.s ++ [32] ++ d.t ++ [32, 61, 32] ++ a.sh ++ [32, 105, 110, 32] ++ c.sh))) w := addS ([108, 101, 116, 32, 114, 101, 99, 32] ++ d.s ++ [32] ++ d.t ++ [32, 61, 32] ++ a.sh ++ [32, 105, 110, 32]) (c.sh) (by have h := HN.out; simp only [List.length_append, List.length_cons, List.length_nil]; omega)
  have HR : d.shF (shAt [a, c]) (paAt [a, c]) = [108, 101, 116, 32, 114, 101, 99, 32] ++ d.s ++ [32] ++ d.t ++ [32, 61, 32] ++ a.sh ++ [32, 105, 110, 32] ++ c.sh := by unfold ExD.shF; rw [if_neg (by omega), if_neg (by omega), if_neg (by omega), if_neg (by omega)]; rw [if_neg (by unfold braceB; rw [decide_eq_true_eq]; omega), if_pos (by unfold blockB; exact decide_eq_true (by omega))]; unfold ExD.blockF; rw [if_neg (by omega), if_neg (by omega), if_pos hk]; simp [shAt, betweenTo, inS]
  obtain ⟨x0, hx0⟩ : ∃ x : Str, [108, 101, 116, 32, 114, 101, 99, 32] ++ d.s = x := ⟨_, rfl⟩
  rw [hx0] at A0 A1 A2 A3 A4 A5 A6 HR
  clear hx0
  obtain ⟨x1, hx1⟩ : ∃ x : Str, x0 ++ [32] = x := ⟨_, rfl⟩
  rw [hx1] at A1 A2 A3 A4 A5 A6 HR
  clear hx1
  obtain ⟨x2, hx2⟩ : ∃ x : Str, x1 ++ d.t = x := ⟨_, rfl⟩
  rw [hx2] at A2 A3 A4 A5 A6 HR
  clear hx2
  obtain ⟨x3, hx3⟩ : ∃ x : Str, x2 ++ [32, 61, 32] = x := ⟨_, rfl⟩
  rw [hx3] at A3 A4 A5 A6 HR
  clear hx3
  obtain ⟨x4, hx4⟩ : ∃ x : Str, x3 ++ a.sh = x := ⟨_, rfl⟩
  rw [hx4] at A4 A5 A6 HR
  clear hx4
  obtain ⟨x5, hx5⟩ : ∃ x : Str, x4 ++ [32, 105, 110, 32] = x := ⟨_, rfl⟩
  rw [hx5] at A5 A6 HR
  clear hx5
  obtain ⟨x6, hx6⟩ : ∃ x : Str, x5 ++ c.sh = x := ⟨_, rfl⟩
  rw [hx6] at A6 HR
  clear hx6
  have HR := Lib.hid HR
  rw [HR.out]
  obtain ⟨pb, po, hpA, hAa, hAc⟩ := two_at hI
  have hb1 : Below W.heap.size W (W.alloc (.cells d.arr 25)) := (Below.refl _ _).alloc (Nat.le_refl _) _
  have hE := ex_box W d
  have HB1 := Lib.hid hb1
  have HW1 := Lib.hid (below_then hW hb1)
  have c0 := hE.c0
  have k3 := cell_regrown hE.c3
  have k4 := cell_regrown hE.c4
  have k7 := cell_regrown hE.c7
  have c3 := hE.c3
  have c7 := hE.c7
  rw [hpA, hpn] at k7 c7
  obtain ⟨a0, a1, a2, a3, a4, a5, a6, a7⟩ := hAa.lower HW1.out
  obtain ⟨c0, c1, c2, c3, c4, c5, c6, c7⟩ := hAc.lower HW1.out
  have ka0 := cell_regrown a0
  have ka1 := cell_regrown a1
  have ka2 := cell_regrown a2
  have ka3 := cell_regrown a3
  have ka4 := cell_regrown a4
  have ka5 := cell_regrown a5
  have ka6 := cell_regrown a6
  have ka7 := cell_regrown a7
  have kc0 := cell_regrown c0
  have kc1 := cell_regrown c1
  have kc2 := cell_regrown c2
  have kc3 := cell_regrown c3
  have kc4 := cell_regrown c4
  have kc5 := cell_regrown c5
  have kc6 := cell_regrown c6
  have kc7 := cell_regrown c7
  have Ca := Lib.hid (Wa.quiet HW1.out)
  have Cc := Lib.hid (Wc.quiet HW1.out)
  have q1 : (d.kind == 1) = false := by rw [hk]; rfl
  have q2 : (d.kind == 2) = false := by rw [hk]; rfl
  have q3 : (d.kind == 3) = false := by rw [hk]; rfl
  have q4 : (d.kind == 4) = false := by rw [hk]; rfl
  have q5 : (d.kind == 5) = false := by rw [hk]; rfl
  have q6 : (d.kind == 6) = false := by rw [hk]; rfl
  have q7 : (d.kind == 7) = true := by rw [hk]; rfl
  clear hI hpn hwt hpA hb1 hE hW hk La Wa Pa hAa Lc Wc Pc hAc
  obtain ⟨da, hda⟩ : ∃ da, a.d = da := ⟨_, rfl⟩
  rw [hda] at Ca ka0 ka1 ka2 ka3 ka4 ka5 ka6 ka7
  clear a0 a1 a2 a3 a4 a5 a6 a7
  clear hda
  obtain ⟨dc, hdc⟩ : ∃ dc, c.d = dc := ⟨_, rfl⟩
  rw [hdc] at Cc kc0 kc1 kc2 kc3 kc4 kc5 kc6 kc7
  clear c0 c1 c2 c3 c4 c5 c6 c7
  clear hdc
  clear c3 c7
  go_enter Tryz.func16, Tryz.ntmps16
  go_wp2_with fail
  refine wp_region_quiet_below (by kernel_rfl) (by kernel_rfl) ?_
  iterate 22 (quiet_step ((first | (go_at_call 16; with_reducible exact Ca.out _ _) | (go_at_call 16; with_reducible exact Cc.out _ _))))
  refine wpQuiet_nil ?_
  intro _ hw
  obtain ⟨⟨dq, osq⟩, hw''⟩ := hw
  subst hw''
  have hbq := below_regrown (W.alloc (.cells d.arr 25)) dq osq
  go_wp2_with fail
  go_returns
  exact ⟨rfl, below_then HB1.out hbq⟩

set_option maxRecDepth 100000 in
set_option maxHeartbeats 4000000 in
theorem refShow_9 (w0 : World) (d : ExD) (a : Ex) (hI : (Ex.mk d [a]).In w0) (hk : d.kind = 9) (hpn : d.pn = 1) (hwt : (Ex.mk d [a]).wt ≤ 100000000) (La : a.sh.length + 2 ≤ a.wt) (Wa : RShow w0 a) (Pa : RP w0 a) :
    RefAt 16 w0 d (d.shF (shAt [a]) (paAt [a])) := by
  intro W hW
  have HN := Lib.hid (wt_le_one hwt La)
  have A0 : ∀ w : World, (Op.stringOp .add (bstr (a.pa)) ⟨#[46]⟩).run Tryz.prog w = .ok (.string (bstr (a.pa ++ [46]))) w := addS (a.pa) ([46]) (by have h := HN.out; simp only [List.length_append, List.length_cons, List.length_nil]; omega)
  have A1 : ∀ w : World, (Op.stringOp .add (bstr (a.pa ++ [46])) (bstr (d.s))).run Tryz.prog w = .ok (.string (bstr (a.pa ++ [46] ++ d.s))) w := addS (a.pa ++ [46]) (d.s) (by have h := HN.out; simp only [List.length_append, List.length_cons, List.length_nil]; omega)
  have HR : d.shF (shAt [a]) (paAt [a]) = a.pa ++ [46] ++ d.s := by unfold ExD.shF; rw [if_neg (by omega), if_neg (by omega), if_neg (by omega), if_neg (by omega)]; rw [if_neg (by unfold braceB; rw [decide_eq_true_eq]; omega), if_neg (by unfold blockB; rw [decide_eq_true_eq]; omega)]; unfold ExD.aheadF ExD.behindF; rw [if_neg (by omega), if_neg (by omega), if_neg (by omega), if_neg (by omega), if_neg (by omega), if_pos hk]; simp [paAt]
  obtain ⟨x0, hx0⟩ : ∃ x : Str, a.pa ++ [46] = x := ⟨_, rfl⟩
  rw [hx0] at A0 A1 HR
  clear hx0
  obtain ⟨x1, hx1⟩ : ∃ x : Str, x0 ++ d.s = x := ⟨_, rfl⟩
  rw [hx1] at A1 HR
  clear hx1
  have HR := Lib.hid HR
  rw [HR.out]
  obtain ⟨pb, po, hpA, hAa⟩ := one_at hI
  have hb1 : Below W.heap.size W (W.alloc (.cells d.arr 25)) := (Below.refl _ _).alloc (Nat.le_refl _) _
  have hE := ex_box W d
  have HB1 := Lib.hid hb1
  have HW1 := Lib.hid (below_then hW hb1)
  have c0 := hE.c0
  have k3 := cell_regrown hE.c3
  have k4 := cell_regrown hE.c4
  have k7 := cell_regrown hE.c7
  have c3 := hE.c3
  have c7 := hE.c7
  rw [hpA, hpn] at k7 c7
  obtain ⟨a0, a1, a2, a3, a4, a5, a6, a7⟩ := hAa.lower HW1.out
  have ka0 := cell_regrown a0
  have ka1 := cell_regrown a1
  have ka2 := cell_regrown a2
  have ka3 := cell_regrown a3
  have ka4 := cell_regrown a4
  have ka5 := cell_regrown a5
  have ka6 := cell_regrown a6
  have ka7 := cell_regrown a7
  have Ca := Lib.hid (Pa.quiet HW1.out)
  have q1 : (d.kind == 1) = false := by rw [hk]; rfl
  have q2 : (d.kind == 2) = false := by rw [hk]; rfl
  have q3 : (d.kind == 3) = false := by rw [hk]; rfl
  have q4 : (d.kind == 4) = false := by rw [hk]; rfl
  have q5 : (d.kind == 5) = false := by rw [hk]; rfl
  have q6 : (d.kind == 6) = false := by rw [hk]; rfl
  have q7 : (d.kind == 7) = false := by rw [hk]; rfl
  have q8 : (d.kind == 8) = false := by rw [hk]; rfl
  have q9 : (d.kind == 9) = true := by rw [hk]; rfl
  clear hI hpn hwt hpA hb1 hE hW hk La Wa Pa hAa
  obtain ⟨da, hda⟩ : ∃ da, a.d = da := ⟨_, rfl⟩
  rw [hda] at Ca ka0 ka1 ka2 ka3 ka4 ka5 ka6 ka7
  clear a0 a1 a2 a3 a4 a5 a6 a7
  clear hda
  clear c3 c7
  go_enter Tryz.func16, Tryz.ntmps16
  go_wp2_with fail
  refine wp_region_quiet_below (by kernel_rfl) (by kernel_rfl) ?_
  iterate 10 (quiet_step ((go_at_call 41; with_reducible exact Ca.out _ _)))
  refine wpQuiet_nil ?_
  intro _ hw
  obtain ⟨⟨dq, osq⟩, hw''⟩ := hw
  subst hw''
  have hbq := below_regrown (W.alloc (.cells d.arr 25)) dq osq
  go_wp2_with fail
  go_returns
  exact ⟨rfl, below_then HB1.out hbq⟩

set_option maxRecDepth 100000 in
set_option maxHeartbeats 4000000 in
theorem refShow_10 (w0 : World) (d : ExD) (a c : Ex) (hI : (Ex.mk d [a, c]).In w0) (hk : d.kind = 10) (hpn : d.pn = 2) (hwt : (Ex.mk d [a, c]).wt ≤ 100000000) (La : a.sh.length + 2 ≤ a.wt) (Wa : RShow w0 a) (Pa : RP w0 a) (Lc : c.sh.length + 2 ≤ c.wt) (Wc : RShow w0 c) (Pc : RP w0 c) :
    RefAt 16 w0 d (d.shF (shAt [a, c]) (paAt [a, c])) := by
  intro W hW
  have HN := Lib.hid (wt_le_two hwt La Lc)
  have A0 : ∀ w : World, (Op.stringOp .add ⟨#[123]⟩ (bstr (d.s))).run Tryz.prog w = .ok (.string (bstr ([123] ++ d.s))) w := addS ([123]) (d.s) (by have h := HN.out; simp only [List.length_append, List.length_cons, List.length_nil]; omega)
  have A1 : ∀ w : World, (Op.stringOp .add (bstr ([123] ++ d.s)) ⟨#[32, 61, 32]⟩).run Tryz.prog w = .ok (.string (bstr ([123] ++ d.s ++ [32, 61, 32]))) w := addS ([123] ++ d.s) ([32, 61, 32]) (by have h := HN.out; simp only [List.length_append, List.length_cons, List.length_nil]; omega)
  have A2 : ∀ w : World, (Op.stringOp .add (bstr ([123] ++ d.s ++ [32, 61, 32])) (bstr (a.sh))).run Tryz.prog w = .ok (.string (bstr ([123] ++ d.s ++ [32, 61, 32] ++ a.sh))) w := addS ([123] ++ d.s ++ [32, 61, 32]) (a.sh) (by have h := HN.out; simp only [List.length_append, List.length_cons, List.length_nil]; omega)
  have A3 : ∀ w : World, (Op.stringOp .add (bstr ([123] ++ d.s ++ [32, 61, 32] ++ a.sh)) ⟨#[32, 124, 32]⟩).run Tryz.prog w = .ok (.string (bstr ([123] ++ d.s ++ [32, 61, 32] ++ a.sh ++ [32, 124, 32]))) w := addS ([123] ++ d.s ++ [32, 61, 32] ++ a.sh) ([32, 124, 32]) (by have h := HN.out; simp only [List.length_append, List.length_cons, List.length_nil]; omega)
  have A4 : ∀ w : World, (Op.stringOp .add (bstr ([123] ++ d.s ++ [32, 61, 32] ++ a.sh ++ [32, 124, 32])) (bstr (c.sh))).run Tryz.prog w = .ok (.string (bstr ([123] ++ d.s ++ [32, 61, 32] ++ a.sh ++ [32, 124, 32] ++ c.sh))) w := addS ([123] ++ d.s ++ [32, 61, 32] ++ a.sh ++ [32, 124, 32]) (c.sh) (by have h := HN.out; simp only [List.length_append, List.length_cons, List.length_nil]; omega)
  have A5 : ∀ w : World, (Op.stringOp .add (bstr ([123] ++ d.s ++ [32, 61, 32] ++ a.sh ++ [32, 124, 32] ++ c.sh)) ⟨#[125]⟩).run Tryz.prog w = .ok (.string (bstr ([123] ++ d.s ++ [32, 61, 32] ++ a.sh ++ [32, 124, 32] ++ c.sh ++ [125]))) w := addS ([123] ++ d.s ++ [32, 61, 32] ++ a.sh ++ [32, 124, 32] ++ c.sh) ([125]) (by have h := HN.out; simp only [List.length_append, List.length_cons, List.length_nil]; omega)
  have HR : d.shF (shAt [a, c]) (paAt [a, c]) = [123] ++ d.s ++ [32, 61, 32] ++ a.sh ++ [32, 124, 32] ++ c.sh ++ [125] := by unfold ExD.shF; rw [if_neg (by omega), if_neg (by omega), if_neg (by omega), if_neg (by omega)]; rw [if_pos (by unfold braceB; exact decide_eq_true (by omega))]; unfold ExD.bracesF; rw [if_neg (by omega), if_pos hk]; simp [shAt]
  obtain ⟨x0, hx0⟩ : ∃ x : Str, [123] ++ d.s = x := ⟨_, rfl⟩
  rw [hx0] at A0 A1 A2 A3 A4 A5 HR
  clear hx0
  obtain ⟨x1, hx1⟩ : ∃ x : Str, x0 ++ [32, 61, 32] = x := ⟨_, rfl⟩
  rw [hx1] at A1 A2 A3 A4 A5 HR
  clear hx1
  obtain ⟨x2, hx2⟩ : ∃ x : Str, x1 ++ a.sh = x := ⟨_, rfl⟩
  rw [hx2] at A2 A3 A4 A5 HR
  clear hx2
  obtain ⟨x3, hx3⟩ : ∃ x : Str, x2 ++ [32, 124, 32] = x := ⟨_, rfl⟩
  rw [hx3] at A3 A4 A5 HR
  clear hx3
  obtain ⟨x4, hx4⟩ : ∃ x : Str, x3 ++ c.sh = x := ⟨_, rfl⟩
  rw [hx4] at A4 A5 HR
  clear hx4
  obtain ⟨x5, hx5⟩ : ∃ x : Str, x4 ++ [125] = x := ⟨_, rfl⟩
  rw [hx5] at A5 HR
  clear hx5
  have HR := Lib.hid HR
  rw [HR.out]
  obtain ⟨pb, po, hpA, hAa, hAc⟩ := two_at hI
  have hb1 : Below W.heap.size W (W.alloc (.cells d.arr 25)) := (Below.refl _ _).alloc (Nat.le_refl _) _
  have hE := ex_box W d
  have HB1 := Lib.hid hb1
  have HW1 := Lib.hid (below_then hW hb1)
  have c0 := hE.c0
  have k3 := cell_regrown hE.c3
  have k4 := cell_regrown hE.c4
  have k7 := cell_regrown hE.c7
  have c3 := hE.c3
  have c7 := hE.c7
  rw [hpA, hpn] at k7 c7
  obtain ⟨a0, a1, a2, a3, a4, a5, a6, a7⟩ := hAa.lower HW1.out
  obtain ⟨c0, c1, c2, c3, c4, c5, c6, c7⟩ := hAc.lower HW1.out
  have ka0 := cell_regrown a0
  have ka1 := cell_regrown a1
  have ka2 := cell_regrown a2
  have ka3 := cell_regrown a3
  have ka4 := cell_regrown a4
  have ka5 := cell_regrown a5
  have ka6 := cell_regrown a6
  have ka7 := cell_regrown a7
  have kc0 := cell_regrown c0
  have kc1 := cell_regrown c1
  have kc2 := cell_regrown c2
  have kc3 := cell_regrown c3
  have kc4 := cell_regrown c4
  have kc5 := cell_regrown c5
  have kc6 := cell_regrown c6
  have kc7 := cell_regrown c7
  have Ca := Lib.hid (Wa.quiet HW1.out)
  have Cc := Lib.hid (Wc.quiet HW1.out)
  have q1 : (d.kind == 1) = false := by rw [hk]; rfl
  have q2 : (d.kind == 2) = false := by rw [hk]; rfl
  have q3 : (d.kind == 3) = false := by rw [hk]; rfl
  have q4 : (d.kind == 4) = false := by rw [hk]; rfl
  have q5 : (d.kind == 5) = false := by rw [hk]; rfl
  have q6 : (d.kind == 6) = false := by rw [hk]; rfl
  have q7 : (d.kind == 7) = false := by rw [hk]; rfl
  have q8 : (d.kind == 8) = false := by rw [hk]; rfl
  have q9 : (d.kind == 9) = false := by rw [hk]; rfl
  have q10 : (d.kind == 10) = true := by rw [hk]; rfl
  clear hI hpn hwt hpA hb1 hE hW hk La Wa Pa hAa Lc Wc Pc hAc
  obtain ⟨da, hda⟩ : ∃ da, a.d = da := ⟨_, rfl⟩
  rw [hda] at Ca ka0 ka1 ka2 ka3 ka4 ka5 ka6 ka7
  clear a0 a1 a2 a3 a4 a5 a6 a7
  clear hda
  obtain ⟨dc, hdc⟩ : ∃ dc, c.d = dc := ⟨_, rfl⟩
  rw [hdc] at Cc kc0 kc1 kc2 kc3 kc4 kc5 kc6 kc7
  clear c0 c1 c2 c3 c4 c5 c6 c7
  clear hdc
  clear c3 c7
  go_enter Tryz.func16, Tryz.ntmps16
  go_wp2_with fail
  refine wp_region_quiet_below (by kernel_rfl) (by kernel_rfl) ?_
  iterate 19 (quiet_step ((first | (go_at_call 16; with_reducible exact Ca.out _ _) | (go_at_call 16; with_reducible exact Cc.out _ _))))
  refine wpQuiet_nil ?_
  intro _ hw
  obtain ⟨⟨dq, osq⟩, hw''⟩ := hw
  subst hw''
  have hbq := below_regrown (W.alloc (.cells d.arr 25)) dq osq
  go_wp2_with fail
  go_returns
  exact ⟨rfl, below_then HB1.out hbq⟩

set_option maxRecDepth 100000 in
set_option maxHeartbeats 4000000 in
theorem refShow_11 (w0 : World) (d : ExD) (a : Ex) (hI : (Ex.mk d [a]).In w0) (hk : d.kind = 11) (hpn : d.pn = 1) (hwt : (Ex.mk d [a]).wt ≤ 100000000) (La : a.sh.length + 2 ≤ a.wt) (Wa : RShow w0 a) (Pa : RP w0 a) :
    RefAt 16 w0 d (d.shF (shAt [a]) (paAt [a])) := by
  intro W hW
  have HN := Lib.hid (wt_le_one hwt La)
  have A0 : ∀ w : World, (Op.stringOp .add (bstr (a.pa)) ⟨#[92]⟩).run Tryz.prog w = .ok (.string (bstr (a.pa ++ [92]))) w := addS (a.pa) ([92]) (by have h := HN.out; simp only [List.length_append, List.length_cons, List.length_nil]; omega)
  have A1 : ∀ w : World, (Op.stringOp .add (bstr (a.pa ++ [92])) (bstr (d.s))).run Tryz.prog w = .ok (.string (bstr (a.pa ++ [92] ++ d.s))) w := addS (a.pa ++ [92]) (d.s) (by have h := HN.out; simp only [List.length_append, List.length_cons, List.length_nil]; omega)
  have HR : d.shF (shAt [a]) (paAt [a]) = a.pa ++ [92] ++ d.s := by unfold ExD.shF; rw [if_neg (by omega), if_neg (by omega), if_neg (by omega), if_neg (by omega)]; rw [if_neg (by unfold braceB; rw [decide_eq_true_eq]; omega), if_neg (by unfold blockB; rw [decide_eq_true_eq]; omega)]; unfold ExD.aheadF ExD.behindF; rw [if_neg (by omega), if_neg (by omega), if_neg (by omega), if_neg (by omega), if_neg (by omega), if_neg (by omega), if_pos hk]; simp [paAt]
  obtain ⟨x0, hx0⟩ : ∃ x : Str, a.pa ++ [92] = x := ⟨_, rfl⟩
  rw [hx0] at A0 A1 HR
  clear hx0
  obtain ⟨x1, hx1⟩ : ∃ x : Str, x0 ++ d.s = x := ⟨_, rfl⟩
  rw [hx1] at A1 HR
  clear hx1
  have HR := Lib.hid HR
  rw [HR.out]
  obtain ⟨pb, po, hpA, hAa⟩ := one_at hI
  have hb1 : Below W.heap.size W (W.alloc (.cells d.arr 25)) := (Below.refl _ _).alloc (Nat.le_refl _) _
  have hE := ex_box W d
  have HB1 := Lib.hid hb1
  have HW1 := Lib.hid (below_then hW hb1)
  have c0 := hE.c0
  have k3 := cell_regrown hE.c3
  have k4 := cell_regrown hE.c4
  have k7 := cell_regrown hE.c7
  have c3 := hE.c3
  have c7 := hE.c7
  rw [hpA, hpn] at k7 c7
  obtain ⟨a0, a1, a2, a3, a4, a5, a6, a7⟩ := hAa.lower HW1.out
  have ka0 := cell_regrown a0
  have ka1 := cell_regrown a1
  have ka2 := cell_regrown a2
  have ka3 := cell_regrown a3
  have ka4 := cell_regrown a4
  have ka5 := cell_regrown a5
  have ka6 := cell_regrown a6
  have ka7 := cell_regrown a7
  have Ca := Lib.hid (Pa.quiet HW1.out)
  have q1 : (d.kind == 1) = false := by rw [hk]; rfl
  have q2 : (d.kind == 2) = false := by rw [hk]; rfl
  have q3 : (d.kind == 3) = false := by rw [hk]; rfl
  have q4 : (d.kind == 4) = false := by rw [hk]; rfl
  have q5 : (d.kind == 5) = false := by rw [hk]; rfl
  have q6 : (d.kind == 6) = false := by rw [hk]; rfl
  have q7 : (d.kind == 7) = false := by rw [hk]; rfl
  have q8 : (d.kind == 8) = false := by rw [hk]; rfl
  have q9 : (d.kind == 9) = false := by rw [hk]; rfl
  have q10 : (d.kind == 10) = false := by rw [hk]; rfl
  have q11 : (d.kind == 11) = true := by rw [hk]; rfl
  clear hI hpn hwt hpA hb1 hE hW hk La Wa Pa hAa
  obtain ⟨da, hda⟩ : ∃ da, a.d = da := ⟨_, rfl⟩
  rw [hda] at Ca ka0 ka1 ka2 ka3 ka4 ka5 ka6 ka7
  clear a0 a1 a2 a3 a4 a5 a6 a7
  clear hda
  clear c3 c7
  go_enter Tryz.func16, Tryz.ntmps16
  go_wp2_with fail
  refine wp_region_quiet_below (by kernel_rfl) (by kernel_rfl) ?_
  iterate 10 (quiet_step ((go_at_call 41; with_reducible exact Ca.out _ _)))
  refine wpQuiet_nil ?_
  intro _ hw
  obtain ⟨⟨dq, osq⟩, hw''⟩ := hw
  subst hw''
  have hbq := below_regrown (W.alloc (.cells d.arr 25)) dq osq
  go_wp2_with fail
  go_returns
  exact ⟨rfl, below_then HB1.out hbq⟩

set_option maxRecDepth 100000 in
set_option maxHeartbeats 4000000 in
theorem refShow_12 (w0 : World) (d : ExD) (a c : Ex) (hI : (Ex.mk d [a, c]).In w0) (hk : d.kind = 12) (hpn : d.pn = 2) (hwt : (Ex.mk d [a, c]).wt ≤ 100000000) (La : a.sh.length + 2 ≤ a.wt) (Wa : RShow w0 a) (Pa : RP w0 a) (Lc : c.sh.length + 2 ≤ c.wt) (Wc : RShow w0 c) (Pc : RP w0 c) :
    RefAt 16 w0 d (d.shF (shAt [a, c]) (paAt [a, c])) := by
  intro W hW
  have HN := Lib.hid (wt_le_two hwt La Lc)
  have A0 : ∀ w : World, (Op.stringOp .add ⟨#[123]⟩ (bstr (c.pa))).run Tryz.prog w = .ok (.string (bstr ([123] ++ c.pa))) w := addS ([123]) (c.pa) (by have h := HN.out; simp only [List.length_append, List.length_cons, List.length_nil]; omega)
  have A1 : ∀ w : World, (Op.stringOp .add (bstr ([123] ++ c.pa)) ⟨#[32, 119, 105, 116, 104, 32]⟩).run Tryz.prog w = .ok (.string (bstr ([123] ++ c.pa ++ [32, 119, 105, 116, 104, 32]))) w := addS ([123] ++ c.pa) ([32, 119, 105, 116, 104, 32]) (by have h := HN.out; simp only [List.length_append, List.length_cons, List.length_nil]; omega)
  have A2 : ∀ w : World, (Op.stringOp .add (bstr ([123] ++ c.pa ++ [32, 119, 105, 116, 104, 32])) (bstr (d.s))).run Tryz.prog w = .ok (.string (bstr ([123] ++ c.pa ++ [32, 119, 105, 116, 104, 32] ++ d.s))) w := addS ([123] ++ c.pa ++ [32, 119, 105, 116, 104, 32]) (d.s) (by have h := HN.out; simp only [List.length_append, List.length_cons, List.length_nil]; omega)
  have A3 : ∀ w : World, (Op.stringOp .add (bstr ([123] ++ c.pa ++ [32, 119, 105, 116, 104, 32] ++ d.s)) ⟨#[32, 61, 32]⟩).run Tryz.prog w = .ok (.string (bstr ([123] ++ c.pa ++ [32, 119, 105, 116, 104, 32] ++ d.s ++ [32, 61, 32]))) w := addS ([123] ++ c.pa ++ [32, 119, 105, 116, 104, 32] ++ d.s) ([32, 61, 32]) (by have h := HN.out; simp only [List.length_append, List.length_cons, List.length_nil]; omega)
  have A4 : ∀ w : World, (Op.stringOp .add (bstr ([123] ++ c.pa ++ [32, 119, 105, 116, 104, 32] ++ d.s ++ [32, 61, 32])) (bstr (a.sh))).run Tryz.prog w = .ok (.string (bstr ([123] ++ c.pa ++ [32, 119, 105, 116, 104, 32] ++ d.s ++ [32, 61, 32] ++ a.sh))) w := addS ([123] ++ c.pa ++ [32, 119, 105, 116, 104, 32] ++ d.s ++ [32, 61, 32]) (a.sh) (by have h := HN.out; simp only [List.length_append, List.length_cons, List.length_nil]; omega)
  have A5 : ∀ w : World, (Op.stringOp .add (bstr ([123] ++ c.pa ++ [32, 119, 105, 116, 104, 32] ++ d.s ++ [32, 61, 32] ++ a.sh)) ⟨#[125]⟩).run Tryz.prog w = .ok (.string (bstr ([123] ++ c.pa ++ [32, 119, 105, 116, 104, 32] ++ d.s ++ [32, 61, 32] ++ a.sh ++ [125]))) w := addS ([123] ++ c.pa ++ [32, 119, 105, 116, 104, 32] ++ d.s ++ [32, 61, 32] ++ a.sh) ([125]) (by have h := HN.out; simp only [List.length_append, List.length_cons, List.length_nil]; omega)
  have HR : d.shF (shAt [a, c]) (paAt [a, c]) = [123] ++ c.pa ++ [32, 119, 105, 116, 104, 32] ++ d.s ++ [32, 61, 32] ++ a.sh ++ [125] := by unfold ExD.shF; rw [if_neg (by omega), if_neg (by omega), if_neg (by omega), if_neg (by omega)]; rw [if_pos (by unfold braceB; exact decide_eq_true (by omega))]; unfold ExD.bracesF; rw [if_neg (by omega), if_neg (by omega)]; simp [shAt, paAt]
  obtain ⟨x0, hx0⟩ : ∃ x : Str, [123] ++ c.pa = x := ⟨_, rfl⟩
  rw [hx0] at A0 A1 A2 A3 A4 A5 HR
  clear hx0
  obtain ⟨x1, hx1⟩ : ∃ x : Str, x0 ++ [32, 119, 105, 116, 104, 32] = x := ⟨_, rfl⟩
  rw [hx1] at A1 A2 A3 A4 A5 HR
  clear hx1
  obtain ⟨x2, hx2⟩ : ∃ x : Str, x1 ++ d.s = x := ⟨_, rfl⟩
  rw [hx2] at A2 A3 A4 A5 HR
  clear hx2
  obtain ⟨x3, hx3⟩ : ∃ x : Str, x2 ++ [32, 61, 32] = x := ⟨_, rfl⟩
  rw [hx3] at A3 A4 A5 HR
  clear hx3
  obtain ⟨x4, hx4⟩ : ∃ x : Str, x3 ++ a.sh = x := ⟨_, rfl⟩
  rw [hx4] at A4 A5 HR
  clear hx4
  obtain ⟨x5, hx5⟩ : ∃ x : Str, x4 ++ [125] = x := ⟨_, rfl⟩
  rw [hx5] at A5 HR
  clear hx5
  have HR := Lib.hid HR
  rw [HR.out]
  obtain ⟨pb, po, hpA, hAa, hAc⟩ := two_at hI
  have hb1 : Below W.heap.size W (W.alloc (.cells d.arr 25)) := (Below.refl _ _).alloc (Nat.le_refl _) _
  have hE := ex_box W d
  have HB1 := Lib.hid hb1
  have HW1 := Lib.hid (below_then hW hb1)
  have c0 := hE.c0
  have k3 := cell_regrown hE.c3
  have k4 := cell_regrown hE.c4
  have k7 := cell_regrown hE.c7
  have c3 := hE.c3
  have c7 := hE.c7
  rw [hpA, hpn] at k7 c7
  obtain ⟨a0, a1, a2, a3, a4, a5, a6, a7⟩ := hAa.lower HW1.out
  obtain ⟨c0, c1, c2, c3, c4, c5, c6, c7⟩ := hAc.lower HW1.out
  have ka0 := cell_regrown a0
  have ka1 := cell_regrown a1
  have ka2 := cell_regrown a2
  have ka3 := cell_regrown a3
  have ka4 := cell_regrown a4
  have ka5 := cell_regrown a5
  have ka6 := cell_regrown a6
  have ka7 := cell_regrown a7
  have kc0 := cell_regrown c0
  have kc1 := cell_regrown c1
  have kc2 := cell_regrown c2
  have kc3 := cell_regrown c3
  have kc4 := cell_regrown c4
  have kc5 := cell_regrown c5
  have kc6 := cell_regrown c6
  have kc7 := cell_regrown c7
  have Ca := Lib.hid (Wa.quiet HW1.out)
  have Cc := Lib.hid (Pc.quiet HW1.out)
  have q1 : (d.kind == 1) = false := by rw [hk]; rfl
  have q2 : (d.kind == 2) = false := by rw [hk]; rfl
  have q3 : (d.kind == 3) = false := by rw [hk]; rfl
  have q4 : (d.kind == 4) = false := by rw [hk]; rfl
  have q5 : (d.kind == 5) = false := by rw [hk]; rfl
  have q6 : (d.kind == 6) = false := by rw [hk]; rfl
  have q7 : (d.kind == 7) = false := by rw [hk]; rfl
  have q8 : (d.kind == 8) = false := by rw [hk]; rfl
  have q9 : (d.kind == 9) = false := by rw [hk]; rfl
  have q10 : (d.kind == 10) = false := by rw [hk]; rfl
  have q11 : (d.kind == 11) = false := by rw [hk]; rfl
  have q12 : (d.kind == 12) = true := by rw [hk]; rfl
  clear hI hpn hwt hpA hb1 hE hW hk La Wa Pa hAa Lc Wc Pc hAc
  obtain ⟨da, hda⟩ : ∃ da, a.d = da := ⟨_, rfl⟩
  rw [hda] at Ca ka0 ka1 ka2 ka3 ka4 ka5 ka6 ka7
  clear a0 a1 a2 a3 a4 a5 a6 a7
  clear hda
  obtain ⟨dc, hdc⟩ : ∃ dc, c.d = dc := ⟨_, rfl⟩
  rw [hdc] at Cc kc0 kc1 kc2 kc3 kc4 kc5 kc6 kc7
  clear c0 c1 c2 c3 c4 c5 c6 c7
  clear hdc
  clear c3 c7
  go_enter Tryz.func16, Tryz.ntmps16
  go_wp2_with fail
  refine wp_region_quiet_below (by kernel_rfl) (by kernel_rfl) ?_
  iterate 19 (quiet_step ((first | (go_at_call 16; with_reducible exact Ca.out _ _) | (go_at_call 41; with_reducible exact Cc.out _ _))))
  refine wpQuiet_nil ?_
  intro _ hw
  obtain ⟨⟨dq, osq⟩, hw''⟩ := hw
  subst hw''
  have hbq := below_regrown (W.alloc (.cells d.arr 25)) dq osq
  go_wp2_with fail
  go_returns
  exact ⟨rfl, below_then HB1.out hbq⟩

set_option maxRecDepth 100000 in
set_option maxHeartbeats 4000000 in
theorem refShow_13 (w0 : World) (d : ExD) (a : Ex) (hI : (Ex.mk d [a]).In w0) (hk : d.kind = 13) (hpn : d.pn = 1) (hwt : (Ex.mk d [a]).wt ≤ 100000000) (La : a.sh.length + 2 ≤ a.wt) (Wa : RShow w0 a) (Pa : RP w0 a) :
    RefAt 16 w0 d (d.shF (shAt [a]) (paAt [a])) := by
  intro W hW
  have HN := Lib.hid (wt_le_one hwt La)
  have A0 : ∀ w : World, (Op.stringOp .add (bstr (d.s)) ⟨#[32]⟩).run Tryz.prog w = .ok (.string (bstr (d.s ++ [32]))) w := addS (d.s) ([32]) (by have h := HN.out; simp only [List.length_append, List.length_cons, List.length_nil]; omega)
  have A1 : ∀ w : World, (Op.stringOp .add (bstr (d.s ++ [32])) (bstr (a.pa))).run Tryz.prog w = .ok (.string (bstr (d.s ++ [32] ++ a.pa))) w := addS (d.s ++ [32]) (a.pa) (by have h := HN.out; simp only [List.length_append, List.length_cons, List.length_nil]; omega)
  have HR : d.shF (shAt [a]) (paAt [a]) = d.s ++ [32] ++ a.pa := by unfold ExD.shF; rw [if_neg (by omega), if_neg (by omega), if_neg (by omega), if_neg (by omega)]; rw [if_neg (by unfold braceB; rw [decide_eq_true_eq]; omega), if_neg (by unfold blockB; rw [decide_eq_true_eq]; omega)]; unfold ExD.aheadF ExD.behindF; rw [if_pos hk, if_neg (by omega), if_neg (by omega), if_neg (by omega), if_neg (by omega), if_neg (by omega)]; simp [paAt]
  obtain ⟨x0, hx0⟩ : ∃ x : Str, d.s ++ [32] = x := ⟨_, rfl⟩
  rw [hx0] at A0 A1 HR
  clear hx0
  obtain ⟨x1, hx1⟩ : ∃ x : Str, x0 ++ a.pa = x := ⟨_, rfl⟩
  rw [hx1] at A1 HR
  clear hx1
  have HR := Lib.hid HR
  rw [HR.out]
  obtain ⟨pb, po, hpA, hAa⟩ := one_at hI
  have hb1 : Below W.heap.size W (W.alloc (.cells d.arr 25)) := (Below.refl _ _).alloc (Nat.le_refl _) _
  have hE := ex_box W d
  have HB1 := Lib.hid hb1
  have HW1 := Lib.hid (below_then hW hb1)
  have c0 := hE.c0
  have k3 := cell_regrown hE.c3
  have k4 := cell_regrown hE.c4
  have k7 := cell_regrown hE.c7
  have c3 := hE.c3
  have c7 := hE.c7
  rw [hpA, hpn] at k7 c7
  obtain ⟨a0, a1, a2, a3, a4, a5, a6, a7⟩ := hAa.lower HW1.out
  have ka0 := cell_regrown a0
  have ka1 := cell_regrown a1
  have ka2 := cell_regrown a2
  have ka3 := cell_regrown a3
  have ka4 := cell_regrown a4
  have ka5 := cell_regrown a5
  have ka6 := cell_regrown a6
  have ka7 := cell_regrown a7
  have Ca := Lib.hid (Pa.quiet HW1.out)
  have q1 : (d.kind == 1) = false := by rw [hk]; rfl
  have q2 : (d.kind == 2) = false := by rw [hk]; rfl
  have q3 : (d.kind == 3) = false := by rw [hk]; rfl
  have q4 : (d.kind == 4) = false := by rw [hk]; rfl
  have q5 : (d.kind == 5) = false := by rw [hk]; rfl
  have q6 : (d.kind == 6) = false := by rw [hk]; rfl
  have q7 : (d.kind == 7) = false := by rw [hk]; rfl
  have q8 : (d.kind == 8) = false := by rw [hk]; rfl
  have q9 : (d.kind == 9) = false := by rw [hk]; rfl
  have q10 : (d.kind == 10) = false := by rw [hk]; rfl
  have q11 : (d.kind == 11) = false := by rw [hk]; rfl
  have q12 : (d.kind == 12) = false := by rw [hk]; rfl
  have q13 : (d.kind == 13) = true := by rw [hk]; rfl
  clear hI hpn hwt hpA hb1 hE hW hk La Wa Pa hAa
  obtain ⟨da, hda⟩ : ∃ da, a.d = da := ⟨_, rfl⟩
  rw [hda] at Ca ka0 ka1 ka2 ka3 ka4 ka5 ka6 ka7
  clear a0 a1 a2 a3 a4 a5 a6 a7
  clear hda
  clear c3 c7
  go_enter Tryz.func16, Tryz.ntmps16
  go_wp2_with fail
  refine wp_region_quiet_below (by kernel_rfl) (by kernel_rfl) ?_
  iterate 10 (quiet_step ((go_at_call 41; with_reducible exact Ca.out _ _)))
  refine wpQuiet_nil ?_
  intro _ hw
  obtain ⟨⟨dq, osq⟩, hw''⟩ := hw
  subst hw''
  have hbq := below_regrown (W.alloc (.cells d.arr 25)) dq osq
  go_wp2_with fail
  go_returns
  exact ⟨rfl, below_then HB1.out hbq⟩

set_option maxRecDepth 100000 in
set_option maxHeartbeats 4000000 in
theorem refShow_15 (w0 : World) (d : ExD) (a c f : Ex) (hI : (Ex.mk d [a, c, f]).In w0) (hk : d.kind = 15) (hpn : d.pn = 3) (hwt : (Ex.mk d [a, c, f]).wt ≤ 100000000) (La : a.sh.length + 2 ≤ a.wt) (Wa : RShow w0 a) (Pa : RP w0 a) (Lc : c.sh.length + 2 ≤ c.wt) (Wc : RShow w0 c) (Pc : RP w0 c) (Lf : f.sh.length + 2 ≤ f.wt) (Wf : RShow w0 f) (Pf : RP w0 f) :
    RefAt 16 w0 d (d.shF (shAt [a, c, f]) (paAt [a, c, f])) := by
  intro W hW
  have HN := Lib.hid (wt_le_three hwt La Lc Lf)
  have A0 : ∀ w : World, (Op.stringOp .add ⟨#[105, 102, 32]⟩ (bstr (a.sh))).run Tryz.prog w = .ok (.string (bstr ([105, 102, 32] ++ a.sh))) w := addS ([105, 102, 32]) (a.sh) (by have h := HN.out; simp only [List.length_append, List.length_cons, List.length_nil]; omega)
  have A1 : ∀ w : World, (Op.stringOp .add (bstr ([105, 102, 32] ++ a.sh)) ⟨#[32, 116, 104, 101, 110, 32]⟩).run Tryz.prog w = .ok (.string (bstr ([105, 102, 32] ++ a.sh ++ [32, 116, 104, 101, 110, 32]))) w := addS ([105, 102, 32] ++ a.sh) ([32, 116, 104, 101, 110, 32]) (by have h := HN.out; simp only [List.length_append, List.length_cons, List.length_nil]; omega)
  have A2 : ∀ w : World, (Op.stringOp .add (bstr ([105, 102, 32] ++ a.sh ++ [32, 116, 104, 101, 110, 32])) (bstr (c.sh))).run Tryz.prog w = .ok (.string (bstr ([105, 102, 32] ++ a.sh ++ [32, 116, 104, 101, 110, 32] ++ c.sh))) w := addS ([105, 102, 32] ++ a.sh ++ [32, 116, 104, 101, 110, 32]) (c.sh) (by have h := HN.out; simp only [List.length_append, List.length_cons, List.length_nil]; omega)
  have A3 : ∀ w : World, (Op.stringOp .add (bstr ([105, 102, 32] ++ a.sh ++ [32, 116, 104, 101, 110, 32] ++ c.sh)) ⟨#[32, 101, 108, 115, 101, 32]⟩).run Tryz.prog w = .ok (.string (bstr ([105, 102, 32] ++ a.sh ++ [32, 116, 104, 101, 110, 32] ++ c.sh ++ [32, 101, 108, 115, 101, 32]))) w := addS ([105, 102, 32] ++ a.sh ++ [32, 116, 104, 101, 110, 32] ++ c.sh) ([32, 101, 108, 115, 101, 32]) (by have h := HN.out; simp only [List.length_append, List.length_cons, List.length_nil]; omega)
  have A4 : ∀ w : World, (Op.stringOp .add (bstr ([105, 102, 32] ++ a.sh ++ [32, 116, 104, 101, 110, 32] ++ c.sh ++ [32, 101, 108, 115, 101, 32])) (bstr (f.sh))).run Tryz.prog w = .ok (.string (bstr ([105, 102, 32] ++ a.sh ++ [32, 116, 104, 101, 110, 32] ++ c.sh ++ [32, 101, 108, 115, 101, 32] ++ f.sh))) w := addS ([105, 102, 32] ++ a.sh ++ [32, 116, 104, 101, 110, 32] ++ c.sh ++ [32, 101, 108, 115, 101, 32]) (f.sh) (by have h := HN.out; simp only [List.length_append, List.length_cons, List.length_nil]; omega)
  have HR : d.shF (shAt [a, c, f]) (paAt [a, c, f]) = [105, 102, 32] ++ a.sh ++ [32, 116, 104, 101, 110, 32] ++ c.sh ++ [32, 101, 108, 115, 101, 32] ++ f.sh := by unfold ExD.shF; rw [if_neg (by omega), if_neg (by omega), if_neg (by omega), if_neg (by omega)]; rw [if_neg (by unfold braceB; rw [decide_eq_true_eq]; omega), if_pos (by unfold blockB; exact decide_eq_true (by omega))]; unfold ExD.blockF; rw [if_neg (by omega), if_neg (by omega), if_neg (by omega), if_pos hk]; simp [shAt, betweenTo, inS]
  obtain ⟨x0, hx0⟩ : ∃ x : Str, [105, 102, 32] ++ a.sh = x := ⟨_, rfl⟩
  rw [hx0] at A0 A1 A2 A3 A4 HR
  clear hx0
  obtain ⟨x1, hx1⟩ : ∃ x : Str, x0 ++ [32, 116, 104, 101, 110, 32] = x := ⟨_, rfl⟩
  rw [hx1] at A1 A2 A3 A4 HR
  clear hx1
  obtain ⟨x2, hx2⟩ : ∃ x : Str, x1 ++ c.sh = x := ⟨_, rfl⟩
  rw [hx2] at A2 A3 A4 HR
  clear hx2
  obtain ⟨x3, hx3⟩ : ∃ x : Str, x2 ++ [32, 101, 108, 115, 101, 32] = x := ⟨_, rfl⟩
  rw [hx3] at A3 A4 HR
  clear hx3
  obtain ⟨x4, hx4⟩ : ∃ x : Str, x3 ++ f.sh = x := ⟨_, rfl⟩
  rw [hx4] at A4 HR
  clear hx4
  have HR := Lib.hid HR
  rw [HR.out]
  obtain ⟨pb, po, hpA, hAa, hAc, hAf⟩ := three_at hI
  have hb1 : Below W.heap.size W (W.alloc (.cells d.arr 25)) := (Below.refl _ _).alloc (Nat.le_refl _) _
  have hE := ex_box W d
  have HB1 := Lib.hid hb1
  have HW1 := Lib.hid (below_then hW hb1)
  have c0 := hE.c0
  have k3 := cell_regrown hE.c3
  have k4 := cell_regrown hE.c4
  have k7 := cell_regrown hE.c7
  have c3 := hE.c3
  have c7 := hE.c7
  rw [hpA, hpn] at k7 c7
  obtain ⟨a0, a1, a2, a3, a4, a5, a6, a7⟩ := hAa.lower HW1.out
  obtain ⟨c0, c1, c2, c3, c4, c5, c6, c7⟩ := hAc.lower HW1.out
  obtain ⟨f0, f1, f2, f3, f4, f5, f6, f7⟩ := hAf.lower HW1.out
  have ka0 := cell_regrown a0
  have ka1 := cell_regrown a1
  have ka2 := cell_regrown a2
  have ka3 := cell_regrown a3
  have ka4 := cell_regrown a4
  have ka5 := cell_regrown a5
  have ka6 := cell_regrown a6
  have ka7 := cell_regrown a7
  have kc0 := cell_regrown c0
  have kc1 := cell_regrown c1
  have kc2 := cell_regrown c2
  have kc3 := cell_regrown c3
  have kc4 := cell_regrown c4
  have kc5 := cell_regrown c5
  have kc6 := cell_regrown c6
  have kc7 := cell_regrown c7
  have kf0 := cell_regrown f0
  have kf1 := cell_regrown f1
  have kf2 := cell_regrown f2
  have kf3 := cell_regrown f3
  have kf4 := cell_regrown f4
  have kf5 := cell_regrown f5
  have kf6 := cell_regrown f6
  have kf7 := cell_regrown f7
  have Ca := Lib.hid (Wa.quiet HW1.out)
  have Cc := Lib.hid (Wc.quiet HW1.out)
  have Cf := Lib.hid (Wf.quiet HW1.out)
  have q1 : (d.kind == 1) = false := by rw [hk]; rfl
  have q2 : (d.kind == 2) = false := by rw [hk]; rfl
  have q3 : (d.kind == 3) = false := by rw [hk]; rfl
  have q4 : (d.kind == 4) = false := by rw [hk]; rfl
  have q5 : (d.kind == 5) = false := by rw [hk]; rfl
  have q6 : (d.kind == 6) = false := by rw [hk]; rfl
  have q7 : (d.kind == 7) = false := by rw [hk]; rfl
  have q8 : (d.kind == 8) = false := by rw [hk]; rfl
  have q9 : (d.kind == 9) = false := by rw [hk]; rfl
  have q10 : (d.kind == 10) = false := by rw [hk]; rfl
  have q11 : (d.kind == 11) = false := by rw [hk]; rfl
  have q12 : (d.kind == 12) = false := by rw [hk]; rfl
  have q13 : (d.kind == 13) = false := by rw [hk]; rfl
  have q14 : (d.kind == 14) = false := by rw [hk]; rfl
  have q15 : (d.kind == 15) = true := by rw [hk]; rfl
  clear hI hpn hwt hpA hb1 hE hW hk La Wa Pa hAa Lc Wc Pc hAc Lf Wf Pf hAf
  obtain ⟨da, hda⟩ : ∃ da, a.d = da := ⟨_, rfl⟩
  rw [hda] at Ca ka0 ka1 ka2 ka3 ka4 ka5 ka6 ka7
  clear a0 a1 a2 a3 a4 a5 a6 a7
  clear hda
  obtain ⟨dc, hdc⟩ : ∃ dc, c.d = dc := ⟨_, rfl⟩
  rw [hdc] at Cc kc0 kc1 kc2 kc3 kc4 kc5 kc6 kc7
  clear c0 c1 c2 c3 c4 c5 c6 c7
  clear hdc
  obtain ⟨df, hdf⟩ : ∃ df, f.d = df := ⟨_, rfl⟩
  rw [hdf] at Cf kf0 kf1 kf2 kf3 kf4 kf5 kf6 kf7
  clear f0 f1 f2 f3 f4 f5 f6 f7
  clear hdf
  clear c3 c7
  go_enter Tryz.func16, Tryz.ntmps16
  go_wp2_with fail
  refine wp_region_quiet_below (by kernel_rfl) (by kernel_rfl) ?_
  iterate 21 (quiet_step ((first | (go_at_call 16; with_reducible exact Ca.out _ _) | (go_at_call 16; with_reducible exact Cc.out _ _) | (go_at_call 16; with_reducible exact Cf.out _ _))))
  refine wpQuiet_nil ?_
  intro _ hw
  obtain ⟨⟨dq, osq⟩, hw''⟩ := hw
  subst hw''
  have hbq := below_regrown (W.alloc (.cells d.arr 25)) dq osq
  go_wp2_with fail
  go_returns
  exact ⟨rfl, below_then HB1.out hbq⟩

set_option maxRecDepth 100000 in
set_option maxHeartbeats 4000000 in
theorem refShow_16 (w0 : World) (d : ExD) (a c : Ex) (hI : (Ex.mk d [a, c]).In w0) (hk : d.kind = 16) (hpn : d.pn = 2) (hwt : (Ex.mk d [a, c]).wt ≤ 100000000) (La : a.sh.length + 2 ≤ a.wt) (Wa : RShow w0 a) (Pa : RP w0 a) (Lc : c.sh.length + 2 ≤ c.wt) (Wc : RShow w0 c) (Pc : RP w0 c) :
    RefAt 16 w0 d (d.shF (shAt [a, c]) (paAt [a, c])) := by
  intro W hW
  have HN := Lib.hid (wt_le_two hwt La Lc)
  have A0 : ∀ w : World, (Op.stringOp .add (bstr (a.pa)) ⟨#[32]⟩).run Tryz.prog w = .ok (.string (bstr (a.pa ++ [32]))) w := addS (a.pa) ([32]) (by have h := HN.out; simp only [List.length_append, List.length_cons, List.length_nil]; omega)
  have A1 : ∀ w : World, (Op.stringOp .add (bstr (a.pa ++ [32])) (bstr (d.s))).run Tryz.prog w = .ok (.string (bstr (a.pa ++ [32] ++ d.s))) w := addS (a.pa ++ [32]) (d.s) (by have h := HN.out; simp only [List.length_append, List.length_cons, List.length_nil]; omega)
  have A2 : ∀ w : World, (Op.stringOp .add (bstr (a.pa ++ [32] ++ d.s)) ⟨#[32]⟩).run Tryz.prog w = .ok (.string (bstr (a.pa ++ [32] ++ d.s ++ [32]))) w := addS (a.pa ++ [32] ++ d.s) ([32]) (by have h := HN.out; simp only [List.length_append, List.length_cons, List.length_nil]; omega)
  have A3 : ∀ w : World, (Op.stringOp .add (bstr (a.pa ++ [32] ++ d.s ++ [32])) (bstr (c.pa))).run Tryz.prog w = .ok (.string (bstr (a.pa ++ [32] ++ d.s ++ [32] ++ c.pa))) w := addS (a.pa ++ [32] ++ d.s ++ [32]) (c.pa) (by have h := HN.out; simp only [List.length_append, List.length_cons, List.length_nil]; omega)
  have HR : d.shF (shAt [a, c]) (paAt [a, c]) = a.pa ++ [32] ++ d.s ++ [32] ++ c.pa := by unfold ExD.shF; rw [if_neg (by omega), if_neg (by omega), if_neg (by omega), if_neg (by omega)]; rw [if_neg (by unfold braceB; rw [decide_eq_true_eq]; omega), if_neg (by unfold blockB; rw [decide_eq_true_eq]; omega)]; unfold ExD.aheadF ExD.behindF; rw [if_neg (by omega), if_neg (by omega), if_neg (by omega), if_neg (by omega), if_neg (by omega), if_neg (by omega), if_neg (by omega), if_neg (by omega), if_pos hk]; simp [paAt]
  obtain ⟨x0, hx0⟩ : ∃ x : Str, a.pa ++ [32] = x := ⟨_, rfl⟩
  rw [hx0] at A0 A1 A2 A3 HR
  clear hx0
  obtain ⟨x1, hx1⟩ : ∃ x : Str, x0 ++ d.s = x := ⟨_, rfl⟩
  rw [hx1] at A1 A2 A3 HR
  clear hx1
  obtain ⟨x2, hx2⟩ : ∃ x : Str, x1 ++ [32] = x := ⟨_, rfl⟩
  rw [hx2] at A2 A3 HR
  clear hx2
  obtain ⟨x3, hx3⟩ : ∃ x : Str, x2 ++ c.pa = x := ⟨_, rfl⟩
  rw [hx3] at A3 HR
  clear hx3
  have HR := Lib.hid HR
  rw [HR.out]
  obtain ⟨pb, po, hpA, hAa, hAc⟩ := two_at hI
  have hb1 : Below W.heap.size W (W.alloc (.cells d.arr 25)) := (Below.refl _ _).alloc (Nat.le_refl _) _
  have hE := ex_box W d
  have HB1 := Lib.hid hb1
  have HW1 := Lib.hid (below_then hW hb1)
  have c0 := hE.c0
  have k3 := cell_regrown hE.c3
  have k4 := cell_regrown hE.c4
  have k7 := cell_regrown hE.c7
  have c3 := hE.c3
  have c7 := hE.c7
  rw [hpA, hpn] at k7 c7
  obtain ⟨a0, a1, a2, a3, a4, a5, a6, a7⟩ := hAa.lower HW1.out
  obtain ⟨c0, c1, c2, c3, c4, c5, c6, c7⟩ := hAc.lower HW1.out
  have ka0 := cell_regrown a0
  have ka1 := cell_regrown a1
  have ka2 := cell_regrown a2
  have ka3 := cell_regrown a3
  have ka4 := cell_regrown a4
  have ka5 := cell_regrown a5
  have ka6 := cell_regrown a6
  have ka7 := cell_regrown a7
  have kc0 := cell_regrown c0
  have kc1 := cell_regrown c1
  have kc2 := cell_regrown c2
  have kc3 := cell_regrown c3
  have kc4 := cell_regrown c4
  have kc5 := cell_regrown c5
  have kc6 := cell_regrown c6
  have kc7 := cell_regrown c7
  have Ca := Lib.hid (Pa.quiet HW1.out)
  have Cc := Lib.hid (Pc.quiet HW1.out)
  have q1 : (d.kind == 1) = false := by rw [hk]; rfl
  have q2 : (d.kind == 2) = false := by rw [hk]; rfl
  have q3 : (d.kind == 3) = false := by rw [hk]; rfl
  have q4 : (d.kind == 4) = false := by rw [hk]; rfl
  have q5 : (d.kind == 5) = false := by rw [hk]; rfl
  have q6 : (d.kind == 6) = false := by rw [hk]; rfl
  have q7 : (d.kind == 7) = false := by rw [hk]; rfl
  have q8 : (d.kind == 8) = false := by rw [hk]; rfl
  have q9 : (d.kind == 9) = false := by rw [hk]; rfl
  have q10 : (d.kind == 10) = false := by rw [hk]; rfl
  have q11 : (d.kind == 11) = false := by rw [hk]; rfl
  have q12 : (d.kind == 12) = false := by rw [hk]; rfl
  have q13 : (d.kind == 13) = false := by rw [hk]; rfl
  have q14 : (d.kind == 14) = false := by rw [hk]; rfl
  have q15 : (d.kind == 15) = false := by rw [hk]; rfl
  have q16 : (d.kind == 16) = true := by rw [hk]; rfl
  clear hI hpn hwt hpA hb1 hE hW hk La Wa Pa hAa Lc Wc Pc hAc
  obtain ⟨da, hda⟩ : ∃ da, a.d = da := ⟨_, rfl⟩
  rw [hda] at Ca ka0 ka1 ka2 ka3 ka4 ka5 ka6 ka7
  clear a0 a1 a2 a3 a4 a5 a6 a7
  clear hda
  obtain ⟨dc, hdc⟩ : ∃ dc, c.d = dc := ⟨_, rfl⟩
  rw [hdc] at Cc kc0 kc1 kc2 kc3 kc4 kc5 kc6 kc7
  clear c0 c1 c2 c3 c4 c5 c6 c7
  clear hdc
  clear c3 c7
  go_enter Tryz.func16, Tryz.ntmps16
  go_wp2_with fail
  refine wp_region_quiet_below (by kernel_rfl) (by kernel_rfl) ?_
  iterate 17 (quiet_step ((first | (go_at_call 41; with_reducible exact Ca.out _ _) | (go_at_call 41; with_reducible exact Cc.out _ _))))
  refine wpQuiet_nil ?_
  intro _ hw
  obtain ⟨⟨dq, osq⟩, hw''⟩ := hw
  subst hw''
  have hbq := below_regrown (W.alloc (.cells d.arr 25)) dq osq
  go_wp2_with fail
  go_returns
  exact ⟨rfl, below_then HB1.out hbq⟩

set_option maxRecDepth 100000 in
set_option maxHeartbeats 4000000 in
theorem refShow_17 (w0 : World) (d : ExD) (a : Ex) (hI : (Ex.mk d [a]).In w0) (hk : d.kind = 17) (hpn : d.pn = 1) (hwt : (Ex.mk d [a]).wt ≤ 100000000) (La : a.sh.length + 2 ≤ a.wt) (Wa : RShow w0 a) (Pa : RP w0 a) :
    RefAt 16 w0 d (d.shF (shAt [a]) (paAt [a])) := by
  intro W hW
  have HN := Lib.hid (wt_le_one hwt La)
  have A0 : ∀ w : World, (Op.stringOp .add ⟨#[114, 101, 102, 32]⟩ (bstr (a.pa))).run Tryz.prog w = .ok (.string (bstr ([114, 101, 102, 32] ++ a.pa))) w := addS ([114, 101, 102, 32]) (a.pa) (by have h := HN.out; simp only [List.length_append, List.length_cons, List.length_nil]; omega)
  have HR : d.shF (shAt [a]) (paAt [a]) = [114, 101, 102, 32] ++ a.pa := by unfold ExD.shF; rw [if_neg (by omega), if_neg (by omega), if_neg (by omega), if_neg (by omega)]; rw [if_neg (by unfold braceB; rw [decide_eq_true_eq]; omega), if_neg (by unfold blockB; rw [decide_eq_true_eq]; omega)]; unfold ExD.aheadF ExD.behindF; rw [if_neg (by omega), if_pos hk, if_neg (by omega), if_neg (by omega), if_neg (by omega), if_neg (by omega), if_neg (by omega)]; simp [paAt]
  obtain ⟨x0, hx0⟩ : ∃ x : Str, [114, 101, 102, 32] ++ a.pa = x := ⟨_, rfl⟩
  rw [hx0] at A0 HR
  clear hx0
  have HR := Lib.hid HR
  rw [HR.out]
  obtain ⟨pb, po, hpA, hAa⟩ := one_at hI
  have hb1 : Below W.heap.size W (W.alloc (.cells d.arr 25)) := (Below.refl _ _).alloc (Nat.le_refl _) _
  have hE := ex_box W d
  have HB1 := Lib.hid hb1
  have HW1 := Lib.hid (below_then hW hb1)
  have c0 := hE.c0
  have k3 := cell_regrown hE.c3
  have k4 := cell_regrown hE.c4
  have k7 := cell_regrown hE.c7
  have c3 := hE.c3
  have c7 := hE.c7
  rw [hpA, hpn] at k7 c7
  obtain ⟨a0, a1, a2, a3, a4, a5, a6, a7⟩ := hAa.lower HW1.out
  have Ca := Lib.hid (Pa _ HW1.out)
  have q1 : (d.kind == 1) = false := by rw [hk]; rfl
  have q2 : (d.kind == 2) = false := by rw [hk]; rfl
  have q3 : (d.kind == 3) = false := by rw [hk]; rfl
  have q4 : (d.kind == 4) = false := by rw [hk]; rfl
  have q5 : (d.kind == 5) = false := by rw [hk]; rfl
  have q6 : (d.kind == 6) = false := by rw [hk]; rfl
  have q7 : (d.kind == 7) = false := by rw [hk]; rfl
  have q8 : (d.kind == 8) = false := by rw [hk]; rfl
  have q9 : (d.kind == 9) = false := by rw [hk]; rfl
  have q10 : (d.kind == 10) = false := by rw [hk]; rfl
  have q11 : (d.kind == 11) = false := by rw [hk]; rfl
  have q12 : (d.kind == 12) = false := by rw [hk]; rfl
  have q13 : (d.kind == 13) = false := by rw [hk]; rfl
  have q14 : (d.kind == 14) = false := by rw [hk]; rfl
  have q15 : (d.kind == 15) = false := by rw [hk]; rfl
  have q16 : (d.kind == 16) = false := by rw [hk]; rfl
  have q17 : (d.kind == 17) = true := by rw [hk]; rfl
  clear hI hpn hwt hpA hb1 hE hW hk La Wa Pa hAa
  obtain ⟨da, hda⟩ : ∃ da, a.d = da := ⟨_, rfl⟩
  rw [hda] at Ca a0 a1 a2 a3 a4 a5 a6 a7
  clear hda
  go_enter Tryz.func16, Tryz.ntmps16
  go_wp2_with fail
  refine Ca.out.mono ?_
  rintro e w2 ⟨rfl, hb2⟩
  have H2 := Lib.hid (below_then HB1.out hb2)
  clear hb2
  go_wp2_with fail
  go_returns
  exact ⟨rfl, H2.out⟩

set_option maxRecDepth 100000 in
set_option maxHeartbeats 4000000 in
theorem refShow_18 (w0 : World) (d : ExD) (a : Ex) (hI : (Ex.mk d [a]).In w0) (hk : d.kind = 18) (hpn : d.pn = 1) (hwt : (Ex.mk d [a]).wt ≤ 100000000) (La : a.sh.length + 2 ≤ a.wt) (Wa : RShow w0 a) (Pa : RP w0 a) :
    RefAt 16 w0 d (d.shF (shAt [a]) (paAt [a])) := by
  intro W hW
  have HN := Lib.hid (wt_le_one hwt La)
  have A0 : ∀ w : World, (Op.stringOp .add ⟨#[33]⟩ (bstr (a.pa))).run Tryz.prog w = .ok (.string (bstr ([33] ++ a.pa))) w := addS ([33]) (a.pa) (by have h := HN.out; simp only [List.length_append, List.length_cons, List.length_nil]; omega)
  have HR : d.shF (shAt [a]) (paAt [a]) = [33] ++ a.pa := by unfold ExD.shF; rw [if_neg (by omega), if_neg (by omega), if_neg (by omega), if_neg (by omega)]; rw [if_neg (by unfold braceB; rw [decide_eq_true_eq]; omega), if_neg (by unfold blockB; rw [decide_eq_true_eq]; omega)]; unfold ExD.aheadF ExD.behindF; rw [if_neg (by omega), if_neg (by omega), if_neg (by omega), if_neg (by omega), if_pos hk, if_neg (by omega), if_neg (by omega), if_neg (by omega), if_neg (by omega), if_neg (by omega)]; simp [paAt]
  obtain ⟨x0, hx0⟩ : ∃ x : Str, [33] ++ a.pa = x := ⟨_, rfl⟩
  rw [hx0] at A0 HR
  clear hx0
  have HR := Lib.hid HR
  rw [HR.out]
  obtain ⟨pb, po, hpA, hAa⟩ := one_at hI
  have hb1 : Below W.heap.size W (W.alloc (.cells d.arr 25)) := (Below.refl _ _).alloc (Nat.le_refl _) _
  have hE := ex_box W d
  have HB1 := Lib.hid hb1
  have HW1 := Lib.hid (below_then hW hb1)
  have c0 := hE.c0
  have k3 := cell_regrown hE.c3
  have k4 := cell_regrown hE.c4
  have k7 := cell_regrown hE.c7
  have c3 := hE.c3
  have c7 := hE.c7
  rw [hpA, hpn] at k7 c7
  obtain ⟨a0, a1, a2, a3, a4, a5, a6, a7⟩ := hAa.lower HW1.out
  have Ca := Lib.hid (Pa _ HW1.out)
  have q1 : (d.kind == 1) = false := by rw [hk]; rfl
  have q2 : (d.kind == 2) = false := by rw [hk]; rfl
  have q3 : (d.kind == 3) = false := by rw [hk]; rfl
  have q4 : (d.kind == 4) = false := by rw [hk]; rfl
  have q5 : (d.kind == 5) = false := by rw [hk]; rfl
  have q6 : (d.kind == 6) = false := by rw [hk]; rfl
  have q7 : (d.kind == 7) = false := by rw [hk]; rfl
  have q8 : (d.kind == 8) = false := by rw [hk]; rfl
  have q9 : (d.kind == 9) = false := by rw [hk]; rfl
  have q10 : (d.kind == 10) = false := by rw [hk]; rfl
  have q11 : (d.kind == 11) = false := by rw [hk]; rfl
  have q12 : (d.kind == 12) = false := by rw [hk]; rfl
  have q13 : (d.kind == 13) = false := by rw [hk]; rfl
  have q14 : (d.kind == 14) = false := by rw [hk]; rfl
  have q15 : (d.kind == 15) = false := by rw [hk]; rfl
  have q16 : (d.kind == 16) = false := by rw [hk]; rfl
  have q17 : (d.kind == 17) = false := by rw [hk]; rfl
  have q18 : (d.kind == 18) = true := by rw [hk]; rfl
  clear hI hpn hwt hpA hb1 hE hW hk La Wa Pa hAa
  obtain ⟨da, hda⟩ : ∃ da, a.d = da := ⟨_, rfl⟩
  rw [hda] at Ca a0 a1 a2 a3 a4 a5 a6 a7
  clear hda
  go_enter Tryz.func16, Tryz.ntmps16
  go_wp2_with fail
  refine Ca.out.mono ?_
  rintro e w2 ⟨rfl, hb2⟩
  have H2 := Lib.hid (below_then HB1.out hb2)
  clear hb2
  go_wp2_with fail
  go_returns
  exact ⟨rfl, H2.out⟩

set_option maxRecDepth 100000 in
set_option maxHeartbeats 4000000 in
theorem refShow_19 (w0 : World) (d : ExD) (a c : Ex) (hI : (Ex.mk d [a, c]).In w0) (hk : d.kind = 19) (hpn : d.pn = 2) (hwt : (Ex.mk d [a, c]).wt ≤ 100000000) (La : a.sh.length + 2 ≤ a.wt) (Wa : RShow w0 a) (Pa : RP w0 a) (Lc : c.sh.length + 2 ≤ c.wt) (Wc : RShow w0 c) (Pc : RP w0 c) :
    RefAt 16 w0 d (d.shF (shAt [a, c]) (paAt [a, c])) := by
  intro W hW
  have HN := Lib.hid (wt_le_two hwt La Lc)
  have A0 : ∀ w : World, (Op.stringOp .add (bstr (a.pa)) ⟨#[32, 58, 61, 32]⟩).run Tryz.prog w = .ok (.string (bstr (a.pa ++ [32, 58, 61, 32]))) w := addS (a.pa) ([32, 58, 61, 32]) (by have h := HN.out; simp only [List.length_append, List.length_cons, List.length_nil]; omega)
  have A1 : ∀ w : World, (Op.stringOp .add (bstr (a.pa ++ [32, 58, 61, 32])) (bstr (c.pa))).run Tryz.prog w = .ok (.string (bstr (a.pa ++ [32, 58, 61, 32] ++ c.pa))) w := addS (a.pa ++ [32, 58, 61, 32]) (c.pa) (by have h := HN.out; simp only [List.length_append, List.length_cons, List.length_nil]; omega)
  have HR : d.shF (shAt [a, c]) (paAt [a, c]) = a.pa ++ [32, 58, 61, 32] ++ c.pa := by unfold ExD.shF; rw [if_neg (by omega), if_neg (by omega), if_neg (by omega), if_neg (by omega)]; rw [if_neg (by unfold braceB; rw [decide_eq_true_eq]; omega), if_neg (by unfold blockB; rw [decide_eq_true_eq]; omega)]; unfold ExD.aheadF ExD.behindF; rw [if_neg (by omega), if_neg (by omega), if_neg (by omega), if_neg (by omega), if_neg (by omega), if_neg (by omega), if_neg (by omega), if_neg (by omega), if_neg (by omega), if_pos hk]; simp [paAt]
  obtain ⟨x0, hx0⟩ : ∃ x : Str, a.pa ++ [32, 58, 61, 32] = x := ⟨_, rfl⟩
  rw [hx0] at A0 A1 HR
  clear hx0
  obtain ⟨x1, hx1⟩ : ∃ x : Str, x0 ++ c.pa = x := ⟨_, rfl⟩
  rw [hx1] at A1 HR
  clear hx1
  have HR := Lib.hid HR
  rw [HR.out]
  obtain ⟨pb, po, hpA, hAa, hAc⟩ := two_at hI
  have hb1 : Below W.heap.size W (W.alloc (.cells d.arr 25)) := (Below.refl _ _).alloc (Nat.le_refl _) _
  have hE := ex_box W d
  have HB1 := Lib.hid hb1
  have HW1 := Lib.hid (below_then hW hb1)
  have c0 := hE.c0
  have k3 := cell_regrown hE.c3
  have k4 := cell_regrown hE.c4
  have k7 := cell_regrown hE.c7
  have c3 := hE.c3
  have c7 := hE.c7
  rw [hpA, hpn] at k7 c7
  obtain ⟨a0, a1, a2, a3, a4, a5, a6, a7⟩ := hAa.lower HW1.out
  obtain ⟨c0, c1, c2, c3, c4, c5, c6, c7⟩ := hAc.lower HW1.out
  have ka0 := cell_regrown a0
  have ka1 := cell_regrown a1
  have ka2 := cell_regrown a2
  have ka3 := cell_regrown a3
  have ka4 := cell_regrown a4
  have ka5 := cell_regrown a5
  have ka6 := cell_regrown a6
  have ka7 := cell_regrown a7
  have kc0 := cell_regrown c0
  have kc1 := cell_regrown c1
  have kc2 := cell_regrown c2
  have kc3 := cell_regrown c3
  have kc4 := cell_regrown c4
  have kc5 := cell_regrown c5
  have kc6 := cell_regrown c6
  have kc7 := cell_regrown c7
  have Ca := Lib.hid (Pa.quiet HW1.out)
  have Cc := Lib.hid (Pc.quiet HW1.out)
  have q1 : (d.kind == 1) = false := by rw [hk]; rfl
  have q2 : (d.kind == 2) = false := by rw [hk]; rfl
  have q3 : (d.kind == 3) = false := by rw [hk]; rfl
  have q4 : (d.kind == 4) = false := by rw [hk]; rfl
  have q5 : (d.kind == 5) = false := by rw [hk]; rfl
  have q6 : (d.kind == 6) = false := by rw [hk]; rfl
  have q7 : (d.kind == 7) = false := by rw [hk]; rfl
  have q8 : (d.kind == 8) = false := by rw [hk]; rfl
  have q9 : (d.kind == 9) = false := by rw [hk]; rfl
  have q10 : (d.kind == 10) = false := by rw [hk]; rfl
  have q11 : (d.kind == 11) = false := by rw [hk]; rfl
  have q12 : (d.kind == 12) = false := by rw [hk]; rfl
  have q13 : (d.kind == 13) = false := by rw [hk]; rfl
  have q14 : (d.kind == 14) = false := by rw [hk]; rfl
  have q15 : (d.kind == 15) = false := by rw [hk]; rfl
  have q16 : (d.kind == 16) = false := by rw [hk]; rfl
  have q17 : (d.kind == 17) = false := by rw [hk]; rfl
  have q18 : (d.kind == 18) = false := by rw [hk]; rfl
  have q19 : (d.kind == 19) = true := by rw [hk]; rfl
  clear hI hpn hwt hpA hb1 hE hW hk La Wa Pa hAa Lc Wc Pc hAc
  obtain ⟨da, hda⟩ : ∃ da, a.d = da := ⟨_, rfl⟩
  rw [hda] at Ca ka0 ka1 ka2 ka3 ka4 ka5 ka6 ka7
  clear a0 a1 a2 a3 a4 a5 a6 a7
  clear hda
  obtain ⟨dc, hdc⟩ : ∃ dc, c.d = dc := ⟨_, rfl⟩
  rw [hdc] at Cc kc0 kc1 kc2 kc3 kc4 kc5 kc6 kc7
  clear c0 c1 c2 c3 c4 c5 c6 c7
  clear hdc
  clear c3 c7
  go_enter Tryz.func16, Tryz.ntmps16
  go_wp2_with fail
  refine wp_region_quiet_below (by kernel_rfl) (by kernel_rfl) ?_
  iterate 13 (quiet_step ((first | (go_at_call 41; with_reducible exact Ca.out _ _) | (go_at_call 41; with_reducible exact Cc.out _ _))))
  refine wpQuiet_nil ?_
  intro _ hw
  obtain ⟨⟨dq, osq⟩, hw''⟩ := hw
  subst hw''
  have hbq := below_regrown (W.alloc (.cells d.arr 25)) dq osq
  go_wp2_with fail
  go_returns
  exact ⟨rfl, below_then HB1.out hbq⟩

set_option maxRecDepth 100000 in
set_option maxHeartbeats 4000000 in
theorem refShow_20 (w0 : World) (d : ExD) (a : Ex) (hI : (Ex.mk d [a]).In w0) (hk : d.kind = 20) (hpn : d.pn = 1) (hwt : (Ex.mk d [a]).wt ≤ 100000000) (La : a.sh.length + 2 ≤ a.wt) (Wa : RShow w0 a) (Pa : RP w0 a) :
    RefAt 16 w0 d (d.shF (shAt [a]) (paAt [a])) := by
  intro W hW
  have HN := Lib.hid (wt_le_one hwt La)
  have A0 : ∀ w : World, (Op.stringOp .add ⟨#[112, 114, 105, 110, 116, 32]⟩ (bstr (a.pa))).run Tryz.prog w = .ok (.string (bstr ([112, 114, 105, 110, 116, 32] ++ a.pa))) w := addS ([112, 114, 105, 110, 116, 32]) (a.pa) (by have h := HN.out; simp only [List.length_append, List.length_cons, List.length_nil]; omega)
  have HR : d.shF (shAt [a]) (paAt [a]) = [112, 114, 105, 110, 116, 32] ++ a.pa := by unfold ExD.shF; rw [if_neg (by omega), if_neg (by omega), if_neg (by omega), if_neg (by omega)]; rw [if_neg (by unfold braceB; rw [decide_eq_true_eq]; omega), if_neg (by unfold blockB; rw [decide_eq_true_eq]; omega)]; unfold ExD.aheadF ExD.behindF; rw [if_neg (by omega), if_neg (by omega), if_pos hk, if_neg (by omega), if_neg (by omega), if_neg (by omega), if_neg (by omega), if_neg (by omega)]; simp [paAt]
  obtain ⟨x0, hx0⟩ : ∃ x : Str, [112, 114, 105, 110, 116, 32] ++ a.pa = x := ⟨_, rfl⟩
  rw [hx0] at A0 HR
  clear hx0
  have HR := Lib.hid HR
  rw [HR.out]
  obtain ⟨pb, po, hpA, hAa⟩ := one_at hI
  have hb1 : Below W.heap.size W (W.alloc (.cells d.arr 25)) := (Below.refl _ _).alloc (Nat.le_refl _) _
  have hE := ex_box W d
  have HB1 := Lib.hid hb1
  have HW1 := Lib.hid (below_then hW hb1)
  have c0 := hE.c0
  have k3 := cell_regrown hE.c3
  have k4 := cell_regrown hE.c4
  have k7 := cell_regrown hE.c7
  have c3 := hE.c3
  have c7 := hE.c7
  rw [hpA, hpn] at k7 c7
  obtain ⟨a0, a1, a2, a3, a4, a5, a6, a7⟩ := hAa.lower HW1.out
  have Ca := Lib.hid (Pa _ HW1.out)
  have q1 : (d.kind == 1) = false := by rw [hk]; rfl
  have q2 : (d.kind == 2) = false := by rw [hk]; rfl
  have q3 : (d.kind == 3) = false := by rw [hk]; rfl
  have q4 : (d.kind == 4) = false := by rw [hk]; rfl
  have q5 : (d.kind == 5) = false := by rw [hk]; rfl
  have q6 : (d.kind == 6) = false := by rw [hk]; rfl
  have q7 : (d.kind == 7) = false := by rw [hk]; rfl
  have q8 : (d.kind == 8) = false := by rw [hk]; rfl
  have q9 : (d.kind == 9) = false := by rw [hk]; rfl
  have q10 : (d.kind == 10) = false := by rw [hk]; rfl
  have q11 : (d.kind == 11) = false := by rw [hk]; rfl
  have q12 : (d.kind == 12) = false := by rw [hk]; rfl
  have q13 : (d.kind == 13) = false := by rw [hk]; rfl
  have q14 : (d.kind == 14) = false := by rw [hk]; rfl
  have q15 : (d.kind == 15) = false := by rw [hk]; rfl
  have q16 : (d.kind == 16) = false := by rw [hk]; rfl
  have q17 : (d.kind == 17) = false := by rw [hk]; rfl
  have q18 : (d.kind == 18) = false := by rw [hk]; rfl
  have q19 : (d.kind == 19) = false := by rw [hk]; rfl
  have q20 : (d.kind == 20) = true := by rw [hk]; rfl
  clear hI hpn hwt hpA hb1 hE hW hk La Wa Pa hAa
  obtain ⟨da, hda⟩ : ∃ da, a.d = da := ⟨_, rfl⟩
  rw [hda] at Ca a0 a1 a2 a3 a4 a5 a6 a7
  clear hda
  go_enter Tryz.func16, Tryz.ntmps16
  go_wp2_with fail
  refine Ca.out.mono ?_
  rintro e w2 ⟨rfl, hb2⟩
  have H2 := Lib.hid (below_then HB1.out hb2)
  clear hb2
  go_wp2_with fail
  go_returns
  exact ⟨rfl, H2.out⟩

set_option maxRecDepth 100000 in
set_option maxHeartbeats 4000000 in
theorem refShow_21 (w0 : World) (d : ExD) (a : Ex) (hI : (Ex.mk d [a]).In w0) (hk : d.kind = 21) (hpn : d.pn = 1) (hwt : (Ex.mk d [a]).wt ≤ 100000000) (La : a.sh.length + 2 ≤ a.wt) (Wa : RShow w0 a) (Pa : RP w0 a) :
    RefAt 16 w0 d (d.shF (shAt [a]) (paAt [a])) := by
  intro W hW
  have HN := Lib.hid (wt_le_one hwt La)
  have A0 : ∀ w : World, (Op.stringOp .add ⟨#[115, 104, 111, 119, 32]⟩ (bstr (a.pa))).run Tryz.prog w = .ok (.string (bstr ([115, 104, 111, 119, 32] ++ a.pa))) w := addS ([115, 104, 111, 119, 32]) (a.pa) (by have h := HN.out; simp only [List.length_append, List.length_cons, List.length_nil]; omega)
  have HR : d.shF (shAt [a]) (paAt [a]) = [115, 104, 111, 119, 32] ++ a.pa := by unfold ExD.shF; rw [if_neg (by omega), if_neg (by omega), if_neg (by omega), if_neg (by omega)]; rw [if_neg (by unfold braceB; rw [decide_eq_true_eq]; omega), if_neg (by unfold blockB; rw [decide_eq_true_eq]; omega)]; unfold ExD.aheadF ExD.behindF; rw [if_neg (by omega), if_neg (by omega), if_neg (by omega), if_pos hk, if_neg (by omega), if_neg (by omega), if_neg (by omega), if_neg (by omega), if_neg (by omega)]; simp [paAt]
  obtain ⟨x0, hx0⟩ : ∃ x : Str, [115, 104, 111, 119, 32] ++ a.pa = x := ⟨_, rfl⟩
  rw [hx0] at A0 HR
  clear hx0
  have HR := Lib.hid HR
  rw [HR.out]
  obtain ⟨pb, po, hpA, hAa⟩ := one_at hI
  have hb1 : Below W.heap.size W (W.alloc (.cells d.arr 25)) := (Below.refl _ _).alloc (Nat.le_refl _) _
  have hE := ex_box W d
  have HB1 := Lib.hid hb1
  have HW1 := Lib.hid (below_then hW hb1)
  have c0 := hE.c0
  have k3 := cell_regrown hE.c3
  have k4 := cell_regrown hE.c4
  have k7 := cell_regrown hE.c7
  have c3 := hE.c3
  have c7 := hE.c7
  rw [hpA, hpn] at k7 c7
  obtain ⟨a0, a1, a2, a3, a4, a5, a6, a7⟩ := hAa.lower HW1.out
  have Ca := Lib.hid (Pa _ HW1.out)
  have q1 : (d.kind == 1) = false := by rw [hk]; rfl
  have q2 : (d.kind == 2) = false := by rw [hk]; rfl
  have q3 : (d.kind == 3) = false := by rw [hk]; rfl
  have q4 : (d.kind == 4) = false := by rw [hk]; rfl
  have q5 : (d.kind == 5) = false := by rw [hk]; rfl
  have q6 : (d.kind == 6) = false := by rw [hk]; rfl
  have q7 : (d.kind == 7) = false := by rw [hk]; rfl
  have q8 : (d.kind == 8) = false := by rw [hk]; rfl
  have q9 : (d.kind == 9) = false := by rw [hk]; rfl
  have q10 : (d.kind == 10) = false := by rw [hk]; rfl
  have q11 : (d.kind == 11) = false := by rw [hk]; rfl
  have q12 : (d.kind == 12) = false := by rw [hk]; rfl
  have q13 : (d.kind == 13) = false := by rw [hk]; rfl
  have q14 : (d.kind == 14) = false := by rw [hk]; rfl
  have q15 : (d.kind == 15) = false := by rw [hk]; rfl
  have q16 : (d.kind == 16) = false := by rw [hk]; rfl
  have q17 : (d.kind == 17) = false := by rw [hk]; rfl
  have q18 : (d.kind == 18) = false := by rw [hk]; rfl
  have q19 : (d.kind == 19) = false := by rw [hk]; rfl
  have q20 : (d.kind == 20) = false := by rw [hk]; rfl
  have q21 : (d.kind == 21) = true := by rw [hk]; rfl
  clear hI hpn hwt hpA hb1 hE hW hk La Wa Pa hAa
  obtain ⟨da, hda⟩ : ∃ da, a.d = da := ⟨_, rfl⟩
  rw [hda] at Ca a0 a1 a2 a3 a4 a5 a6 a7
  clear hda
  go_enter Tryz.func16, Tryz.ntmps16
  go_wp2_with fail
  refine Ca.out.mono ?_
  rintro e w2 ⟨rfl, hb2⟩
  have H2 := Lib.hid (below_then HB1.out hb2)
  clear hb2
  go_wp2_with fail
  go_returns
  exact ⟨rfl, H2.out⟩
end Go.Proofs.YtaglmmcjhlehjaaGreatDoor
