/-
  Whether an expression may be, by the code: its own fields.
-/
import Derived.Test.YtaglmmcjhlehjaaGreatDoorK14
namespace Go.Proofs.YtaglmmcjhlehjaaGreatDoor
open Go.ChangeShapes Go.WideShapes Go.ChangeAt Go.RowKit Go.Sort
set_option linter.unusedVariables false
set_option linter.unusedSimpArgs false
attribute [local irreducible] Go.wpQuiet


set_option maxRecDepth 100000 in
set_option maxHeartbeats 4000000 in
theorem fm_p {tb sv tv lv : Bool} {pv : Int} (d : ExD) (b o : Nat) (w : World) (h : d.At w b o)
    (CP : Hid (∀ dd os, Calls Tryz.prog 74 #[.int .i64 d.kind, .int .i64 d.ln, .bool tb] (grow (redrawn w dd) os) fun e w'' => e = .returned (.int .i64 pv) ∧ ∃ p : Regrown, w'' = grow (redrawn w p.d) p.os))
    (CS : Hid (∀ dd os, Calls Tryz.prog 75 #[.pointer (some ⟨b, o, none⟩)] (grow (redrawn w dd) os) fun e w'' => e = .returned (.bool sv) ∧ ∃ p : Regrown, w'' = grow (redrawn w p.d) p.os))
    (CT : Hid (∀ dd os, Calls Tryz.prog 76 #[.pointer (some ⟨b, o, none⟩)] (grow (redrawn w dd) os) fun e w'' => e = .returned (.bool tv) ∧ ∃ p : Regrown, w'' = grow (redrawn w p.d) p.os))
    (CL : Hid (∀ dd os, Calls Tryz.prog 77 #[.pointer (some ⟨b, o, none⟩)] (grow (redrawn w dd) os) fun e w'' => e = .returned (.bool lv) ∧ ∃ p : Regrown, w'' = grow (redrawn w p.d) p.os))
    (ht : (!(bstr d.t).toList.isEmpty) = tb) (hp : ((d.pn : Int) == pv) = false) :
    Calls Tryz.prog 52 #[.pointer (some ⟨b, o, none⟩)] w fun e w' => e = .returned (.bool false) ∧ Below w.heap.size w w' := by
  have k0 := cell_regrown h.c0
  have k2 := cell_regrown h.c2
  have k4 := cell_regrown h.c4
  have k5 := cell_regrown h.c5
  have k7 := cell_regrown h.c7
  clear h
  go_enter Tryz.func52, Tryz.ntmps52
  go_wp2_with fail
  refine wp_region_quiet_below (by kernel_rfl) (by kernel_rfl) ?_
  iterate 22 (quiet_step ((first | (go_at_call 74; with_reducible exact CP.out _ _) | (go_at_call 75; with_reducible exact CS.out _ _) | (go_at_call 76; with_reducible exact CT.out _ _) | (go_at_call 77; with_reducible exact CL.out _ _))))
  iterate 19 (refine wpQuiet_skip (by kernel_rfl) (by kernel_rfl) ?_)
  iterate 2 (quiet_step ((first | (go_at_call 74; with_reducible exact CP.out _ _) | (go_at_call 75; with_reducible exact CS.out _ _) | (go_at_call 76; with_reducible exact CT.out _ _) | (go_at_call 77; with_reducible exact CL.out _ _))))
  iterate 2 (refine wpQuiet_skip (by kernel_rfl) (by kernel_rfl) ?_)
  iterate 2 (quiet_step ((first | (go_at_call 74; with_reducible exact CP.out _ _) | (go_at_call 75; with_reducible exact CS.out _ _) | (go_at_call 76; with_reducible exact CT.out _ _) | (go_at_call 77; with_reducible exact CL.out _ _))))
  iterate 2 (refine wpQuiet_skip (by kernel_rfl) (by kernel_rfl) ?_)
  iterate 2 (quiet_step ((first | (go_at_call 74; with_reducible exact CP.out _ _) | (go_at_call 75; with_reducible exact CS.out _ _) | (go_at_call 76; with_reducible exact CT.out _ _) | (go_at_call 77; with_reducible exact CL.out _ _))))
  iterate 2 (refine wpQuiet_skip (by kernel_rfl) (by kernel_rfl) ?_)
  iterate 2 (quiet_step ((first | (go_at_call 74; with_reducible exact CP.out _ _) | (go_at_call 75; with_reducible exact CS.out _ _) | (go_at_call 76; with_reducible exact CT.out _ _) | (go_at_call 77; with_reducible exact CL.out _ _))))
  refine wpQuiet_nil ?_
  intro _ hw
  obtain ⟨⟨dq, osq⟩, hw''⟩ := hw
  subst hw''
  have hbq := below_regrown w dq osq
  clear k0 k2 k4 k5 k7 CP CS CT CL
  generalize grow (redrawn w dq) osq = w2 at *
  go_wp2_with fail
  go_returns
  exact ⟨rfl, hbq⟩

set_option maxRecDepth 100000 in
set_option maxHeartbeats 4000000 in
theorem fm_n1 {tb sv tv lv : Bool} {pv : Int} (d : ExD) (b o : Nat) (w : World) (h : d.At w b o)
    (CP : Hid (∀ dd os, Calls Tryz.prog 74 #[.int .i64 d.kind, .int .i64 d.ln, .bool tb] (grow (redrawn w dd) os) fun e w'' => e = .returned (.int .i64 pv) ∧ ∃ p : Regrown, w'' = grow (redrawn w p.d) p.os))
    (CS : Hid (∀ dd os, Calls Tryz.prog 75 #[.pointer (some ⟨b, o, none⟩)] (grow (redrawn w dd) os) fun e w'' => e = .returned (.bool sv) ∧ ∃ p : Regrown, w'' = grow (redrawn w p.d) p.os))
    (CT : Hid (∀ dd os, Calls Tryz.prog 76 #[.pointer (some ⟨b, o, none⟩)] (grow (redrawn w dd) os) fun e w'' => e = .returned (.bool tv) ∧ ∃ p : Regrown, w'' = grow (redrawn w p.d) p.os))
    (CL : Hid (∀ dd os, Calls Tryz.prog 77 #[.pointer (some ⟨b, o, none⟩)] (grow (redrawn w dd) os) fun e w'' => e = .returned (.bool lv) ∧ ∃ p : Regrown, w'' = grow (redrawn w p.d) p.os))
    (ht : (!(bstr d.t).toList.isEmpty) = tb) (hp : ((d.pn : Int) == pv) = true) (hn : (d.n == 0) = false) (hk : (d.kind == 1) = false) :
    Calls Tryz.prog 52 #[.pointer (some ⟨b, o, none⟩)] w fun e w' => e = .returned (.bool false) ∧ Below w.heap.size w w' := by
  have k0 := cell_regrown h.c0
  have k2 := cell_regrown h.c2
  have k4 := cell_regrown h.c4
  have k5 := cell_regrown h.c5
  have k7 := cell_regrown h.c7
  clear h
  go_enter Tryz.func52, Tryz.ntmps52
  go_wp2_with fail
  refine wp_region_quiet_below (by kernel_rfl) (by kernel_rfl) ?_
  iterate 34 (quiet_step ((first | (go_at_call 74; with_reducible exact CP.out _ _) | (go_at_call 75; with_reducible exact CS.out _ _) | (go_at_call 76; with_reducible exact CT.out _ _) | (go_at_call 77; with_reducible exact CL.out _ _))))
  iterate 5 (refine wpQuiet_skip (by kernel_rfl) (by kernel_rfl) ?_)
  iterate 4 (quiet_step ((first | (go_at_call 74; with_reducible exact CP.out _ _) | (go_at_call 75; with_reducible exact CS.out _ _) | (go_at_call 76; with_reducible exact CT.out _ _) | (go_at_call 77; with_reducible exact CL.out _ _))))
  iterate 2 (refine wpQuiet_skip (by kernel_rfl) (by kernel_rfl) ?_)
  iterate 2 (quiet_step ((first | (go_at_call 74; with_reducible exact CP.out _ _) | (go_at_call 75; with_reducible exact CS.out _ _) | (go_at_call 76; with_reducible exact CT.out _ _) | (go_at_call 77; with_reducible exact CL.out _ _))))
  iterate 2 (refine wpQuiet_skip (by kernel_rfl) (by kernel_rfl) ?_)
  iterate 2 (quiet_step ((first | (go_at_call 74; with_reducible exact CP.out _ _) | (go_at_call 75; with_reducible exact CS.out _ _) | (go_at_call 76; with_reducible exact CT.out _ _) | (go_at_call 77; with_reducible exact CL.out _ _))))
  iterate 2 (refine wpQuiet_skip (by kernel_rfl) (by kernel_rfl) ?_)
  iterate 2 (quiet_step ((first | (go_at_call 74; with_reducible exact CP.out _ _) | (go_at_call 75; with_reducible exact CS.out _ _) | (go_at_call 76; with_reducible exact CT.out _ _) | (go_at_call 77; with_reducible exact CL.out _ _))))
  refine wpQuiet_nil ?_
  intro _ hw
  obtain ⟨⟨dq, osq⟩, hw''⟩ := hw
  subst hw''
  have hbq := below_regrown w dq osq
  clear k0 k2 k4 k5 k7 CP CS CT CL
  generalize grow (redrawn w dq) osq = w2 at *
  go_wp2_with fail
  go_returns
  exact ⟨rfl, hbq⟩

set_option maxRecDepth 100000 in
set_option maxHeartbeats 4000000 in
theorem fm_n2 {tb sv tv lv : Bool} {pv : Int} (d : ExD) (b o : Nat) (w : World) (h : d.At w b o)
    (CP : Hid (∀ dd os, Calls Tryz.prog 74 #[.int .i64 d.kind, .int .i64 d.ln, .bool tb] (grow (redrawn w dd) os) fun e w'' => e = .returned (.int .i64 pv) ∧ ∃ p : Regrown, w'' = grow (redrawn w p.d) p.os))
    (CS : Hid (∀ dd os, Calls Tryz.prog 75 #[.pointer (some ⟨b, o, none⟩)] (grow (redrawn w dd) os) fun e w'' => e = .returned (.bool sv) ∧ ∃ p : Regrown, w'' = grow (redrawn w p.d) p.os))
    (CT : Hid (∀ dd os, Calls Tryz.prog 76 #[.pointer (some ⟨b, o, none⟩)] (grow (redrawn w dd) os) fun e w'' => e = .returned (.bool tv) ∧ ∃ p : Regrown, w'' = grow (redrawn w p.d) p.os))
    (CL : Hid (∀ dd os, Calls Tryz.prog 77 #[.pointer (some ⟨b, o, none⟩)] (grow (redrawn w dd) os) fun e w'' => e = .returned (.bool lv) ∧ ∃ p : Regrown, w'' = grow (redrawn w p.d) p.os))
    (ht : (!(bstr d.t).toList.isEmpty) = tb) (hp : ((d.pn : Int) == pv) = true) (hn : (d.n == 0) = false) (hk : (d.kind == 1) = true) (hg : decide (0 < d.n) = false) :
    Calls Tryz.prog 52 #[.pointer (some ⟨b, o, none⟩)] w fun e w' => e = .returned (.bool false) ∧ Below w.heap.size w w' := by
  have k0 := cell_regrown h.c0
  have k2 := cell_regrown h.c2
  have k4 := cell_regrown h.c4
  have k5 := cell_regrown h.c5
  have k7 := cell_regrown h.c7
  clear h
  go_enter Tryz.func52, Tryz.ntmps52
  go_wp2_with fail
  refine wp_region_quiet_below (by kernel_rfl) (by kernel_rfl) ?_
  iterate 43 (quiet_step ((first | (go_at_call 74; with_reducible exact CP.out _ _) | (go_at_call 75; with_reducible exact CS.out _ _) | (go_at_call 76; with_reducible exact CT.out _ _) | (go_at_call 77; with_reducible exact CL.out _ _))))
  iterate 2 (refine wpQuiet_skip (by kernel_rfl) (by kernel_rfl) ?_)
  iterate 2 (quiet_step ((first | (go_at_call 74; with_reducible exact CP.out _ _) | (go_at_call 75; with_reducible exact CS.out _ _) | (go_at_call 76; with_reducible exact CT.out _ _) | (go_at_call 77; with_reducible exact CL.out _ _))))
  iterate 2 (refine wpQuiet_skip (by kernel_rfl) (by kernel_rfl) ?_)
  iterate 2 (quiet_step ((first | (go_at_call 74; with_reducible exact CP.out _ _) | (go_at_call 75; with_reducible exact CS.out _ _) | (go_at_call 76; with_reducible exact CT.out _ _) | (go_at_call 77; with_reducible exact CL.out _ _))))
  iterate 2 (refine wpQuiet_skip (by kernel_rfl) (by kernel_rfl) ?_)
  iterate 2 (quiet_step ((first | (go_at_call 74; with_reducible exact CP.out _ _) | (go_at_call 75; with_reducible exact CS.out _ _) | (go_at_call 76; with_reducible exact CT.out _ _) | (go_at_call 77; with_reducible exact CL.out _ _))))
  refine wpQuiet_nil ?_
  intro _ hw
  obtain ⟨⟨dq, osq⟩, hw''⟩ := hw
  subst hw''
  have hbq := below_regrown w dq osq
  clear k0 k2 k4 k5 k7 CP CS CT CL
  generalize grow (redrawn w dq) osq = w2 at *
  go_wp2_with fail
  go_returns
  exact ⟨rfl, hbq⟩

set_option maxRecDepth 100000 in
set_option maxHeartbeats 4000000 in
theorem fm_sa {tb tv lv : Bool} {pv : Int} (d : ExD) (b o : Nat) (w : World) (h : d.At w b o)
    (CP : Hid (∀ dd os, Calls Tryz.prog 74 #[.int .i64 d.kind, .int .i64 d.ln, .bool tb] (grow (redrawn w dd) os) fun e w'' => e = .returned (.int .i64 pv) ∧ ∃ p : Regrown, w'' = grow (redrawn w p.d) p.os))
    (CS : Hid (∀ dd os, Calls Tryz.prog 75 #[.pointer (some ⟨b, o, none⟩)] (grow (redrawn w dd) os) fun e w'' => e = .returned (.bool false) ∧ ∃ p : Regrown, w'' = grow (redrawn w p.d) p.os))
    (CT : Hid (∀ dd os, Calls Tryz.prog 76 #[.pointer (some ⟨b, o, none⟩)] (grow (redrawn w dd) os) fun e w'' => e = .returned (.bool tv) ∧ ∃ p : Regrown, w'' = grow (redrawn w p.d) p.os))
    (CL : Hid (∀ dd os, Calls Tryz.prog 77 #[.pointer (some ⟨b, o, none⟩)] (grow (redrawn w dd) os) fun e w'' => e = .returned (.bool lv) ∧ ∃ p : Regrown, w'' = grow (redrawn w p.d) p.os))
    (ht : (!(bstr d.t).toList.isEmpty) = tb) (hp : ((d.pn : Int) == pv) = true) (hn : (d.n == 0) = true) :
    Calls Tryz.prog 52 #[.pointer (some ⟨b, o, none⟩)] w fun e w' => e = .returned (.bool false) ∧ Below w.heap.size w w' := by
  have k0 := cell_regrown h.c0
  have k2 := cell_regrown h.c2
  have k4 := cell_regrown h.c4
  have k5 := cell_regrown h.c5
  have k7 := cell_regrown h.c7
  clear h
  go_enter Tryz.func52, Tryz.ntmps52
  go_wp2_with fail
  refine wp_region_quiet_below (by kernel_rfl) (by kernel_rfl) ?_
  iterate 28 (quiet_step ((first | (go_at_call 74; with_reducible exact CP.out _ _) | (go_at_call 75; with_reducible exact CS.out _ _) | (go_at_call 76; with_reducible exact CT.out _ _) | (go_at_call 77; with_reducible exact CL.out _ _))))
  iterate 12 (refine wpQuiet_skip (by kernel_rfl) (by kernel_rfl) ?_)
  iterate 3 (quiet_step ((first | (go_at_call 74; with_reducible exact CP.out _ _) | (go_at_call 75; with_reducible exact CS.out _ _) | (go_at_call 76; with_reducible exact CT.out _ _) | (go_at_call 77; with_reducible exact CL.out _ _))))
  iterate 4 (quiet_step ((first | (go_at_call 74; with_reducible exact CP.out _ _) | (go_at_call 75; with_reducible exact CS.out _ _) | (go_at_call 76; with_reducible exact CT.out _ _) | (go_at_call 77; with_reducible exact CL.out _ _))))
  iterate 2 (refine wpQuiet_skip (by kernel_rfl) (by kernel_rfl) ?_)
  iterate 2 (quiet_step ((first | (go_at_call 74; with_reducible exact CP.out _ _) | (go_at_call 75; with_reducible exact CS.out _ _) | (go_at_call 76; with_reducible exact CT.out _ _) | (go_at_call 77; with_reducible exact CL.out _ _))))
  iterate 2 (refine wpQuiet_skip (by kernel_rfl) (by kernel_rfl) ?_)
  iterate 2 (quiet_step ((first | (go_at_call 74; with_reducible exact CP.out _ _) | (go_at_call 75; with_reducible exact CS.out _ _) | (go_at_call 76; with_reducible exact CT.out _ _) | (go_at_call 77; with_reducible exact CL.out _ _))))
  refine wpQuiet_nil ?_
  intro _ hw
  obtain ⟨⟨dq, osq⟩, hw''⟩ := hw
  subst hw''
  have hbq := below_regrown w dq osq
  clear k0 k2 k4 k5 k7 CP CS CT CL
  generalize grow (redrawn w dq) osq = w2 at *
  go_wp2_with fail
  go_returns
  exact ⟨rfl, hbq⟩

set_option maxRecDepth 100000 in
set_option maxHeartbeats 4000000 in
theorem fm_ta {tb lv : Bool} {pv : Int} (d : ExD) (b o : Nat) (w : World) (h : d.At w b o)
    (CP : Hid (∀ dd os, Calls Tryz.prog 74 #[.int .i64 d.kind, .int .i64 d.ln, .bool tb] (grow (redrawn w dd) os) fun e w'' => e = .returned (.int .i64 pv) ∧ ∃ p : Regrown, w'' = grow (redrawn w p.d) p.os))
    (CS : Hid (∀ dd os, Calls Tryz.prog 75 #[.pointer (some ⟨b, o, none⟩)] (grow (redrawn w dd) os) fun e w'' => e = .returned (.bool true) ∧ ∃ p : Regrown, w'' = grow (redrawn w p.d) p.os))
    (CT : Hid (∀ dd os, Calls Tryz.prog 76 #[.pointer (some ⟨b, o, none⟩)] (grow (redrawn w dd) os) fun e w'' => e = .returned (.bool false) ∧ ∃ p : Regrown, w'' = grow (redrawn w p.d) p.os))
    (CL : Hid (∀ dd os, Calls Tryz.prog 77 #[.pointer (some ⟨b, o, none⟩)] (grow (redrawn w dd) os) fun e w'' => e = .returned (.bool lv) ∧ ∃ p : Regrown, w'' = grow (redrawn w p.d) p.os))
    (ht : (!(bstr d.t).toList.isEmpty) = tb) (hp : ((d.pn : Int) == pv) = true) (hn : (d.n == 0) = true) :
    Calls Tryz.prog 52 #[.pointer (some ⟨b, o, none⟩)] w fun e w' => e = .returned (.bool false) ∧ Below w.heap.size w w' := by
  have k0 := cell_regrown h.c0
  have k2 := cell_regrown h.c2
  have k4 := cell_regrown h.c4
  have k5 := cell_regrown h.c5
  have k7 := cell_regrown h.c7
  clear h
  go_enter Tryz.func52, Tryz.ntmps52
  go_wp2_with fail
  refine wp_region_quiet_below (by kernel_rfl) (by kernel_rfl) ?_
  iterate 28 (quiet_step ((first | (go_at_call 74; with_reducible exact CP.out _ _) | (go_at_call 75; with_reducible exact CS.out _ _) | (go_at_call 76; with_reducible exact CT.out _ _) | (go_at_call 77; with_reducible exact CL.out _ _))))
  iterate 12 (refine wpQuiet_skip (by kernel_rfl) (by kernel_rfl) ?_)
  iterate 3 (quiet_step ((first | (go_at_call 74; with_reducible exact CP.out _ _) | (go_at_call 75; with_reducible exact CS.out _ _) | (go_at_call 76; with_reducible exact CT.out _ _) | (go_at_call 77; with_reducible exact CL.out _ _))))
  iterate 8 (quiet_step ((first | (go_at_call 74; with_reducible exact CP.out _ _) | (go_at_call 75; with_reducible exact CS.out _ _) | (go_at_call 76; with_reducible exact CT.out _ _) | (go_at_call 77; with_reducible exact CL.out _ _))))
  iterate 2 (refine wpQuiet_skip (by kernel_rfl) (by kernel_rfl) ?_)
  iterate 2 (quiet_step ((first | (go_at_call 74; with_reducible exact CP.out _ _) | (go_at_call 75; with_reducible exact CS.out _ _) | (go_at_call 76; with_reducible exact CT.out _ _) | (go_at_call 77; with_reducible exact CL.out _ _))))
  refine wpQuiet_nil ?_
  intro _ hw
  obtain ⟨⟨dq, osq⟩, hw''⟩ := hw
  subst hw''
  have hbq := below_regrown w dq osq
  clear k0 k2 k4 k5 k7 CP CS CT CL
  generalize grow (redrawn w dq) osq = w2 at *
  go_wp2_with fail
  go_returns
  exact ⟨rfl, hbq⟩

set_option maxRecDepth 100000 in
set_option maxHeartbeats 4000000 in
theorem fm_la {tb lv : Bool} {pv : Int} (d : ExD) (b o : Nat) (w : World) (h : d.At w b o)
    (CP : Hid (∀ dd os, Calls Tryz.prog 74 #[.int .i64 d.kind, .int .i64 d.ln, .bool tb] (grow (redrawn w dd) os) fun e w'' => e = .returned (.int .i64 pv) ∧ ∃ p : Regrown, w'' = grow (redrawn w p.d) p.os))
    (CS : Hid (∀ dd os, Calls Tryz.prog 75 #[.pointer (some ⟨b, o, none⟩)] (grow (redrawn w dd) os) fun e w'' => e = .returned (.bool true) ∧ ∃ p : Regrown, w'' = grow (redrawn w p.d) p.os))
    (CT : Hid (∀ dd os, Calls Tryz.prog 76 #[.pointer (some ⟨b, o, none⟩)] (grow (redrawn w dd) os) fun e w'' => e = .returned (.bool true) ∧ ∃ p : Regrown, w'' = grow (redrawn w p.d) p.os))
    (CL : Hid (∀ dd os, Calls Tryz.prog 77 #[.pointer (some ⟨b, o, none⟩)] (grow (redrawn w dd) os) fun e w'' => e = .returned (.bool lv) ∧ ∃ p : Regrown, w'' = grow (redrawn w p.d) p.os))
    (ht : (!(bstr d.t).toList.isEmpty) = tb) (hp : ((d.pn : Int) == pv) = true) (hn : (d.n == 0) = true) :
    Calls Tryz.prog 52 #[.pointer (some ⟨b, o, none⟩)] w fun e w' => e = .returned (.bool lv) ∧ Below w.heap.size w w' := by
  have k0 := cell_regrown h.c0
  have k2 := cell_regrown h.c2
  have k4 := cell_regrown h.c4
  have k5 := cell_regrown h.c5
  have k7 := cell_regrown h.c7
  clear h
  go_enter Tryz.func52, Tryz.ntmps52
  go_wp2_with fail
  refine wp_region_quiet_below (by kernel_rfl) (by kernel_rfl) ?_
  iterate 28 (quiet_step ((first | (go_at_call 74; with_reducible exact CP.out _ _) | (go_at_call 75; with_reducible exact CS.out _ _) | (go_at_call 76; with_reducible exact CT.out _ _) | (go_at_call 77; with_reducible exact CL.out _ _))))
  iterate 12 (refine wpQuiet_skip (by kernel_rfl) (by kernel_rfl) ?_)
  iterate 3 (quiet_step ((first | (go_at_call 74; with_reducible exact CP.out _ _) | (go_at_call 75; with_reducible exact CS.out _ _) | (go_at_call 76; with_reducible exact CT.out _ _) | (go_at_call 77; with_reducible exact CL.out _ _))))
  iterate 12 (quiet_step ((first | (go_at_call 74; with_reducible exact CP.out _ _) | (go_at_call 75; with_reducible exact CS.out _ _) | (go_at_call 76; with_reducible exact CT.out _ _) | (go_at_call 77; with_reducible exact CL.out _ _))))
  refine wpQuiet_nil ?_
  intro _ hw
  obtain ⟨⟨dq, osq⟩, hw''⟩ := hw
  subst hw''
  have hbq := below_regrown w dq osq
  clear k0 k2 k4 k5 k7 CP CS CT CL
  generalize grow (redrawn w dq) osq = w2 at *
  go_wp2_with fail
  go_returns
  exact ⟨rfl, hbq⟩

set_option maxRecDepth 100000 in
set_option maxHeartbeats 4000000 in
theorem fm_sb {tb tv lv : Bool} {pv : Int} (d : ExD) (b o : Nat) (w : World) (h : d.At w b o)
    (CP : Hid (∀ dd os, Calls Tryz.prog 74 #[.int .i64 d.kind, .int .i64 d.ln, .bool tb] (grow (redrawn w dd) os) fun e w'' => e = .returned (.int .i64 pv) ∧ ∃ p : Regrown, w'' = grow (redrawn w p.d) p.os))
    (CS : Hid (∀ dd os, Calls Tryz.prog 75 #[.pointer (some ⟨b, o, none⟩)] (grow (redrawn w dd) os) fun e w'' => e = .returned (.bool false) ∧ ∃ p : Regrown, w'' = grow (redrawn w p.d) p.os))
    (CT : Hid (∀ dd os, Calls Tryz.prog 76 #[.pointer (some ⟨b, o, none⟩)] (grow (redrawn w dd) os) fun e w'' => e = .returned (.bool tv) ∧ ∃ p : Regrown, w'' = grow (redrawn w p.d) p.os))
    (CL : Hid (∀ dd os, Calls Tryz.prog 77 #[.pointer (some ⟨b, o, none⟩)] (grow (redrawn w dd) os) fun e w'' => e = .returned (.bool lv) ∧ ∃ p : Regrown, w'' = grow (redrawn w p.d) p.os))
    (ht : (!(bstr d.t).toList.isEmpty) = tb) (hp : ((d.pn : Int) == pv) = true) (hn : (d.n == 0) = false) (hk : (d.kind == 1) = true) (hg : decide (0 < d.n) = true) :
    Calls Tryz.prog 52 #[.pointer (some ⟨b, o, none⟩)] w fun e w' => e = .returned (.bool false) ∧ Below w.heap.size w w' := by
  have k0 := cell_regrown h.c0
  have k2 := cell_regrown h.c2
  have k4 := cell_regrown h.c4
  have k5 := cell_regrown h.c5
  have k7 := cell_regrown h.c7
  clear h
  go_enter Tryz.func52, Tryz.ntmps52
  go_wp2_with fail
  refine wp_region_quiet_below (by kernel_rfl) (by kernel_rfl) ?_
  iterate 43 (quiet_step ((first | (go_at_call 74; with_reducible exact CP.out _ _) | (go_at_call 75; with_reducible exact CS.out _ _) | (go_at_call 76; with_reducible exact CT.out _ _) | (go_at_call 77; with_reducible exact CL.out _ _))))
  iterate 4 (quiet_step ((first | (go_at_call 74; with_reducible exact CP.out _ _) | (go_at_call 75; with_reducible exact CS.out _ _) | (go_at_call 76; with_reducible exact CT.out _ _) | (go_at_call 77; with_reducible exact CL.out _ _))))
  iterate 2 (refine wpQuiet_skip (by kernel_rfl) (by kernel_rfl) ?_)
  iterate 2 (quiet_step ((first | (go_at_call 74; with_reducible exact CP.out _ _) | (go_at_call 75; with_reducible exact CS.out _ _) | (go_at_call 76; with_reducible exact CT.out _ _) | (go_at_call 77; with_reducible exact CL.out _ _))))
  iterate 2 (refine wpQuiet_skip (by kernel_rfl) (by kernel_rfl) ?_)
  iterate 2 (quiet_step ((first | (go_at_call 74; with_reducible exact CP.out _ _) | (go_at_call 75; with_reducible exact CS.out _ _) | (go_at_call 76; with_reducible exact CT.out _ _) | (go_at_call 77; with_reducible exact CL.out _ _))))
  refine wpQuiet_nil ?_
  intro _ hw
  obtain ⟨⟨dq, osq⟩, hw''⟩ := hw
  subst hw''
  have hbq := below_regrown w dq osq
  clear k0 k2 k4 k5 k7 CP CS CT CL
  generalize grow (redrawn w dq) osq = w2 at *
  go_wp2_with fail
  go_returns
  exact ⟨rfl, hbq⟩

set_option maxRecDepth 100000 in
set_option maxHeartbeats 4000000 in
theorem fm_tb {tb lv : Bool} {pv : Int} (d : ExD) (b o : Nat) (w : World) (h : d.At w b o)
    (CP : Hid (∀ dd os, Calls Tryz.prog 74 #[.int .i64 d.kind, .int .i64 d.ln, .bool tb] (grow (redrawn w dd) os) fun e w'' => e = .returned (.int .i64 pv) ∧ ∃ p : Regrown, w'' = grow (redrawn w p.d) p.os))
    (CS : Hid (∀ dd os, Calls Tryz.prog 75 #[.pointer (some ⟨b, o, none⟩)] (grow (redrawn w dd) os) fun e w'' => e = .returned (.bool true) ∧ ∃ p : Regrown, w'' = grow (redrawn w p.d) p.os))
    (CT : Hid (∀ dd os, Calls Tryz.prog 76 #[.pointer (some ⟨b, o, none⟩)] (grow (redrawn w dd) os) fun e w'' => e = .returned (.bool false) ∧ ∃ p : Regrown, w'' = grow (redrawn w p.d) p.os))
    (CL : Hid (∀ dd os, Calls Tryz.prog 77 #[.pointer (some ⟨b, o, none⟩)] (grow (redrawn w dd) os) fun e w'' => e = .returned (.bool lv) ∧ ∃ p : Regrown, w'' = grow (redrawn w p.d) p.os))
    (ht : (!(bstr d.t).toList.isEmpty) = tb) (hp : ((d.pn : Int) == pv) = true) (hn : (d.n == 0) = false) (hk : (d.kind == 1) = true) (hg : decide (0 < d.n) = true) :
    Calls Tryz.prog 52 #[.pointer (some ⟨b, o, none⟩)] w fun e w' => e = .returned (.bool false) ∧ Below w.heap.size w w' := by
  have k0 := cell_regrown h.c0
  have k2 := cell_regrown h.c2
  have k4 := cell_regrown h.c4
  have k5 := cell_regrown h.c5
  have k7 := cell_regrown h.c7
  clear h
  go_enter Tryz.func52, Tryz.ntmps52
  go_wp2_with fail
  refine wp_region_quiet_below (by kernel_rfl) (by kernel_rfl) ?_
  iterate 43 (quiet_step ((first | (go_at_call 74; with_reducible exact CP.out _ _) | (go_at_call 75; with_reducible exact CS.out _ _) | (go_at_call 76; with_reducible exact CT.out _ _) | (go_at_call 77; with_reducible exact CL.out _ _))))
  iterate 8 (quiet_step ((first | (go_at_call 74; with_reducible exact CP.out _ _) | (go_at_call 75; with_reducible exact CS.out _ _) | (go_at_call 76; with_reducible exact CT.out _ _) | (go_at_call 77; with_reducible exact CL.out _ _))))
  iterate 2 (refine wpQuiet_skip (by kernel_rfl) (by kernel_rfl) ?_)
  iterate 2 (quiet_step ((first | (go_at_call 74; with_reducible exact CP.out _ _) | (go_at_call 75; with_reducible exact CS.out _ _) | (go_at_call 76; with_reducible exact CT.out _ _) | (go_at_call 77; with_reducible exact CL.out _ _))))
  refine wpQuiet_nil ?_
  intro _ hw
  obtain ⟨⟨dq, osq⟩, hw''⟩ := hw
  subst hw''
  have hbq := below_regrown w dq osq
  clear k0 k2 k4 k5 k7 CP CS CT CL
  generalize grow (redrawn w dq) osq = w2 at *
  go_wp2_with fail
  go_returns
  exact ⟨rfl, hbq⟩

set_option maxRecDepth 100000 in
set_option maxHeartbeats 4000000 in
theorem fm_lb {tb lv : Bool} {pv : Int} (d : ExD) (b o : Nat) (w : World) (h : d.At w b o)
    (CP : Hid (∀ dd os, Calls Tryz.prog 74 #[.int .i64 d.kind, .int .i64 d.ln, .bool tb] (grow (redrawn w dd) os) fun e w'' => e = .returned (.int .i64 pv) ∧ ∃ p : Regrown, w'' = grow (redrawn w p.d) p.os))
    (CS : Hid (∀ dd os, Calls Tryz.prog 75 #[.pointer (some ⟨b, o, none⟩)] (grow (redrawn w dd) os) fun e w'' => e = .returned (.bool true) ∧ ∃ p : Regrown, w'' = grow (redrawn w p.d) p.os))
    (CT : Hid (∀ dd os, Calls Tryz.prog 76 #[.pointer (some ⟨b, o, none⟩)] (grow (redrawn w dd) os) fun e w'' => e = .returned (.bool true) ∧ ∃ p : Regrown, w'' = grow (redrawn w p.d) p.os))
    (CL : Hid (∀ dd os, Calls Tryz.prog 77 #[.pointer (some ⟨b, o, none⟩)] (grow (redrawn w dd) os) fun e w'' => e = .returned (.bool lv) ∧ ∃ p : Regrown, w'' = grow (redrawn w p.d) p.os))
    (ht : (!(bstr d.t).toList.isEmpty) = tb) (hp : ((d.pn : Int) == pv) = true) (hn : (d.n == 0) = false) (hk : (d.kind == 1) = true) (hg : decide (0 < d.n) = true) :
    Calls Tryz.prog 52 #[.pointer (some ⟨b, o, none⟩)] w fun e w' => e = .returned (.bool lv) ∧ Below w.heap.size w w' := by
  have k0 := cell_regrown h.c0
  have k2 := cell_regrown h.c2
  have k4 := cell_regrown h.c4
  have k5 := cell_regrown h.c5
  have k7 := cell_regrown h.c7
  clear h
  go_enter Tryz.func52, Tryz.ntmps52
  go_wp2_with fail
  refine wp_region_quiet_below (by kernel_rfl) (by kernel_rfl) ?_
  iterate 43 (quiet_step ((first | (go_at_call 74; with_reducible exact CP.out _ _) | (go_at_call 75; with_reducible exact CS.out _ _) | (go_at_call 76; with_reducible exact CT.out _ _) | (go_at_call 77; with_reducible exact CL.out _ _))))
  iterate 12 (quiet_step ((first | (go_at_call 74; with_reducible exact CP.out _ _) | (go_at_call 75; with_reducible exact CS.out _ _) | (go_at_call 76; with_reducible exact CT.out _ _) | (go_at_call 77; with_reducible exact CL.out _ _))))
  refine wpQuiet_nil ?_
  intro _ hw
  obtain ⟨⟨dq, osq⟩, hw''⟩ := hw
  subst hw''
  have hbq := below_regrown w dq osq
  clear k0 k2 k4 k5 k7 CP CS CT CL
  generalize grow (redrawn w dq) osq = w2 at *
  go_wp2_with fail
  go_returns
  exact ⟨rfl, hbq⟩
end Go.Proofs.YtaglmmcjhlehjaaGreatDoor
