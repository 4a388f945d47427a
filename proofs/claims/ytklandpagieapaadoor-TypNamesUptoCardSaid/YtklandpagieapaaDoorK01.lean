/-
  Whether a row's own fields may be, by the code.
-/
import Derived.Test.YtklandpagieapaaDoorK00
namespace Go.Proofs.YtklandpagieapaaDoor
open Go.ChangeShapes Go.WideShapes Go.ChangeAt Go.RowKit Go.Sort
set_option linter.unusedVariables false
set_option linter.unusedSimpArgs false
attribute [local irreducible] Go.wpQuiet

set_option maxRecDepth 100000 in
set_option maxHeartbeats 1000000 in
theorem fm4_n (d : TyD) (b o : Nat) (w : World) (h : d.At w b o) (hl : Rd w 1 d.lA d.ln (strs d.labels)) (hm : d.ln ≤ 4000000) (h4 : d.kind = 4) (hn : ¬ d.n = 0) :
    Calls Tryd.prog 30 #[.pointer (some ⟨b, o, none⟩)] w fun e w' => e = .returned (.bool false) ∧ Below w.heap.size w w' := by
  obtain ⟨c0, c1, c2, c3, c4⟩ := h
  have HL := Lib.hid hl
  clear hl
  rw [h4] at c0
  have k0 := cell_regrown c1
  have k1 := cell_regrown c2
  have k2 := cell_regrown c3
  have k3 := cell_regrown c4
  have q1 : (d.n == 0) = false := by simpa using hn
  clear h4 hn
  go_enter Tryd.func30, Tryd.ntmps30
  go_wp2_with fail
  refine wp_region_quiet_below (by kernel_rfl) (by kernel_rfl) ?_
  iterate 6 (quiet_step (fail))
  iterate 5 (refine wpQuiet_skip (by kernel_rfl) (by kernel_rfl) ?_)
  iterate 2 (quiet_step (fail))
  iterate 11 (refine wpQuiet_skip (by kernel_rfl) (by kernel_rfl) ?_)
  iterate 2 (quiet_step (fail))
  iterate 5 (refine wpQuiet_skip (by kernel_rfl) (by kernel_rfl) ?_)
  iterate 2 (quiet_step (fail))
  iterate 6 (refine wpQuiet_skip (by kernel_rfl) (by kernel_rfl) ?_)
  iterate 2 (quiet_step (fail))
  refine wpQuiet_nil ?_
  intro _ hw
  obtain ⟨⟨dq, osq⟩, hw''⟩ := hw
  subst hw''
  have hbq := below_regrown w dq osq
  clear k0 k1 k2 k3
  generalize grow (redrawn w dq) osq = w2 at *
  go_wp2_with fail
  go_returns
  exact ⟨rfl, hbq⟩

set_option maxRecDepth 100000 in
set_option maxHeartbeats 1000000 in
theorem fm4_t (d : TyD) (b o : Nat) (w : World) (h : d.At w b o) (hl : Rd w 1 d.lA d.ln (strs d.labels)) (hm : d.ln ≤ 4000000) (h4 : d.kind = 4) (hn : d.n = 0) (ht : ¬ -1 ≤ d.tail) :
    Calls Tryd.prog 30 #[.pointer (some ⟨b, o, none⟩)] w fun e w' => e = .returned (.bool false) ∧ Below w.heap.size w w' := by
  obtain ⟨c0, c1, c2, c3, c4⟩ := h
  have HL := Lib.hid hl
  clear hl
  rw [h4] at c0
  have k0 := cell_regrown c1
  have k1 := cell_regrown c2
  have k2 := cell_regrown c3
  have k3 := cell_regrown c4
  have q1 : (d.n == 0) = true := by simpa using hn
  have HT := Lib.hid ht
  clear h4 hn ht
  go_enter Tryd.func30, Tryd.ntmps30
  go_wp2_with fail
  have q2 : decide (-1 ≤ d.tail) = false := decide_eq_false (by have := HT.out; omega)
  refine wp_region_quiet_below (by kernel_rfl) (by kernel_rfl) ?_
  iterate 6 (quiet_step (fail))
  iterate 5 (quiet_step (fail))
  iterate 2 (quiet_step (fail))
  iterate 11 (refine wpQuiet_skip (by kernel_rfl) (by kernel_rfl) ?_)
  iterate 2 (quiet_step (fail))
  iterate 5 (refine wpQuiet_skip (by kernel_rfl) (by kernel_rfl) ?_)
  iterate 2 (quiet_step (fail))
  iterate 6 (refine wpQuiet_skip (by kernel_rfl) (by kernel_rfl) ?_)
  iterate 2 (quiet_step (fail))
  refine wpQuiet_nil ?_
  intro _ hw
  obtain ⟨⟨dq, osq⟩, hw''⟩ := hw
  subst hw''
  have hbq := below_regrown w dq osq
  clear k0 k1 k2 k3 q2
  generalize grow (redrawn w dq) osq = w2 at *
  go_wp2_with fail
  go_returns
  exact ⟨rfl, hbq⟩

set_option maxRecDepth 100000 in
set_option maxHeartbeats 1000000 in
theorem fm4_p (d : TyD) (b o : Nat) (w : World) (h : d.At w b o) (hl : Rd w 1 d.lA d.ln (strs d.labels)) (hm : d.ln ≤ 4000000) (h4 : d.kind = 4) (hn : d.n = 0) (ht : -1 ≤ d.tail) (hp : ¬ d.pn = d.ln) :
    Calls Tryd.prog 30 #[.pointer (some ⟨b, o, none⟩)] w fun e w' => e = .returned (.bool false) ∧ Below w.heap.size w w' := by
  obtain ⟨c0, c1, c2, c3, c4⟩ := h
  have HL := Lib.hid hl
  clear hl
  rw [h4] at c0
  have k0 := cell_regrown c1
  have k1 := cell_regrown c2
  have k2 := cell_regrown c3
  have k3 := cell_regrown c4
  have q1 : (d.n == 0) = true := by simpa using hn
  have HT := Lib.hid ht
  have q3 : ((d.pn : Int) == (d.ln : Int)) = false := by rw [beq_eq_false_iff_ne]; omega
  clear h4 hn ht hp
  go_enter Tryd.func30, Tryd.ntmps30
  go_wp2_with fail
  have q2 : decide (-1 ≤ d.tail) = true := decide_eq_true (by have := HT.out; omega)
  refine wp_region_quiet_below (by kernel_rfl) (by kernel_rfl) ?_
  iterate 6 (quiet_step (fail))
  iterate 5 (quiet_step (fail))
  iterate 2 (quiet_step (fail))
  iterate 11 (quiet_step (fail))
  iterate 2 (quiet_step (fail))
  iterate 5 (refine wpQuiet_skip (by kernel_rfl) (by kernel_rfl) ?_)
  iterate 2 (quiet_step (fail))
  iterate 6 (refine wpQuiet_skip (by kernel_rfl) (by kernel_rfl) ?_)
  iterate 2 (quiet_step (fail))
  refine wpQuiet_nil ?_
  intro _ hw
  obtain ⟨⟨dq, osq⟩, hw''⟩ := hw
  subst hw''
  have hbq := below_regrown w dq osq
  clear k0 k1 k2 k3 q2
  generalize grow (redrawn w dq) osq = w2 at *
  go_wp2_with fail
  go_returns
  exact ⟨rfl, hbq⟩

set_option maxRecDepth 100000 in
set_option maxHeartbeats 1000000 in
theorem fm4_is (d : TyD) (b o : Nat) (w : World) (h : d.At w b o) (hl : Rd w 1 d.lA d.ln (strs d.labels)) (hm : d.ln ≤ 4000000) (h4 : d.kind = 4) (hn : d.n = 0) (ht : -1 ≤ d.tail) (hp : d.pn = d.ln) (hi : isB d.labels = false) :
    Calls Tryd.prog 30 #[.pointer (some ⟨b, o, none⟩)] w fun e w' => e = .returned (.bool false) ∧ Below w.heap.size w w' := by
  obtain ⟨c0, c1, c2, c3, c4⟩ := h
  have HL := Lib.hid hl
  clear hl
  rw [h4] at c0
  have k0 := cell_regrown c1
  have k1 := cell_regrown c2
  have k2 := cell_regrown c3
  have k3 := cell_regrown c4
  have CI : RowKit.Hid (∀ d' os, Calls Tryd.prog 42 #[.slice d.lA d.ln d.lc] (grow (redrawn w d') os) fun e w'' => e = .returned (.bool false) ∧ ∃ p : Regrown, w'' = grow (redrawn w p.d) p.os) := Lib.hid fun d' os =>
    Calls.regrown_of (by rw [← hi]; exact is_any d.lA d.labels d.ln d.lc _ (HL.out.below (below_regrown _ _ _)) (by unfold maxLen; omega))
  have q1 : (d.n == 0) = true := by simpa using hn
  have HT := Lib.hid ht
  have q3 : ((d.pn : Int) == (d.ln : Int)) = true := by rw [beq_iff_eq]; omega
  clear h4 hn ht hp hi
  go_enter Tryd.func30, Tryd.ntmps30
  go_wp2_with fail
  have q2 : decide (-1 ≤ d.tail) = true := decide_eq_true (by have := HT.out; omega)
  refine wp_region_quiet_below (by kernel_rfl) (by kernel_rfl) ?_
  iterate 6 (quiet_step ((go_at_call 42; with_reducible exact CI.out _ _)))
  iterate 5 (quiet_step ((go_at_call 42; with_reducible exact CI.out _ _)))
  iterate 2 (quiet_step ((go_at_call 42; with_reducible exact CI.out _ _)))
  iterate 11 (quiet_step ((go_at_call 42; with_reducible exact CI.out _ _)))
  iterate 2 (quiet_step ((go_at_call 42; with_reducible exact CI.out _ _)))
  iterate 5 (quiet_step ((go_at_call 42; with_reducible exact CI.out _ _)))
  iterate 2 (quiet_step ((go_at_call 42; with_reducible exact CI.out _ _)))
  iterate 6 (refine wpQuiet_skip (by kernel_rfl) (by kernel_rfl) ?_)
  iterate 2 (quiet_step ((go_at_call 42; with_reducible exact CI.out _ _)))
  refine wpQuiet_nil ?_
  intro _ hw
  obtain ⟨⟨dq, osq⟩, hw''⟩ := hw
  subst hw''
  have hbq := below_regrown w dq osq
  clear k0 k1 k2 k3 q2 CI
  generalize grow (redrawn w dq) osq = w2 at *
  go_wp2_with fail
  go_returns
  exact ⟨rfl, hbq⟩

set_option maxRecDepth 100000 in
set_option maxHeartbeats 1000000 in
theorem fm4_has (d : TyD) (b o : Nat) (w : World) (h : d.At w b o) (hl : Rd w 1 d.lA d.ln (strs d.labels)) (hm : d.ln ≤ 4000000) (h4 : d.kind = 4) (hn : d.n = 0) (ht : -1 ≤ d.tail) (hp : d.pn = d.ln) (hi : isB d.labels = true) (hh : ([] : Str) ∈ d.labels) :
    Calls Tryd.prog 30 #[.pointer (some ⟨b, o, none⟩)] w fun e w' => e = .returned (.bool false) ∧ Below w.heap.size w w' := by
  obtain ⟨c0, c1, c2, c3, c4⟩ := h
  have HL := Lib.hid hl
  clear hl
  rw [h4] at c0
  have k0 := cell_regrown c1
  have k1 := cell_regrown c2
  have k2 := cell_regrown c3
  have k3 := cell_regrown c4
  have CI : RowKit.Hid (∀ d' os, Calls Tryd.prog 42 #[.slice d.lA d.ln d.lc] (grow (redrawn w d') os) fun e w'' => e = .returned (.bool true) ∧ ∃ p : Regrown, w'' = grow (redrawn w p.d) p.os) := Lib.hid fun d' os =>
    Calls.regrown_of (by rw [← hi]; exact is_any d.lA d.labels d.ln d.lc _ (HL.out.below (below_regrown _ _ _)) (by unfold maxLen; omega))
  have CH : RowKit.Hid (∀ d' os, Calls Tryd.prog 43 #[.slice d.lA d.ln d.lc, .string { data := #[] }] (grow (redrawn w d') os) fun e w'' => e = .returned (.bool true) ∧ ∃ p : Regrown, w'' = grow (redrawn w p.d) p.os) := Lib.hid fun d' os =>
    Calls.regrown_of (by rw [show ({ data := #[] } : ByteArray) = bstr [] from rfl, ← decide_eq_true hh]; exact has_any d.lA d.labels [] d.ln d.lc _ (HL.out.below (below_regrown _ _ _)) hm ((isB_order _).1 hi))
  have q1 : (d.n == 0) = true := by simpa using hn
  have HT := Lib.hid ht
  have q3 : ((d.pn : Int) == (d.ln : Int)) = true := by rw [beq_iff_eq]; omega
  clear h4 hn ht hp hi hh
  go_enter Tryd.func30, Tryd.ntmps30
  go_wp2_with fail
  have q2 : decide (-1 ≤ d.tail) = true := decide_eq_true (by have := HT.out; omega)
  refine wp_region_quiet_below (by kernel_rfl) (by kernel_rfl) ?_
  iterate 6 (quiet_step (first | (go_at_call 42; with_reducible exact CI.out _ _) | (go_at_call 43; with_reducible exact CH.out _ _)))
  iterate 5 (quiet_step (first | (go_at_call 42; with_reducible exact CI.out _ _) | (go_at_call 43; with_reducible exact CH.out _ _)))
  iterate 2 (quiet_step (first | (go_at_call 42; with_reducible exact CI.out _ _) | (go_at_call 43; with_reducible exact CH.out _ _)))
  iterate 11 (quiet_step (first | (go_at_call 42; with_reducible exact CI.out _ _) | (go_at_call 43; with_reducible exact CH.out _ _)))
  iterate 2 (quiet_step (first | (go_at_call 42; with_reducible exact CI.out _ _) | (go_at_call 43; with_reducible exact CH.out _ _)))
  iterate 5 (quiet_step (first | (go_at_call 42; with_reducible exact CI.out _ _) | (go_at_call 43; with_reducible exact CH.out _ _)))
  iterate 2 (quiet_step (first | (go_at_call 42; with_reducible exact CI.out _ _) | (go_at_call 43; with_reducible exact CH.out _ _)))
  iterate 6 (quiet_step (first | (go_at_call 42; with_reducible exact CI.out _ _) | (go_at_call 43; with_reducible exact CH.out _ _)))
  iterate 2 (quiet_step (first | (go_at_call 42; with_reducible exact CI.out _ _) | (go_at_call 43; with_reducible exact CH.out _ _)))
  refine wpQuiet_nil ?_
  intro _ hw
  obtain ⟨⟨dq, osq⟩, hw''⟩ := hw
  subst hw''
  have hbq := below_regrown w dq osq
  clear k0 k1 k2 k3 q2 CI CH
  generalize grow (redrawn w dq) osq = w2 at *
  go_wp2_with fail
  go_returns
  exact ⟨rfl, hbq⟩

set_option maxRecDepth 100000 in
set_option maxHeartbeats 1000000 in
theorem fm4_ok (d : TyD) (b o : Nat) (w : World) (h : d.At w b o) (hl : Rd w 1 d.lA d.ln (strs d.labels)) (hm : d.ln ≤ 4000000) (h4 : d.kind = 4) (hn : d.n = 0) (ht : -1 ≤ d.tail) (hp : d.pn = d.ln) (hi : isB d.labels = true) (hh : ¬ ([] : Str) ∈ d.labels) :
    Calls Tryd.prog 30 #[.pointer (some ⟨b, o, none⟩)] w fun e w' => e = .returned (.bool true) ∧ Below w.heap.size w w' := by
  obtain ⟨c0, c1, c2, c3, c4⟩ := h
  have HL := Lib.hid hl
  clear hl
  rw [h4] at c0
  have k0 := cell_regrown c1
  have k1 := cell_regrown c2
  have k2 := cell_regrown c3
  have k3 := cell_regrown c4
  have CI : RowKit.Hid (∀ d' os, Calls Tryd.prog 42 #[.slice d.lA d.ln d.lc] (grow (redrawn w d') os) fun e w'' => e = .returned (.bool true) ∧ ∃ p : Regrown, w'' = grow (redrawn w p.d) p.os) := Lib.hid fun d' os =>
    Calls.regrown_of (by rw [← hi]; exact is_any d.lA d.labels d.ln d.lc _ (HL.out.below (below_regrown _ _ _)) (by unfold maxLen; omega))
  have CH : RowKit.Hid (∀ d' os, Calls Tryd.prog 43 #[.slice d.lA d.ln d.lc, .string { data := #[] }] (grow (redrawn w d') os) fun e w'' => e = .returned (.bool false) ∧ ∃ p : Regrown, w'' = grow (redrawn w p.d) p.os) := Lib.hid fun d' os =>
    Calls.regrown_of (by rw [show ({ data := #[] } : ByteArray) = bstr [] from rfl, ← decide_eq_false hh]; exact has_any d.lA d.labels [] d.ln d.lc _ (HL.out.below (below_regrown _ _ _)) hm ((isB_order _).1 hi))
  have q1 : (d.n == 0) = true := by simpa using hn
  have HT := Lib.hid ht
  have q3 : ((d.pn : Int) == (d.ln : Int)) = true := by rw [beq_iff_eq]; omega
  clear h4 hn ht hp hi hh
  go_enter Tryd.func30, Tryd.ntmps30
  go_wp2_with fail
  have q2 : decide (-1 ≤ d.tail) = true := decide_eq_true (by have := HT.out; omega)
  refine wp_region_quiet_below (by kernel_rfl) (by kernel_rfl) ?_
  iterate 6 (quiet_step (first | (go_at_call 42; with_reducible exact CI.out _ _) | (go_at_call 43; with_reducible exact CH.out _ _)))
  iterate 5 (quiet_step (first | (go_at_call 42; with_reducible exact CI.out _ _) | (go_at_call 43; with_reducible exact CH.out _ _)))
  iterate 2 (quiet_step (first | (go_at_call 42; with_reducible exact CI.out _ _) | (go_at_call 43; with_reducible exact CH.out _ _)))
  iterate 11 (quiet_step (first | (go_at_call 42; with_reducible exact CI.out _ _) | (go_at_call 43; with_reducible exact CH.out _ _)))
  iterate 2 (quiet_step (first | (go_at_call 42; with_reducible exact CI.out _ _) | (go_at_call 43; with_reducible exact CH.out _ _)))
  iterate 5 (quiet_step (first | (go_at_call 42; with_reducible exact CI.out _ _) | (go_at_call 43; with_reducible exact CH.out _ _)))
  iterate 2 (quiet_step (first | (go_at_call 42; with_reducible exact CI.out _ _) | (go_at_call 43; with_reducible exact CH.out _ _)))
  iterate 6 (quiet_step (first | (go_at_call 42; with_reducible exact CI.out _ _) | (go_at_call 43; with_reducible exact CH.out _ _)))
  iterate 2 (quiet_step (first | (go_at_call 42; with_reducible exact CI.out _ _) | (go_at_call 43; with_reducible exact CH.out _ _)))
  refine wpQuiet_nil ?_
  intro _ hw
  obtain ⟨⟨dq, osq⟩, hw''⟩ := hw
  subst hw''
  have hbq := below_regrown w dq osq
  clear k0 k1 k2 k3 q2 CI CH
  generalize grow (redrawn w dq) osq = w2 at *
  go_wp2_with fail
  go_returns
  exact ⟨rfl, hbq⟩

set_option maxRecDepth 100000 in
set_option maxHeartbeats 1000000 in
theorem fm5_n (d : TyD) (b o : Nat) (w : World) (h : d.At w b o) (hl : Rd w 1 d.lA d.ln (strs d.labels)) (hm : d.ln ≤ 4000000) (h4 : d.kind = 5) (hn : ¬ d.n = 0) :
    Calls Tryd.prog 30 #[.pointer (some ⟨b, o, none⟩)] w fun e w' => e = .returned (.bool false) ∧ Below w.heap.size w w' := by
  obtain ⟨c0, c1, c2, c3, c4⟩ := h
  have HL := Lib.hid hl
  clear hl
  rw [h4] at c0
  have kk : ((5 : Int) == 4) = false := rfl
  have k0 := cell_regrown c1
  have k1 := cell_regrown c2
  have k2 := cell_regrown c3
  have k3 := cell_regrown c4
  have q1 : (d.n == 0) = false := by simpa using hn
  clear h4 hn
  go_enter Tryd.func30, Tryd.ntmps30
  go_wp2_with fail
  refine wp_region_quiet_below (by kernel_rfl) (by kernel_rfl) ?_
  iterate 6 (quiet_step (fail))
  iterate 5 (refine wpQuiet_skip (by kernel_rfl) (by kernel_rfl) ?_)
  iterate 2 (quiet_step (fail))
  iterate 11 (refine wpQuiet_skip (by kernel_rfl) (by kernel_rfl) ?_)
  iterate 2 (quiet_step (fail))
  iterate 5 (refine wpQuiet_skip (by kernel_rfl) (by kernel_rfl) ?_)
  iterate 2 (quiet_step (fail))
  iterate 6 (refine wpQuiet_skip (by kernel_rfl) (by kernel_rfl) ?_)
  iterate 2 (quiet_step (fail))
  refine wpQuiet_nil ?_
  intro _ hw
  obtain ⟨⟨dq, osq⟩, hw''⟩ := hw
  subst hw''
  have hbq := below_regrown w dq osq
  clear k0 k1 k2 k3
  generalize grow (redrawn w dq) osq = w2 at *
  go_wp2_with fail
  go_returns
  exact ⟨rfl, hbq⟩

set_option maxRecDepth 100000 in
set_option maxHeartbeats 1000000 in
theorem fm5_t (d : TyD) (b o : Nat) (w : World) (h : d.At w b o) (hl : Rd w 1 d.lA d.ln (strs d.labels)) (hm : d.ln ≤ 4000000) (h4 : d.kind = 5) (hn : d.n = 0) (ht : ¬ -1 ≤ d.tail) :
    Calls Tryd.prog 30 #[.pointer (some ⟨b, o, none⟩)] w fun e w' => e = .returned (.bool false) ∧ Below w.heap.size w w' := by
  obtain ⟨c0, c1, c2, c3, c4⟩ := h
  have HL := Lib.hid hl
  clear hl
  rw [h4] at c0
  have kk : ((5 : Int) == 4) = false := rfl
  have k0 := cell_regrown c1
  have k1 := cell_regrown c2
  have k2 := cell_regrown c3
  have k3 := cell_regrown c4
  have q1 : (d.n == 0) = true := by simpa using hn
  have HT := Lib.hid ht
  clear h4 hn ht
  go_enter Tryd.func30, Tryd.ntmps30
  go_wp2_with fail
  have q2 : decide (-1 ≤ d.tail) = false := decide_eq_false (by have := HT.out; omega)
  refine wp_region_quiet_below (by kernel_rfl) (by kernel_rfl) ?_
  iterate 6 (quiet_step (fail))
  iterate 5 (quiet_step (fail))
  iterate 2 (quiet_step (fail))
  iterate 11 (refine wpQuiet_skip (by kernel_rfl) (by kernel_rfl) ?_)
  iterate 2 (quiet_step (fail))
  iterate 5 (refine wpQuiet_skip (by kernel_rfl) (by kernel_rfl) ?_)
  iterate 2 (quiet_step (fail))
  iterate 6 (refine wpQuiet_skip (by kernel_rfl) (by kernel_rfl) ?_)
  iterate 2 (quiet_step (fail))
  refine wpQuiet_nil ?_
  intro _ hw
  obtain ⟨⟨dq, osq⟩, hw''⟩ := hw
  subst hw''
  have hbq := below_regrown w dq osq
  clear k0 k1 k2 k3 q2
  generalize grow (redrawn w dq) osq = w2 at *
  go_wp2_with fail
  go_returns
  exact ⟨rfl, hbq⟩

set_option maxRecDepth 100000 in
set_option maxHeartbeats 1000000 in
theorem fm5_p (d : TyD) (b o : Nat) (w : World) (h : d.At w b o) (hl : Rd w 1 d.lA d.ln (strs d.labels)) (hm : d.ln ≤ 4000000) (h4 : d.kind = 5) (hn : d.n = 0) (ht : -1 ≤ d.tail) (hp : ¬ d.pn = d.ln) :
    Calls Tryd.prog 30 #[.pointer (some ⟨b, o, none⟩)] w fun e w' => e = .returned (.bool false) ∧ Below w.heap.size w w' := by
  obtain ⟨c0, c1, c2, c3, c4⟩ := h
  have HL := Lib.hid hl
  clear hl
  rw [h4] at c0
  have kk : ((5 : Int) == 4) = false := rfl
  have k0 := cell_regrown c1
  have k1 := cell_regrown c2
  have k2 := cell_regrown c3
  have k3 := cell_regrown c4
  have q1 : (d.n == 0) = true := by simpa using hn
  have HT := Lib.hid ht
  have q3 : ((d.pn : Int) == (d.ln : Int)) = false := by rw [beq_eq_false_iff_ne]; omega
  clear h4 hn ht hp
  go_enter Tryd.func30, Tryd.ntmps30
  go_wp2_with fail
  have q2 : decide (-1 ≤ d.tail) = true := decide_eq_true (by have := HT.out; omega)
  refine wp_region_quiet_below (by kernel_rfl) (by kernel_rfl) ?_
  iterate 6 (quiet_step (fail))
  iterate 5 (quiet_step (fail))
  iterate 2 (quiet_step (fail))
  iterate 11 (quiet_step (fail))
  iterate 2 (quiet_step (fail))
  iterate 5 (refine wpQuiet_skip (by kernel_rfl) (by kernel_rfl) ?_)
  iterate 2 (quiet_step (fail))
  iterate 6 (refine wpQuiet_skip (by kernel_rfl) (by kernel_rfl) ?_)
  iterate 2 (quiet_step (fail))
  refine wpQuiet_nil ?_
  intro _ hw
  obtain ⟨⟨dq, osq⟩, hw''⟩ := hw
  subst hw''
  have hbq := below_regrown w dq osq
  clear k0 k1 k2 k3 q2
  generalize grow (redrawn w dq) osq = w2 at *
  go_wp2_with fail
  go_returns
  exact ⟨rfl, hbq⟩

set_option maxRecDepth 100000 in
set_option maxHeartbeats 1000000 in
theorem fm5_is (d : TyD) (b o : Nat) (w : World) (h : d.At w b o) (hl : Rd w 1 d.lA d.ln (strs d.labels)) (hm : d.ln ≤ 4000000) (h4 : d.kind = 5) (hn : d.n = 0) (ht : -1 ≤ d.tail) (hp : d.pn = d.ln) (hi : isB d.labels = false) :
    Calls Tryd.prog 30 #[.pointer (some ⟨b, o, none⟩)] w fun e w' => e = .returned (.bool false) ∧ Below w.heap.size w w' := by
  obtain ⟨c0, c1, c2, c3, c4⟩ := h
  have HL := Lib.hid hl
  clear hl
  rw [h4] at c0
  have kk : ((5 : Int) == 4) = false := rfl
  have k0 := cell_regrown c1
  have k1 := cell_regrown c2
  have k2 := cell_regrown c3
  have k3 := cell_regrown c4
  have CI : RowKit.Hid (∀ d' os, Calls Tryd.prog 42 #[.slice d.lA d.ln d.lc] (grow (redrawn w d') os) fun e w'' => e = .returned (.bool false) ∧ ∃ p : Regrown, w'' = grow (redrawn w p.d) p.os) := Lib.hid fun d' os =>
    Calls.regrown_of (by rw [← hi]; exact is_any d.lA d.labels d.ln d.lc _ (HL.out.below (below_regrown _ _ _)) (by unfold maxLen; omega))
  have q1 : (d.n == 0) = true := by simpa using hn
  have HT := Lib.hid ht
  have q3 : ((d.pn : Int) == (d.ln : Int)) = true := by rw [beq_iff_eq]; omega
  clear h4 hn ht hp hi
  go_enter Tryd.func30, Tryd.ntmps30
  go_wp2_with fail
  have q2 : decide (-1 ≤ d.tail) = true := decide_eq_true (by have := HT.out; omega)
  refine wp_region_quiet_below (by kernel_rfl) (by kernel_rfl) ?_
  iterate 6 (quiet_step ((go_at_call 42; with_reducible exact CI.out _ _)))
  iterate 5 (quiet_step ((go_at_call 42; with_reducible exact CI.out _ _)))
  iterate 2 (quiet_step ((go_at_call 42; with_reducible exact CI.out _ _)))
  iterate 11 (quiet_step ((go_at_call 42; with_reducible exact CI.out _ _)))
  iterate 2 (quiet_step ((go_at_call 42; with_reducible exact CI.out _ _)))
  iterate 5 (quiet_step ((go_at_call 42; with_reducible exact CI.out _ _)))
  iterate 2 (quiet_step ((go_at_call 42; with_reducible exact CI.out _ _)))
  iterate 6 (refine wpQuiet_skip (by kernel_rfl) (by kernel_rfl) ?_)
  iterate 2 (quiet_step ((go_at_call 42; with_reducible exact CI.out _ _)))
  refine wpQuiet_nil ?_
  intro _ hw
  obtain ⟨⟨dq, osq⟩, hw''⟩ := hw
  subst hw''
  have hbq := below_regrown w dq osq
  clear k0 k1 k2 k3 q2 CI
  generalize grow (redrawn w dq) osq = w2 at *
  go_wp2_with fail
  go_returns
  exact ⟨rfl, hbq⟩

set_option maxRecDepth 100000 in
set_option maxHeartbeats 1000000 in
theorem fm5_has (d : TyD) (b o : Nat) (w : World) (h : d.At w b o) (hl : Rd w 1 d.lA d.ln (strs d.labels)) (hm : d.ln ≤ 4000000) (h4 : d.kind = 5) (hn : d.n = 0) (ht : -1 ≤ d.tail) (hp : d.pn = d.ln) (hi : isB d.labels = true) (hh : ([] : Str) ∈ d.labels) :
    Calls Tryd.prog 30 #[.pointer (some ⟨b, o, none⟩)] w fun e w' => e = .returned (.bool false) ∧ Below w.heap.size w w' := by
  obtain ⟨c0, c1, c2, c3, c4⟩ := h
  have HL := Lib.hid hl
  clear hl
  rw [h4] at c0
  have kk : ((5 : Int) == 4) = false := rfl
  have k0 := cell_regrown c1
  have k1 := cell_regrown c2
  have k2 := cell_regrown c3
  have k3 := cell_regrown c4
  have CI : RowKit.Hid (∀ d' os, Calls Tryd.prog 42 #[.slice d.lA d.ln d.lc] (grow (redrawn w d') os) fun e w'' => e = .returned (.bool true) ∧ ∃ p : Regrown, w'' = grow (redrawn w p.d) p.os) := Lib.hid fun d' os =>
    Calls.regrown_of (by rw [← hi]; exact is_any d.lA d.labels d.ln d.lc _ (HL.out.below (below_regrown _ _ _)) (by unfold maxLen; omega))
  have CH : RowKit.Hid (∀ d' os, Calls Tryd.prog 43 #[.slice d.lA d.ln d.lc, .string { data := #[] }] (grow (redrawn w d') os) fun e w'' => e = .returned (.bool true) ∧ ∃ p : Regrown, w'' = grow (redrawn w p.d) p.os) := Lib.hid fun d' os =>
    Calls.regrown_of (by rw [show ({ data := #[] } : ByteArray) = bstr [] from rfl, ← decide_eq_true hh]; exact has_any d.lA d.labels [] d.ln d.lc _ (HL.out.below (below_regrown _ _ _)) hm ((isB_order _).1 hi))
  have q1 : (d.n == 0) = true := by simpa using hn
  have HT := Lib.hid ht
  have q3 : ((d.pn : Int) == (d.ln : Int)) = true := by rw [beq_iff_eq]; omega
  clear h4 hn ht hp hi hh
  go_enter Tryd.func30, Tryd.ntmps30
  go_wp2_with fail
  have q2 : decide (-1 ≤ d.tail) = true := decide_eq_true (by have := HT.out; omega)
  refine wp_region_quiet_below (by kernel_rfl) (by kernel_rfl) ?_
  iterate 6 (quiet_step (first | (go_at_call 42; with_reducible exact CI.out _ _) | (go_at_call 43; with_reducible exact CH.out _ _)))
  iterate 5 (quiet_step (first | (go_at_call 42; with_reducible exact CI.out _ _) | (go_at_call 43; with_reducible exact CH.out _ _)))
  iterate 2 (quiet_step (first | (go_at_call 42; with_reducible exact CI.out _ _) | (go_at_call 43; with_reducible exact CH.out _ _)))
  iterate 11 (quiet_step (first | (go_at_call 42; with_reducible exact CI.out _ _) | (go_at_call 43; with_reducible exact CH.out _ _)))
  iterate 2 (quiet_step (first | (go_at_call 42; with_reducible exact CI.out _ _) | (go_at_call 43; with_reducible exact CH.out _ _)))
  iterate 5 (quiet_step (first | (go_at_call 42; with_reducible exact CI.out _ _) | (go_at_call 43; with_reducible exact CH.out _ _)))
  iterate 2 (quiet_step (first | (go_at_call 42; with_reducible exact CI.out _ _) | (go_at_call 43; with_reducible exact CH.out _ _)))
  iterate 6 (quiet_step (first | (go_at_call 42; with_reducible exact CI.out _ _) | (go_at_call 43; with_reducible exact CH.out _ _)))
  iterate 2 (quiet_step (first | (go_at_call 42; with_reducible exact CI.out _ _) | (go_at_call 43; with_reducible exact CH.out _ _)))
  refine wpQuiet_nil ?_
  intro _ hw
  obtain ⟨⟨dq, osq⟩, hw''⟩ := hw
  subst hw''
  have hbq := below_regrown w dq osq
  clear k0 k1 k2 k3 q2 CI CH
  generalize grow (redrawn w dq) osq = w2 at *
  go_wp2_with fail
  go_returns
  exact ⟨rfl, hbq⟩

set_option maxRecDepth 100000 in
set_option maxHeartbeats 1000000 in
theorem fm5_ok (d : TyD) (b o : Nat) (w : World) (h : d.At w b o) (hl : Rd w 1 d.lA d.ln (strs d.labels)) (hm : d.ln ≤ 4000000) (h4 : d.kind = 5) (hn : d.n = 0) (ht : -1 ≤ d.tail) (hp : d.pn = d.ln) (hi : isB d.labels = true) (hh : ¬ ([] : Str) ∈ d.labels) :
    Calls Tryd.prog 30 #[.pointer (some ⟨b, o, none⟩)] w fun e w' => e = .returned (.bool true) ∧ Below w.heap.size w w' := by
  obtain ⟨c0, c1, c2, c3, c4⟩ := h
  have HL := Lib.hid hl
  clear hl
  rw [h4] at c0
  have kk : ((5 : Int) == 4) = false := rfl
  have k0 := cell_regrown c1
  have k1 := cell_regrown c2
  have k2 := cell_regrown c3
  have k3 := cell_regrown c4
  have CI : RowKit.Hid (∀ d' os, Calls Tryd.prog 42 #[.slice d.lA d.ln d.lc] (grow (redrawn w d') os) fun e w'' => e = .returned (.bool true) ∧ ∃ p : Regrown, w'' = grow (redrawn w p.d) p.os) := Lib.hid fun d' os =>
    Calls.regrown_of (by rw [← hi]; exact is_any d.lA d.labels d.ln d.lc _ (HL.out.below (below_regrown _ _ _)) (by unfold maxLen; omega))
  have CH : RowKit.Hid (∀ d' os, Calls Tryd.prog 43 #[.slice d.lA d.ln d.lc, .string { data := #[] }] (grow (redrawn w d') os) fun e w'' => e = .returned (.bool false) ∧ ∃ p : Regrown, w'' = grow (redrawn w p.d) p.os) := Lib.hid fun d' os =>
    Calls.regrown_of (by rw [show ({ data := #[] } : ByteArray) = bstr [] from rfl, ← decide_eq_false hh]; exact has_any d.lA d.labels [] d.ln d.lc _ (HL.out.below (below_regrown _ _ _)) hm ((isB_order _).1 hi))
  have q1 : (d.n == 0) = true := by simpa using hn
  have HT := Lib.hid ht
  have q3 : ((d.pn : Int) == (d.ln : Int)) = true := by rw [beq_iff_eq]; omega
  clear h4 hn ht hp hi hh
  go_enter Tryd.func30, Tryd.ntmps30
  go_wp2_with fail
  have q2 : decide (-1 ≤ d.tail) = true := decide_eq_true (by have := HT.out; omega)
  refine wp_region_quiet_below (by kernel_rfl) (by kernel_rfl) ?_
  iterate 6 (quiet_step (first | (go_at_call 42; with_reducible exact CI.out _ _) | (go_at_call 43; with_reducible exact CH.out _ _)))
  iterate 5 (quiet_step (first | (go_at_call 42; with_reducible exact CI.out _ _) | (go_at_call 43; with_reducible exact CH.out _ _)))
  iterate 2 (quiet_step (first | (go_at_call 42; with_reducible exact CI.out _ _) | (go_at_call 43; with_reducible exact CH.out _ _)))
  iterate 11 (quiet_step (first | (go_at_call 42; with_reducible exact CI.out _ _) | (go_at_call 43; with_reducible exact CH.out _ _)))
  iterate 2 (quiet_step (first | (go_at_call 42; with_reducible exact CI.out _ _) | (go_at_call 43; with_reducible exact CH.out _ _)))
  iterate 5 (quiet_step (first | (go_at_call 42; with_reducible exact CI.out _ _) | (go_at_call 43; with_reducible exact CH.out _ _)))
  iterate 2 (quiet_step (first | (go_at_call 42; with_reducible exact CI.out _ _) | (go_at_call 43; with_reducible exact CH.out _ _)))
  iterate 6 (quiet_step (first | (go_at_call 42; with_reducible exact CI.out _ _) | (go_at_call 43; with_reducible exact CH.out _ _)))
  iterate 2 (quiet_step (first | (go_at_call 42; with_reducible exact CI.out _ _) | (go_at_call 43; with_reducible exact CH.out _ _)))
  refine wpQuiet_nil ?_
  intro _ hw
  obtain ⟨⟨dq, osq⟩, hw''⟩ := hw
  subst hw''
  have hbq := below_regrown w dq osq
  clear k0 k1 k2 k3 q2 CI CH
  generalize grow (redrawn w dq) osq = w2 at *
  go_wp2_with fail
  go_returns
  exact ⟨rfl, hbq⟩

theorem fm4_any (d : TyD) (b o : Nat) (w : World) (h : d.At w b o) (hl : Rd w 1 d.lA d.ln (strs d.labels)) (hm : d.ln ≤ 4000000) (h4 : d.kind = 4) :
    Calls Tryd.prog 30 #[.pointer (some ⟨b, o, none⟩)] w fun e w' => e = .returned (.bool d.fieldsB) ∧ Below w.heap.size w w' := by
  unfold TyD.fieldsB
  rw [if_pos (by omega)]
  by_cases hn : d.n = 0
  · by_cases ht : -1 ≤ d.tail
    · by_cases hp : d.pn = d.ln
      · cases hi : isB d.labels with
        | true =>
          by_cases hh : ([] : Str) ∈ d.labels
          · rw [decide_eq_true hn, decide_eq_true ht, decide_eq_true hp, decide_eq_true hh]; exact fm4_has d b o w h hl hm h4 hn ht hp hi hh
          · rw [decide_eq_true hn, decide_eq_true ht, decide_eq_true hp, decide_eq_false hh]; exact fm4_ok d b o w h hl hm h4 hn ht hp hi hh
        | false => rw [Bool.and_false, Bool.false_and]; exact fm4_is d b o w h hl hm h4 hn ht hp hi
      · rw [decide_eq_false hp, Bool.and_false, Bool.false_and, Bool.false_and]; exact fm4_p d b o w h hl hm h4 hn ht hp
    · rw [decide_eq_false ht, Bool.and_false, Bool.false_and, Bool.false_and, Bool.false_and]; exact fm4_t d b o w h hl hm h4 hn ht
  · rw [decide_eq_false hn, Bool.false_and, Bool.false_and, Bool.false_and, Bool.false_and]; exact fm4_n d b o w h hl hm h4 hn

theorem fm5_any (d : TyD) (b o : Nat) (w : World) (h : d.At w b o) (hl : Rd w 1 d.lA d.ln (strs d.labels)) (hm : d.ln ≤ 4000000) (h4 : d.kind = 5) :
    Calls Tryd.prog 30 #[.pointer (some ⟨b, o, none⟩)] w fun e w' => e = .returned (.bool d.fieldsB) ∧ Below w.heap.size w w' := by
  unfold TyD.fieldsB
  rw [if_pos (by omega)]
  by_cases hn : d.n = 0
  · by_cases ht : -1 ≤ d.tail
    · by_cases hp : d.pn = d.ln
      · cases hi : isB d.labels with
        | true =>
          by_cases hh : ([] : Str) ∈ d.labels
          · rw [decide_eq_true hn, decide_eq_true ht, decide_eq_true hp, decide_eq_true hh]; exact fm5_has d b o w h hl hm h4 hn ht hp hi hh
          · rw [decide_eq_true hn, decide_eq_true ht, decide_eq_true hp, decide_eq_false hh]; exact fm5_ok d b o w h hl hm h4 hn ht hp hi hh
        | false => rw [Bool.and_false, Bool.false_and]; exact fm5_is d b o w h hl hm h4 hn ht hp hi
      · rw [decide_eq_false hp, Bool.and_false, Bool.false_and, Bool.false_and]; exact fm5_p d b o w h hl hm h4 hn ht hp
    · rw [decide_eq_false ht, Bool.and_false, Bool.false_and, Bool.false_and, Bool.false_and]; exact fm5_t d b o w h hl hm h4 hn ht
  · rw [decide_eq_false hn, Bool.false_and, Bool.false_and, Bool.false_and, Bool.false_and]; exact fm5_n d b o w h hl hm h4 hn

theorem fieldsMay_any (d : TyD) (b o : Nat) (w : World) (h : d.At w b o) (hl : Rd w 1 d.lA d.ln (strs d.labels)) (hm : d.ln ≤ 4000000) :
    Calls Tryd.prog 30 #[.pointer (some ⟨b, o, none⟩)] w fun e w' => e = .returned (.bool d.fieldsB) ∧ Below w.heap.size w w' := by
  by_cases h4 : d.kind = 4
  · exact fm4_any d b o w h hl hm h4
  by_cases h5 : d.kind = 5
  · exact fm5_any d b o w h hl hm h5
  exact (fieldsMay_plain d b o w h (by omega)).mono fun e w' he => ⟨he.1, by rw [he.2]; exact Below.refl _ _⟩
end Go.Proofs.YtklandpagieapaaDoor
