/-
  CodeChecks holds: for every input the law returns true, and each argument reads afterwards as it read before. No condition.
-/
import Derived.Test.YthdnnlelmelegaaCodeUp
import Derived.Test.YthdnnlelmelegaaCodeB
import Derived.Test.YthdnnlelmelegaaCodeG
import Derived.Test.YthdnnlelmelegaaCodeO
import Derived.Test.YthdnnlelmelegaaCodePutP
import Derived.Test.YthdnnlelmelegaaCodeW
import Derived.Test.YthdnnlelmelegaaShellZ
import Derived.Deep.RegionHeld3
namespace Go.Proofs.Ythdnnlelmelegaa
open Go.ChangeShapes Go.WideShapes Go.ChangeAt Go.RowKit Go.Sort
set_option linter.unusedVariables false
set_option linter.unusedSimpArgs false
attribute [local go_sem ↓] Go.wp_at_zero Go.wp_at_succ

/-- Two images lie where they lay. -/
structure Two (w : World) (g : Nat) (m n : AImg) (wx : World) : Prop where
  hm : HeldM wx g m
  hn : HeldM wx (g + 1) n
  b : Below w.heap.size w wx
theorem Two.below {w wx wy : World} {g : Nat} {m n : AImg} (h : Two w g m n wx) (hb : Below wx.heap.size wx wy) : Two w g m n wy := ⟨h.hm.below hb, h.hn.below hb, below_then h.b hb⟩

set_option maxRecDepth 100000 in
set_option maxHeartbeats 1000000 in
theorem checks_any (hup : ∀ w, Calls Try.prog 5 #[] w fun e w' => e = .returned (.bool true) ∧ Below w.heap.size w w') (m n : AImg) (w : World) (hm : m.In w) (hn : n.In w) :
    Calls Try.prog 3 #[m.value, n.value] w fun e w' => e = .returned (.bool true) ∧ Below w.heap.size w w' := by
  have hb1 : Below w.heap.size w (w.alloc (.cells #[.slice m.iA m.iN m.iC, .slice m.tA m.tN m.tC, .slice m.fA m.fN m.fC] 26)) := (Below.refl _ _).alloc (Nat.le_refl _) _
  have hb2 : Below (w.alloc (.cells #[.slice m.iA m.iN m.iC, .slice m.tA m.tN m.tC, .slice m.fA m.fN m.fC] 26)).heap.size (w.alloc (.cells #[.slice m.iA m.iN m.iC, .slice m.tA m.tN m.tC, .slice m.fA m.fN m.fC] 26)) ((w.alloc (.cells #[.slice m.iA m.iN m.iC, .slice m.tA m.tN m.tC, .slice m.fA m.fN m.fC] 26)).alloc (.cells #[.slice n.iA n.iN n.iC, .slice n.tA n.tN n.tC, .slice n.fA n.fN n.fC] 26)) := (Below.refl _ _).alloc (Nat.le_refl _) _
  have h2 := heldM_made (w.alloc (.cells #[.slice m.iA m.iN m.iC, .slice m.tA m.tN m.tC, .slice m.fA m.fN m.fC] 26)) n (hn.below hb1)
  rw [World.size_alloc] at h2
  have HD := Lib.hid (Two.mk ((heldM_made w m hm).below hb2) h2 (below_then hb1 hb2))
  have HUP := Lib.hid hup
  clear hup hb1 hm hn hb2 h2
  go_enter Try.func3, Try.ntmps3
  unfold AImg.value
  go_wp2_with fail
  generalize ((w.alloc (.cells #[.slice m.iA m.iN m.iC, .slice m.tA m.tN m.tC, .slice m.fA m.fN m.fC] 26)).alloc (.cells #[.slice n.iA n.iN n.iC, .slice n.tA n.tN n.tC, .slice n.fA n.fN n.fC] 26)) = w1 at *
  refine (HUP.out w1).mono ?_
  rintro e w2 ⟨rfl, hb2⟩
  have H2 := Lib.hid (HD.out.below hb2)
  clear hb2
  have k0 := H2.out.hm.m0
  have k1 := H2.out.hm.m1
  have k2 := H2.out.hm.m2
  go_wp2_with fail
  refine (few_any m w2 H2.out.hm.hm).mono ?_
  rintro e w3 ⟨⟨few, rfl, hfew⟩, hb3⟩
  have H3 := Lib.hid (H2.out.below hb3)
  clear hb3 k0 k1 k2
  have k0 := H3.out.hn.m0
  have k1 := H3.out.hn.m1
  have k2 := H3.out.hn.m2
  go_wp2_with fail
  refine (few_any n w3 H3.out.hn.hm).mono ?_
  rintro e w4 ⟨⟨small, rfl, hsmall⟩, hb4⟩
  have H4 := Lib.hid (H3.out.below hb4)
  clear hb4 k0 k1 k2 H2 hsmall
  cases few with
  | false =>
    cases small <;>
    · go_wp2_with fail
      go_returns
      exact ⟨rfl, H4.out.b⟩
  | true =>
  cases small with
  | false =>
    go_wp2_with fail
    go_returns
    exact ⟨rfl, H4.out.b⟩
  | true =>
  have HF := Lib.hid (hfew rfl)
  clear hfew
  have k0 := H4.out.hm.m0
  have k1 := H4.out.hm.m1
  have k2 := H4.out.hm.m2
  go_wp2_with fail
  refine (sound_any m w4 H4.out.hm.hm (by have := HF.out.all; omega)).mono ?_
  rintro e w5 ⟨rfl, hb5⟩
  have H5 := Lib.hid (H4.out.below hb5)
  clear hb5 k0 k1 k2 H3
  have k0 := H5.out.hm.m0
  have k1 := H5.out.hm.m1
  have k2 := H5.out.hm.m2
  go_wp2_with fail
  refine (put_all m w5 H5.out.hm.hm (by have := few_bytes H5.out.hm.hm HF.out; omega)).mono ?_
  rintro e w6 hres
  rcases hres with ⟨hs, v, rfl, hown, hb6⟩ | ⟨hs, rfl, hb6⟩
  · have hlt2 := few_bytes H5.out.hm.hm HF.out
    obtain ⟨x, hx⟩ : ∃ x, putImg m.img = x := ⟨_, rfl⟩
    rw [hx] at hown hlt2
    obtain ⟨A1, c1, rfl, hnc1, hcm1, _⟩ := own_cap hown
    have HP := Lib.hid (And.intro hs (And.intro hx (Rd.of_own hown)))
    have H6 := Lib.hid (H5.out.below hb6)
    have CF := check_any m
    have CE : CheckRes m = .nilIface := by unfold CheckRes; rw [hs]; rfl
    rw [CE] at CF
    have CF := Lib.hid CF
    rw [hs]
    clear hown hs hb6 k0 k1 k2 hx CE
    go_wp2_with fail
    have CK : RowKit.Hid (∀ d os, Calls Try.prog 11 #[.agg #[.slice m.iA m.iN m.iC, .slice m.tA m.tN m.tC, .slice m.fA m.fN m.fC]] (grow (redrawn w6 d) os) fun e w'' => e = .returned .nilIface ∧ ∃ p : Regrown, w'' = grow (redrawn w6 p.d) p.os) := Lib.hid fun d os =>
      Calls.regrown_of (CF.out (grow (redrawn w6 d) os) (H6.out.hm.hm.below (below_regrown _ _ _)))
    have CS : RowKit.Hid (∀ d os, Calls Try.prog 9 #[.agg #[.slice m.iA m.iN m.iC, .slice m.tA m.tN m.tC, .slice m.fA m.fN m.fC], .agg #[.slice n.iA n.iN n.iC, .slice n.tA n.tN n.tC, .slice n.fA n.fN n.fC]] (grow (redrawn w6 d) os) fun e w'' => e = .returned (.bool (sameImg m n)) ∧ ∃ p : Regrown, w'' = grow (redrawn w6 p.d) p.os) := Lib.hid fun d os =>
      Calls.regrown_of (same_any m n (grow (redrawn w6 d) os) (H6.out.hm.hm.below (below_regrown _ _ _)) (H6.out.hn.hm.below (below_regrown _ _ _)))
    have CM : RowKit.Hid (∀ d os, Calls Try.prog 9 #[.agg #[.slice m.iA m.iN m.iC, .slice m.tA m.tN m.tC, .slice m.fA m.fN m.fC], .agg #[.slice m.iA m.iN m.iC, .slice m.tA m.tN m.tC, .slice m.fA m.fN m.fC]] (grow (redrawn w6 d) os) fun e w'' => e = .returned (.bool true) ∧ ∃ p : Regrown, w'' = grow (redrawn w6 p.d) p.os) := Lib.hid fun d os =>
      Calls.regrown_of (same_true m m (grow (redrawn w6 d) os) (H6.out.hm.hm.below (below_regrown _ _ _)) (H6.out.hm.hm.below (below_regrown _ _ _)) rfl)
    have CR : RowKit.Hid (∀ d os, Calls Try.prog 10 #[.agg #[.slice m.iA m.iN m.iC, .slice m.tA m.tN m.tC, .slice m.fA m.fN m.fC], .agg #[.slice n.iA n.iN n.iC, .slice n.tA n.tN n.tC, .slice n.fA n.fN n.fC]] (grow (redrawn w6 d) os) fun e w'' => e = .returned (.bool (sameImg m n)) ∧ ∃ p : Regrown, w'' = grow (redrawn w6 p.d) p.os) := Lib.hid fun d os =>
      Calls.regrown_of (refSame_any m n (grow (redrawn w6 d) os) (H6.out.hm.hm.below (below_regrown _ _ _)) (H6.out.hn.hm.below (below_regrown _ _ _)))
    have k0 := cell_regrown H6.out.hm.m0
    have k1 := cell_regrown H6.out.hm.m1
    have k2 := cell_regrown H6.out.hm.m2
    have l0 := cell_regrown H6.out.hn.m0
    have l1 := cell_regrown H6.out.hn.m1
    have l2 := cell_regrown H6.out.hn.m2
    obtain ⟨sm, hsm⟩ : ∃ sm, sameImg m n = sm := ⟨_, rfl⟩
    rw [hsm] at CS CR
    have hne : (sm != sm) = false := by simp
    refine wp_region_quiet_below (by kernel_rfl) (by kernel_rfl) ?_
    repeat (quiet_step (first | (go_at_call 9; with_reducible exact CS.out _ _) | (go_at_call 9; with_reducible exact CM.out _ _) | (go_at_call 10; with_reducible exact CR.out _ _) | (go_at_call 11; with_reducible exact CK.out _ _)))
    refine wpQuiet_nil ?_
    intro _ hw'
    obtain ⟨⟨dq, osq⟩, hw''⟩ := hw'
    subst hw''
    have hbq := below_regrown w6 dq osq
    have H7 := Lib.hid (And.intro (H6.out.below hbq) (HP.out.2.2.below hbq))
    clear k0 k1 k2 l0 l1 l2 CK CS CM CR hbq
    generalize grow (redrawn w6 dq) osq = w7 at *
    go_wp2_with fail
    have H8 := Lib.hid (And.intro (H7.out.1.below ((Below.refl _ _).drew)) (H7.out.2.below ((Below.refl _ _).drew)))
    have hS : ∀ w', Two w w.heap.size m n w' ∧ Rd w' 1 A1 x.length (u8s x) → w'.cell? ⟨w.heap.size, 0, none⟩ = some (.slice m.iA m.iN m.iC) ∧ w'.cell? ⟨w.heap.size, 1, none⟩ = some (.slice m.tA m.tN m.tC) ∧ w'.cell? ⟨w.heap.size, 2, none⟩ = some (.slice m.fA m.fN m.fC) ∧ (convert 29 9 (.slice A1 x.length c1)).run Try.prog w' = .ok (.string (bstr x)) w' :=
      fun w' h => ⟨h.1.hm.m0, h.1.hm.m1, h.1.hm.m2, conv_bytes rfl h.2⟩
    have HS := Lib.hid hS
    clear hS
    refine wp_region_held_drew (S := (fun w' => w'.cell? ⟨w.heap.size, 0, none⟩ = some (.slice m.iA m.iN m.iC) ∧ w'.cell? ⟨w.heap.size, 1, none⟩ = some (.slice m.tA m.tN m.tC) ∧ w'.cell? ⟨w.heap.size, 2, none⟩ = some (.slice m.fA m.fN m.fC) ∧ (convert 29 9 (.slice A1 x.length c1)).run Try.prog w' = .ok (.string (bstr x)) w')) (by kernel_rfl) (HS.out _ H8.out) (fun hHeld => ?_)
    refine wpAnyH_take (i := 0) (v := ?_) (by simp only [List.getElem?_toArray, List.getElem?_cons_succ, List.getElem?_cons_zero]; rfl) (by kernel_rfl) (by kernel_rfl) (by kernel_rfl) (by intro _ _ _ h; exact h) (Or.inl ⟨by rfl, ?_⟩) (by assumption) ?_
    rotate_left
    · intro w hSw
      try dsimp only at hSw
      go_simp
      try with_reducible rfl
    try simp only [Act.put, List.setIfInBounds_toArray, List.set_cons_zero, List.set_cons_succ]
    refine wpAnyH_take (i := 1) (v := ?_) (by simp only [List.getElem?_toArray, List.getElem?_cons_succ, List.getElem?_cons_zero]; rfl) (by kernel_rfl) (by kernel_rfl) (by kernel_rfl) (by intro _ _ _ h; exact h) (Or.inl ⟨by rfl, ?_⟩) (by assumption) ?_
    rotate_left
    · intro w hSw
      try dsimp only at hSw
      go_simp
      try with_reducible rfl
    try simp only [Act.put, List.setIfInBounds_toArray, List.set_cons_zero, List.set_cons_succ]
    refine wpAnyH_take (i := 2) (v := ?_) (by simp only [List.getElem?_toArray, List.getElem?_cons_succ, List.getElem?_cons_zero]; rfl) (by kernel_rfl) (by kernel_rfl) (by kernel_rfl) (by intro _ _ _ h; exact h) (Or.inl ⟨by rfl, ?_⟩) (by assumption) ?_
    rotate_left
    · intro w hSw
      try dsimp only at hSw
      go_simp
      try with_reducible rfl
    try simp only [Act.put, List.setIfInBounds_toArray, List.set_cons_zero, List.set_cons_succ]
    refine wpAnyH_take (i := 3) (v := ?_) (by simp only [List.getElem?_toArray, List.getElem?_cons_succ, List.getElem?_cons_zero]; rfl) (by kernel_rfl) (by kernel_rfl) (by kernel_rfl) (by intro _ _ _ h; exact h) (Or.inl ⟨by rfl, ?_⟩) (by assumption) ?_
    rotate_left
    · intro w hSw
      try dsimp only at hSw
      go_simp
      try with_reducible rfl
    try simp only [Act.put, List.setIfInBounds_toArray, List.set_cons_zero, List.set_cons_succ]
    refine wpAnyH_take (i := 4) (v := ?_) (by simp only [List.getElem?_toArray, List.getElem?_cons_succ, List.getElem?_cons_zero]; rfl) (by kernel_rfl) (by kernel_rfl) (by kernel_rfl) (by intro _ _ _ h; exact h) (Or.inl ⟨by rfl, ?_⟩) (by assumption) ?_
    rotate_left
    · intro w hSw
      try dsimp only at hSw
      go_simp
      try with_reducible rfl
    try simp only [Act.put, List.setIfInBounds_toArray, List.set_cons_zero, List.set_cons_succ]
    refine wpAnyH_take (i := 5) (v := ?_) (by simp only [List.getElem?_toArray, List.getElem?_cons_succ, List.getElem?_cons_zero]; rfl) (by kernel_rfl) (by kernel_rfl) (by kernel_rfl) (by intro _ _ _ h; exact h) (Or.inl ⟨by rfl, ?_⟩) (by assumption) ?_
    rotate_left
    · intro w hSw
      try dsimp only at hSw
      go_simp
      try with_reducible rfl
    try simp only [Act.put, List.setIfInBounds_toArray, List.set_cons_zero, List.set_cons_succ]
    refine wpAnyH_take (i := 6) (v := ?_) (by simp only [List.getElem?_toArray, List.getElem?_cons_succ, List.getElem?_cons_zero]; rfl) (by kernel_rfl) (by kernel_rfl) (by kernel_rfl) (by intro _ _ _ h; exact h) (Or.inl ⟨by rfl, ?_⟩) (by assumption) ?_
    rotate_left
    · intro w hSw
      try dsimp only at hSw
      go_simp
      try with_reducible rfl
    try simp only [Act.put, List.setIfInBounds_toArray, List.set_cons_zero, List.set_cons_succ]
    refine wpAnyH_take (i := 7) (v := ?_) (by simp only [List.getElem?_toArray, List.getElem?_cons_succ, List.getElem?_cons_zero]; rfl) (by kernel_rfl) (by kernel_rfl) (by kernel_rfl) (by intro _ _ _ h; exact h) (Or.inl ⟨by rfl, ?_⟩) (by assumption) ?_
    rotate_left
    · intro w hSw
      try dsimp only at hSw
      go_simp
      try with_reducible rfl
    try simp only [Act.put, List.setIfInBounds_toArray, List.set_cons_zero, List.set_cons_succ]
    refine wpAnyH_take (i := 8) (v := ?_) (by simp only [List.getElem?_toArray, List.getElem?_cons_succ, List.getElem?_cons_zero]; rfl) (by kernel_rfl) (by kernel_rfl) (by kernel_rfl) (by intro _ _ _ h; exact h) (Or.inl ⟨by rfl, ?_⟩) (by assumption) ?_
    rotate_left
    · intro w hSw
      try dsimp only at hSw
      go_simp
      try with_reducible rfl
    try simp only [Act.put, List.setIfInBounds_toArray, List.set_cons_zero, List.set_cons_succ]
    refine wpAnyH_ready (rs := [9]) (by kernel_rfl) (by simp) ?_
    refine AllReadyH.cons (by simp only [List.getElem?_toArray, List.getElem?_cons_succ, List.getElem?_cons_zero]; rfl) (fun K hK => ?_) AllReadyH.nil
    go_simp
    (go_at_call 12; refine (refPut_any m _ H8.out.1.hm.hm (by rw [HP.out.2.1]; omega)).mono ?_; rintro e w9 ⟨v9, rfl, hown9, hb9⟩; rw [HP.out.2.1] at hown9; obtain ⟨A9, c9, rfl, _⟩ := own_cap hown9; have H9 := Lib.hid (And.intro (H8.out.1.below hb9) (H8.out.2.below hb9)); have conv3 := conv_bytes (c := c9) rfl (Rd.of_own hown9))
    go_wp2_with fail
    refine hK.out _ _ (HS.out _ H9.out) (fun hHeld => ?_)
    clear hK K
    try simp only [Act.put, List.setIfInBounds_toArray, List.set_cons_zero, List.set_cons_succ]
    refine wpAnyH_ready (rs := [10]) (by kernel_rfl) (by simp) ?_
    refine AllReadyH.cons (by simp only [List.getElem?_toArray, List.getElem?_cons_succ, List.getElem?_cons_zero]; rfl) (fun K hK => ?_) AllReadyH.nil
    go_simp
    refine hK.out _ _ (HS.out _ H9.out) (fun hHeld => ?_)
    clear hK K
    try simp only [Act.put, List.setIfInBounds_toArray, List.set_cons_zero, List.set_cons_succ]
    refine wpAnyH_ready (rs := [11]) (by kernel_rfl) (by simp) ?_
    refine AllReadyH.cons (by simp only [List.getElem?_toArray, List.getElem?_cons_succ, List.getElem?_cons_zero]; rfl) (fun K hK => ?_) AllReadyH.nil
    go_simp
    refine hK.out _ _ (HS.out _ H9.out) (fun hHeld => ?_)
    clear hK K
    try simp only [Act.put, List.setIfInBounds_toArray, List.set_cons_zero, List.set_cons_succ]
    refine wpAnyH_ready (rs := [12]) (by kernel_rfl) (by simp) ?_
    refine AllReadyH.cons (by simp only [List.getElem?_toArray, List.getElem?_cons_succ, List.getElem?_cons_zero]; rfl) (fun K hK => ?_) AllReadyH.nil
    go_simp
    refine hK.out _ _ (HS.out _ H9.out) (fun hHeld => ?_)
    clear hK K
    try simp only [Act.put, List.setIfInBounds_toArray, List.set_cons_zero, List.set_cons_succ]
    refine wpAnyH_ready (rs := [13]) (by kernel_rfl) (by simp) ?_
    refine AllReadyH.cons (by simp only [List.getElem?_toArray, List.getElem?_cons_succ, List.getElem?_cons_zero]; rfl) (fun K hK => ?_) AllReadyH.nil
    go_simp
    refine hK.out _ _ (HS.out _ H9.out) (fun hHeld => ?_)
    clear hK K
    try simp only [Act.put, List.setIfInBounds_toArray, List.set_cons_zero, List.set_cons_succ]
    refine wpAnyH_done (by kernel_rfl) ?_ _
    go_wp2_with fail
    go_returns
    refine ⟨?_, H9.out.1.b⟩
    simp
  · have H6 := Lib.hid (H5.out.below hb6)
    have CF := check_any m
    have CE : CheckRes m = .iface 36 (.int .i64 10) := by unfold CheckRes; rw [hs]; rfl
    rw [CE] at CF
    have CF := Lib.hid CF
    rw [hs]
    clear hs hb6 k0 k1 k2 CE
    go_wp2_with fail
    have CK : RowKit.Hid (∀ d os, Calls Try.prog 11 #[.agg #[.slice m.iA m.iN m.iC, .slice m.tA m.tN m.tC, .slice m.fA m.fN m.fC]] (grow (redrawn w6 d) os) fun e w'' => e = .returned (.iface 36 (.int .i64 10)) ∧ ∃ p : Regrown, w'' = grow (redrawn w6 p.d) p.os) := Lib.hid fun d os =>
      Calls.regrown_of (CF.out (grow (redrawn w6 d) os) (H6.out.hm.hm.below (below_regrown _ _ _)))
    have CS : RowKit.Hid (∀ d os, Calls Try.prog 9 #[.agg #[.slice m.iA m.iN m.iC, .slice m.tA m.tN m.tC, .slice m.fA m.fN m.fC], .agg #[.slice n.iA n.iN n.iC, .slice n.tA n.tN n.tC, .slice n.fA n.fN n.fC]] (grow (redrawn w6 d) os) fun e w'' => e = .returned (.bool (sameImg m n)) ∧ ∃ p : Regrown, w'' = grow (redrawn w6 p.d) p.os) := Lib.hid fun d os =>
      Calls.regrown_of (same_any m n (grow (redrawn w6 d) os) (H6.out.hm.hm.below (below_regrown _ _ _)) (H6.out.hn.hm.below (below_regrown _ _ _)))
    have CM : RowKit.Hid (∀ d os, Calls Try.prog 9 #[.agg #[.slice m.iA m.iN m.iC, .slice m.tA m.tN m.tC, .slice m.fA m.fN m.fC], .agg #[.slice m.iA m.iN m.iC, .slice m.tA m.tN m.tC, .slice m.fA m.fN m.fC]] (grow (redrawn w6 d) os) fun e w'' => e = .returned (.bool true) ∧ ∃ p : Regrown, w'' = grow (redrawn w6 p.d) p.os) := Lib.hid fun d os =>
      Calls.regrown_of (same_true m m (grow (redrawn w6 d) os) (H6.out.hm.hm.below (below_regrown _ _ _)) (H6.out.hm.hm.below (below_regrown _ _ _)) rfl)
    have CR : RowKit.Hid (∀ d os, Calls Try.prog 10 #[.agg #[.slice m.iA m.iN m.iC, .slice m.tA m.tN m.tC, .slice m.fA m.fN m.fC], .agg #[.slice n.iA n.iN n.iC, .slice n.tA n.tN n.tC, .slice n.fA n.fN n.fC]] (grow (redrawn w6 d) os) fun e w'' => e = .returned (.bool (sameImg m n)) ∧ ∃ p : Regrown, w'' = grow (redrawn w6 p.d) p.os) := Lib.hid fun d os =>
      Calls.regrown_of (refSame_any m n (grow (redrawn w6 d) os) (H6.out.hm.hm.below (below_regrown _ _ _)) (H6.out.hn.hm.below (below_regrown _ _ _)))
    have k0 := cell_regrown H6.out.hm.m0
    have k1 := cell_regrown H6.out.hm.m1
    have k2 := cell_regrown H6.out.hm.m2
    have l0 := cell_regrown H6.out.hn.m0
    have l1 := cell_regrown H6.out.hn.m1
    have l2 := cell_regrown H6.out.hn.m2
    obtain ⟨sm, hsm⟩ : ∃ sm, sameImg m n = sm := ⟨_, rfl⟩
    rw [hsm] at CS CR
    have hne : (sm != sm) = false := by simp
    refine wp_region_quiet_below (by kernel_rfl) (by kernel_rfl) ?_
    repeat (quiet_step (first | (go_at_call 9; with_reducible exact CS.out _ _) | (go_at_call 9; with_reducible exact CM.out _ _) | (go_at_call 10; with_reducible exact CR.out _ _) | (go_at_call 11; with_reducible exact CK.out _ _)))
    refine wpQuiet_nil ?_
    intro _ hw'
    obtain ⟨⟨dq, osq⟩, hw''⟩ := hw'
    subst hw''
    have hbq := below_regrown w6 dq osq
    have H7 := Lib.hid (H6.out.below hbq)
    clear k0 k1 k2 l0 l1 l2 CK CS CM CR hbq
    generalize grow (redrawn w6 dq) osq = w7 at *
    have k0 := H7.out.hm.m0
    have k1 := H7.out.hm.m1
    have k2 := H7.out.hm.m2
    go_wp2_with fail
    refine (CF.out w7 H7.out.hm.hm).mono ?_
    rintro e w8 ⟨rfl, hb8⟩
    have H8 := Lib.hid (H7.out.below hb8)
    clear hb8
    go_wp2_with fail
    go_returns
    exact ⟨rfl, H8.out.b⟩
end Go.Proofs.Ythdnnlelmelegaa
