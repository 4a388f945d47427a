/-
  The document's example, played; unlike texts: the law, walked.
-/
import Derived.Test.YtaglmmcjhlehjaaDoorShEF
import Derived.Test.YtaglmmcjhlehjaaDoorSmA
import Derived.Test.YtaglmmcjhlehjaaDoorExL
import Derived.Test.YtaglmmcjhlehjaaDoorCodes
namespace Go.Proofs.YtaglmmcjhlehjaaDoor
open Go.ChangeShapes Go.WideShapes Go.ChangeAt Go.RowKit Go.Sort Go.Maps
set_option linter.unusedVariables false
set_option linter.unusedSimpArgs false

abbrev eF : ExD := ⟨3, 0, 0, [102], [], none, 0, 0, [], none, 0, 0, [], none, 0, 0⟩
abbrev eG : ExD := ⟨3, 0, 0, [103], [], none, 0, 0, [], none, 0, 0, [], none, 0, 0⟩
abbrev eX : ExD := ⟨3, 0, 0, [120], [], none, 0, 0, [], none, 0, 0, [], none, 0, 0⟩
abbrev eE : ExD := ⟨0, 0, 0, [], [], none, 0, 0, [], none, 0, 0, [], none, 0, 0⟩
abbrev eP (B : Nat) : ExD := ⟨5, 0, 0, [], [], none, 0, 0, [], none, 0, 0, [], some ⟨B, 0, none⟩, 2, 2⟩
abbrev tU (B C : Nat) : Ex := .mk (eP C) [.mk eF [], .mk (eP B) [.mk eG [], .mk eX []]]

theorem mayU (B C : Nat) : (mayE (tU B C) 1 0).isSome = true := by first | rfl | kernel_rfl
theorem mayE0 : (mayE (.mk eE []) 1 0).isSome = false := by first | rfl | kernel_rfl
theorem shU (B C : Nat) : (tU B C).sh = [102, 32, 40, 103, 32, 120, 41] := by first | rfl | kernel_rfl
theorem wtU (B C : Nat) : (tU B C).wt ≤ 100000000 := by
  simp [Ex.wt, wtL, ExD.own]
theorem rgU {d : ExD} {l : List Ex} (h : d.n = 0 ∧ d.at_ = 0) (hl : ∀ x ∈ l, x.Rg) : (Ex.mk d l).Rg := .mk d l (by rw [h.1]; omega) (by rw [h.2]; omega) hl
theorem smU {d : ExD} {l : List Ex} (h : d.s.length ≤ 3000000 ∧ d.ln ≤ 3000000) (hl : ∀ x ∈ l, x.Sm) : (Ex.mk d l).Sm := .mk d l h.1 h.2 hl

abbrev v1U (w : World) : World := w.alloc (.cells eF.arr 25)
abbrev v2U (w : World) : World := (v1U w).alloc (.cells (eG.arr ++ eX.arr) 25)
abbrev v3U (w : World) : World := (v2U w).alloc (.cells (eP (w.heap.size + 1)).arr 25)
abbrev v4U (w : World) : World := (v3U w).alloc (.cells (eF.arr ++ (eP (w.heap.size + 1)).arr) 25)
theorem belowU (w : World) : Below w.heap.size w (v4U w) := ((((Below.refl _ _).alloc (Nat.le_refl _) _).alloc (by simp [v1U]) _).alloc (by simp [v2U, v1U]; omega) _).alloc (by simp [v3U, v2U, v1U]; omega) _
theorem leafU {d : ExD} {w : World} (h1 : d.lA = none ∧ d.ln = 0 ∧ d.labels = [] ∧ d.nA = none ∧ d.nn = 0 ∧ d.names = []) (hp : d.pn = 0) (h : (d.ln ≤ d.lc ∧ d.lc ≤ maxLen ∧ d.ln ≤ 9223372036854775807) ∧ (d.nn ≤ d.nc ∧ d.nc ≤ maxLen ∧ d.nn ≤ 9223372036854775807) ∧ (d.pn ≤ d.pc ∧ d.pc ≤ maxLen ∧ d.pn ≤ 9223372036854775807) ∧ d.s.length ≤ 9223372036854775807 ∧ d.t.length ≤ 9223372036854775807) : (Ex.mk d []).In w := by
  obtain ⟨a, b, c, e, f, g⟩ := h1
  exact .mk d [] (by rw [b, c]; exact Rd.nil _ _ _) (by rw [f, g]; exact Rd.nil _ _ _) (by rw [hp]; exact Rd.nil _ _ _) ⟨h.1, h.2.1, h.2.2.1, h.2.2.2.1, h.2.2.2.2, by rw [c]; simp, by rw [g]; simp⟩ (by simp)
theorem inU (w : World) : (tU (w.heap.size + 1) (w.heap.size + 3)).In (v4U w) := by
  have r1 : Rd (v4U w) 8 (some ⟨w.heap.size + 1, 0, none⟩) 2 (Ex.cells (.mk eG []) ++ (Ex.cells (.mk eX []))) := by
    have h := ((Rd.lit (size := 8) (n := 2) (v1U w) (eG.arr ++ eX.arr) 25 rfl (fr := (0, 0))).alloc (.cells (eP (w.heap.size + 1)).arr 25)).alloc (.cells (eF.arr ++ (eP (w.heap.size + 1)).arr) 25)
    rw [show (v1U w).heap.size = w.heap.size + 1 from by simp [v1U]] at h
    exact h
  have r2 : Rd (v4U w) 8 (some ⟨w.heap.size + 3, 0, none⟩) 2 (Ex.cells (.mk eF []) ++ Ex.cells (.mk (eP (w.heap.size + 1)) [])) := by
    have h := Rd.lit (size := 8) (n := 2) (v3U w) (eF.arr ++ (eP (w.heap.size + 1)).arr) 25 rfl (fr := (0, 0))
    rw [show (v3U w).heap.size = w.heap.size + 3 from by simp [v3U, v2U, v1U]] at h
    exact h
  have m4 : (2 : Nat) ≤ maxLen := by decide
  refine .mk _ _ (Rd.nil _ _ _) (Rd.nil _ _ _) r2 ⟨by simp, by simp, ⟨by simp, by simp; omega, by simp⟩, by simp, by simp, by simp, by simp⟩ (fun x hx => ?_)
  simp only [List.mem_cons, List.not_mem_nil, or_false] at hx
  rcases hx with rfl | rfl
  · exact leafU ⟨rfl, rfl, rfl, rfl, rfl, rfl⟩ rfl (by simp)
  refine .mk _ _ (Rd.nil _ _ _) (Rd.nil _ _ _) r1 ⟨by simp, by simp, ⟨by simp, by simp; omega, by simp⟩, by simp, by simp, by simp, by simp⟩ (fun x hx => ?_)
  simp only [List.mem_cons, List.not_mem_nil, or_false] at hx
  rcases hx with rfl | rfl
  · exact leafU ⟨rfl, rfl, rfl, rfl, rfl, rfl⟩ rfl (by simp)
  · exact leafU ⟨rfl, rfl, rfl, rfl, rfl, rfl⟩ rfl (by simp)
theorem rgTU (B C : Nat) : (tU B C).Rg := rgU ⟨rfl, rfl⟩ (fun x hx => by
  simp only [List.mem_cons, List.not_mem_nil, or_false] at hx
  rcases hx with rfl | rfl
  · exact rgU ⟨rfl, rfl⟩ (by simp)
  · exact rgU ⟨rfl, rfl⟩ (fun x hx => by
      simp only [List.mem_cons, List.not_mem_nil, or_false] at hx
      rcases hx with rfl | rfl
      · exact rgU ⟨rfl, rfl⟩ (by simp)
      · exact rgU ⟨rfl, rfl⟩ (by simp)))
theorem smTU (B C : Nat) : (tU B C).Sm := smU (by simp) (fun x hx => by
  simp only [List.mem_cons, List.not_mem_nil, or_false] at hx
  rcases hx with rfl | rfl
  · exact smU (by simp) (by simp)
  · exact smU (by simp) (fun x hx => by
      simp only [List.mem_cons, List.not_mem_nil, or_false] at hx
      rcases hx with rfl | rfl
      · exact smU (by simp) (by simp)
      · exact smU (by simp) (by simp)))

set_option maxRecDepth 100000 in
set_option maxHeartbeats 2000000 in
theorem up6_any (w : World) (hL : Lay w) (hT : Tab w) : Calls Tryd.prog 4 #[] w fun e w' => e = .returned (.bool true) ∧ Below w.heap.size w w' := by
  have HB := Lib.hid (belowU w)
  have HX := Lib.hid (showText_any (tU (w.heap.size + 1) (w.heap.size + 3)) (v4U w) (hL.below (belowU w)) (tab_below hT (belowU w)) (inU w) (rgTU _ _) (smTU _ _) (wtU _ _))
  have HL := Lib.hid (And.intro hL hT)
  have g1 : ((bstr [102, 32, 40, 103, 32, 120, 41]).toList == [102, 32, 40, 103, 32, 120, 41]) = true := by rw [bstr_toList]; decide
  clear hL hT
  go_enter Tryd.func4, Tryd.ntmps4
  go_wp2_with fail
  refine HX.out.mono ?_
  rintro r w5 ⟨h1, _, hb5⟩
  have h1 := h1 (mayU _ _)
  rw [shU] at h1
  subst h1
  have HB5 := Lib.hid (below_then HB.out hb5)
  clear hb5 HX
  go_wp2_with fail
  refine (showText_any (.mk eE []) w5 (HL.out.1.below HB5.out) (tab_below HL.out.2 HB5.out) (leafU ⟨rfl, rfl, rfl, rfl, rfl, rfl⟩ rfl (by simp)) (rgU ⟨rfl, rfl⟩ (by simp)) (smU (by simp) (by simp)) (by simp [Ex.wt, wtL, ExD.own])).mono ?_
  rintro r w6 ⟨_, h2, hb6⟩
  have h2 := h2 mayE0
  subst h2
  have HB6 := Lib.hid (below_then HB5.out hb6)
  clear hb6
  go_wp2_with fail
  go_returns
  exact ⟨rfl, HB6.out⟩

set_option maxRecDepth 100000 in
set_option maxHeartbeats 8000000 in
theorem showUnlike_any (d e : ExD) (l m : List Ex) (w : World) (hL : Lay w) (hT : Tab w) (hI : (Ex.mk d l).In w) (hr : (Ex.mk d l).Rg) (hm : (Ex.mk d l).Sm) (hw : (Ex.mk d l).wt ≤ 100000000)
    (hI' : (Ex.mk e m).In w) (hr' : (Ex.mk e m).Rg) (hm' : (Ex.mk e m).Sm) (hw' : (Ex.mk e m).wt ≤ 100000000) :
    Calls Tryd.prog 3 #[.agg d.arr, .agg e.arr] w fun r w' => r = .returned (.bool true) ∧ Below w.heap.size w w' := by
  have hX0 := ex_box w d
  have hb1 : Below w.heap.size w (w.alloc (.cells d.arr 25)) := (Below.refl _ _).alloc (Nat.le_refl _) _
  have hY0 := ex_box (w.alloc (.cells d.arr 25)) e
  have hb2 : Below w.heap.size w ((w.alloc (.cells d.arr 25)).alloc (.cells e.arr 25)) := hb1.alloc hb1.size _
  have hb12 : Below (w.alloc (.cells d.arr 25)).heap.size (w.alloc (.cells d.arr 25)) ((w.alloc (.cells d.arr 25)).alloc (.cells e.arr 25)) := (Below.refl _ _).alloc (Nat.le_refl _) _
  have hX1 := hX0.lower hb12
  have hsz : (w.alloc (.cells d.arr 25)).heap.size = w.heap.size + 1 := by simp
  rw [hsz] at hY0
  have HI := Lib.hid (And.intro hI (And.intro hr (And.intro hm hw)))
  have HY := Lib.hid (And.intro hI' (And.intro hr' (And.intro hm' hw')))
  have HLT := Lib.hid (And.intro hL hT)
  have HB1 := Lib.hid hb2
  clear hI hr hm hw hI' hr' hm' hw' hL hT hb1 hb2 hb12 hX0 hsz
  go_enter Tryd.func3, Tryd.ntmps3
  go_wp2_with fail
  obtain ⟨bx, hbx⟩ : ∃ bx, w.heap.size = bx := ⟨_, rfl⟩
  rw [hbx] at hX1 hY0
  try rw [hbx]
  obtain ⟨bY, hbY⟩ : ∃ bY, bx + 1 = bY := ⟨_, rfl⟩
  rw [hbY] at hY0
  try rw [hbY]
  clear hbx hbY
  generalize ((w.alloc (.cells d.arr 25)).alloc (.cells e.arr 25)) = w1 at *
  have HX := Lib.hid (fun V (h : Below w1.heap.size w1 V) => hX1.lower h)
  have HYA := Lib.hid (fun V (h : Below w1.heap.size w1 V) => hY0.lower h)
  clear hX1 hY0
  refine (up6_any w1 (HLT.out.1.below HB1.out) (tab_below HLT.out.2 HB1.out)).mono ?_
  rintro r w2 ⟨rfl, hb2⟩
  have HB2 := Lib.hid hb2
  clear hb2
  obtain ⟨c0, c1, c2, c3, c4, c5, c6, c7⟩ := HX.out w2 HB2.out
  go_wp2_with fail
  refine (Few_any w (Ex.mk d l) HI.out.1 w2 (below_then HB1.out HB2.out)).mono ?_
  rintro r w3 ⟨⟨v1, rfl⟩, hb3⟩
  have HB3 := Lib.hid (below_then HB2.out hb3)
  clear hb3 c0 c1 c2 c3 c4 c5 c6 c7
  obtain ⟨f0, f1, f2, f3, f4, f5, f6, f7⟩ := HYA.out w3 HB3.out
  go_wp2_with fail
  refine (Few_any w (Ex.mk e m) HY.out.1 w3 (below_then HB1.out HB3.out)).mono ?_
  rintro r w4 ⟨⟨v2, rfl⟩, hb4⟩
  have HB4 := Lib.hid (below_then HB3.out hb4)
  clear hb4 f0 f1 f2 f3 f4 f5 f6 f7
  cases v1 with
  | false =>
    go_wp2_with fail
    go_returns
    exact ⟨rfl, below_then HB1.out HB4.out⟩
  | true =>
  cases v2 with
  | false =>
    go_wp2_with fail
    go_returns
    exact ⟨rfl, below_then HB1.out HB4.out⟩
  | true =>
  obtain ⟨c0, c1, c2, c3, c4, c5, c6, c7⟩ := HX.out w4 HB4.out
  have HB04 := Lib.hid (below_then HB1.out HB4.out)
  go_wp2_with fail
  refine (showText_any (Ex.mk d l) w4 (HLT.out.1.below HB04.out) (tab_below HLT.out.2 HB04.out) (HI.out.1.lower HB04.out) HI.out.2.1 HI.out.2.2.1 HI.out.2.2.2).mono ?_
  rintro r w5 ⟨hy, hno, hb5⟩
  have HB5 := Lib.hid (below_then HB4.out hb5)
  clear hb5 c0 c1 c2 c3 c4 c5 c6 c7
  have HB05 := Lib.hid (below_then HB1.out HB5.out)
  have HT2 := Lib.hid (showText_any (Ex.mk e m) w5 (HLT.out.1.below HB05.out) (tab_below HLT.out.2 HB05.out) (HY.out.1.lower HB05.out) HY.out.2.1 HY.out.2.2.1 HY.out.2.2.2)
  obtain ⟨f0, f1, f2, f3, f4, f5, f6, f7⟩ := HYA.out w5 HB5.out
  cases hmay : (mayE (Ex.mk d l) 1 0).isSome with
  | false =>
    have h2 := hno hmay
    subst h2
    clear hy hno hmay
    go_wp2_with fail
    refine HT2.out.mono ?_
    rintro r w6 ⟨hy, hno, hb6⟩
    have HB6 := Lib.hid (below_then HB5.out hb6)
    clear hb6 HT2 f0 f1 f2 f3 f4 f5 f6 f7
    cases hmay2 : (mayE (Ex.mk e m) 1 0).isSome with
    | false =>
      have h2 := hno hmay2
      subst h2
      clear hy hno hmay2
      go_wp2_with fail
      go_returns
      exact ⟨rfl, below_then HB1.out HB6.out⟩
    | true =>
      have h2 := hy hmay2
      subst h2
      clear hy hno hmay2
      go_wp2_with fail
      go_returns
      exact ⟨rfl, below_then HB1.out HB6.out⟩
  | true =>
    have h2 := hy hmay
    subst h2
    have HF := Lib.hid (show (Ex.mk d l).fineE = true by
      rw [mayE_spec] at hmay
      split at hmay
      · rename_i h; exact h.1
      · cases hmay)
    clear hy hno hmay
    obtain ⟨s, hs⟩ : ∃ s, (Ex.mk d l).sh = s := ⟨_, rfl⟩
    rw [hs]
    have HS := Lib.hid hs
    clear hs
    go_wp2_with fail
    refine HT2.out.mono ?_
    rintro r w6 ⟨hy, hno, hb6⟩
    have HB6 := Lib.hid (below_then HB5.out hb6)
    clear hb6 HT2 f0 f1 f2 f3 f4 f5 f6 f7
    cases hmay2 : (mayE (Ex.mk e m) 1 0).isSome with
    | false =>
      have h2 := hno hmay2
      subst h2
      clear hy hno hmay2
      go_wp2_with fail
      go_returns
      exact ⟨rfl, below_then HB1.out HB6.out⟩
    | true =>
      have h2 := hy hmay2
      subst h2
      have HF2 := Lib.hid (show (Ex.mk e m).fineE = true by
        rw [mayE_spec] at hmay2
        split at hmay2
        · rename_i h; exact h.1
        · cases hmay2)
      clear hy hno hmay2
      obtain ⟨t, ht⟩ : ∃ t, (Ex.mk e m).sh = t := ⟨_, rfl⟩
      rw [ht]
      have HSM := Lib.hid (refSame_any w (Ex.mk d l) HI.out.1 (Ex.mk e m) HY.out.1 w6 (below_then HB1.out HB6.out))
      have HOK := Lib.hid (And.intro (ok_of w _ HI.out.1 HF.out) (ok_of w _ HY.out.1 HF2.out))
      have HEQ := Lib.hid (show eqB (.mk d l) (.mk e m) = decide (s = t) by
        by_cases h : s = t
        · rw [decide_eq_true h]
          exact eqB_true (sh_inj HOK.out.1 HOK.out.2 (by rw [HS.out, ht, h]))
        · rw [decide_eq_false h]
          exact eqB_false (fun hh => h (by rw [← HS.out, ← ht]; exact (sh_congr _ _ HOK.out.1 HOK.out.2 hh).1)))
      have HSM := Lib.hid (show Calls Tryd.prog 7 #[.agg d.arr, .agg e.arr] w6 fun r w' => r = .returned (.bool (decide (s = t))) ∧ Below w6.heap.size w6 w' from HSM.out.mono fun r w' hh => ⟨by rw [hh.1, HEQ.out], hh.2⟩)
      clear ht
      obtain ⟨c0, c1, c2, c3, c4, c5, c6, c7⟩ := HX.out w6 HB6.out
      obtain ⟨f0, f1, f2, f3, f4, f5, f6, f7⟩ := HYA.out w6 HB6.out
      by_cases hst : s = t
      · have hd := decide_eq_true hst
        obtain ⟨g1, g2⟩ := ne_facts s t true hd
        rw [hd] at HSM
        clear hst hd g2
        go_wp2_with fail
        refine HSM.out.mono ?_
        rintro r w7 ⟨rfl, hb7⟩
        have HB7 := Lib.hid (below_then HB6.out hb7)
        clear hb7 HSM c0 c1 c2 c3 c4 c5 c6 c7 f0 f1 f2 f3 f4 f5 f6 f7
        go_wp2_with fail
        go_returns
        exact ⟨rfl, below_then HB1.out HB7.out⟩
      · have hd := decide_eq_false hst
        obtain ⟨g1, g2⟩ := ne_facts s t false hd
        rw [hd] at HSM
        clear hst hd g2
        go_wp2_with fail
        refine HSM.out.mono ?_
        rintro r w7 ⟨rfl, hb7⟩
        have HB7 := Lib.hid (below_then HB6.out hb7)
        clear hb7 HSM c0 c1 c2 c3 c4 c5 c6 c7 f0 f1 f2 f3 f4 f5 f6 f7
        go_wp2_with fail
        go_returns
        exact ⟨rfl, below_then HB1.out HB7.out⟩
end Go.Proofs.YtaglmmcjhlehjaaDoor
