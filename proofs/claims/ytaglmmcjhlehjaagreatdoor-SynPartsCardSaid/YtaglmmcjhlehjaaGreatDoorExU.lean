/-
  The document's example, played.
-/
import Derived.Test.YtaglmmcjhlehjaaGreatDoorExG
import Derived.Test.YtaglmmcjhlehjaaGreatDoorExK
namespace Go.Proofs.YtaglmmcjhlehjaaGreatDoor
open Go.ChangeShapes Go.WideShapes Go.ChangeAt Go.RowKit Go.Sort Go.Maps
set_option linter.unusedVariables false
set_option linter.unusedSimpArgs false

abbrev dA : ExD := ⟨3, 0, 0, [97], [], none, 0, 0, [], none, 0, 0, [], none, 0, 0⟩
abbrev dB : ExD := ⟨3, 0, 0, [98], [], none, 0, 0, [], none, 0, 0, [], none, 0, 0⟩
abbrev dE : ExD := ⟨0, 0, 0, [], [], none, 0, 0, [], none, 0, 0, [], none, 0, 0⟩
abbrev dP (B : Nat) : ExD := ⟨5, 0, 0, [], [], none, 0, 0, [], none, 0, 0, [], some ⟨B, 0, none⟩, 2, 2⟩
abbrev dF (C : Nat) : ExD := ⟨4, 0, 0, [97], [], none, 0, 0, [], none, 0, 0, [], some ⟨C, 0, none⟩, 1, 1⟩
abbrev tF (B C : Nat) : Ex := .mk (dF C) [.mk (dP B) [.mk dA [], .mk dB []]]

theorem may_up (B C : Nat) : (mayE (tF B C) 1 0).isSome = true := by first | rfl | kernel_rfl
theorem may_no : (mayE (.mk dE []) 1 0).isSome = false := by first | rfl | kernel_rfl
theorem depth_up (B C : Nat) : (tF B C).depth = 3 := by first | rfl | kernel_rfl
theorem nodes_up (B C : Nat) : (tF B C).nodes = 4 := by first | rfl | kernel_rfl
theorem free_up (B C : Nat) (x : Str) : (tF B C).freeB x = decide (x = [98]) := by
  have e1 : (dF C).boundF 0 = [[97]] := rfl
  have e2 : ∀ i, (dP B).boundF i = [] := fun i => by simp [ExD.boundF]
  simp only [tF, Ex.freeB, freeLB, e1, e2]
  by_cases h : x = [98]
  · subst h; first | rfl | (simp; done) | decide +revert
  · have : ¬ x = dB.s := h
    by_cases h1 : x = [97]
    · subst h1; first | rfl | (simp; done) | decide +revert
    · have h2 : ¬ x = dA.s := h1
      simp [h, h1, this, h2]

abbrev w1U (w : World) : World := w.alloc (.cells (dA.arr ++ dB.arr) 25)
abbrev w2U (w : World) : World := (w1U w).alloc (.cells (dP w.heap.size).arr 25)
abbrev w3U (w : World) : World := (w2U w).alloc (.cells (dF (w.heap.size + 1)).arr 25)
theorem below_up (w : World) : Below w.heap.size w (w3U w) := (((Below.refl _ _).alloc (Nat.le_refl _) _).alloc (by simp [w1U]) _).alloc (by simp [w2U, w1U]; omega) _
theorem in_leaf {d : ExD} {w : World} (h1 : d.lA = none ∧ d.ln = 0 ∧ d.labels = [] ∧ d.nA = none ∧ d.nn = 0 ∧ d.names = []) (hp : d.pn = 0) (h : (d.ln ≤ d.lc ∧ d.lc ≤ maxLen ∧ d.ln ≤ 9223372036854775807) ∧ (d.nn ≤ d.nc ∧ d.nc ≤ maxLen ∧ d.nn ≤ 9223372036854775807) ∧ (d.pn ≤ d.pc ∧ d.pc ≤ maxLen ∧ d.pn ≤ 9223372036854775807) ∧ d.s.length ≤ 9223372036854775807 ∧ d.t.length ≤ 9223372036854775807) : (Ex.mk d []).In w := by
  obtain ⟨a, b, c, e, f, g⟩ := h1
  exact .mk d [] (by rw [b, c]; exact Rd.nil _ _ _) (by rw [f, g]; exact Rd.nil _ _ _) (by rw [hp]; exact Rd.nil _ _ _) ⟨h.1, h.2.1, h.2.2.1, h.2.2.2.1, h.2.2.2.2, by rw [c]; simp, by rw [g]; simp⟩ (by simp)
theorem in_up (w : World) : (tF w.heap.size (w.heap.size + 1)).In (w3U w) := by
  have r1 : Rd (w3U w) 8 (some ⟨w.heap.size, 0, none⟩) 2 (Ex.cells (.mk dA []) ++ (Ex.cells (.mk dB []))) := ((Rd.lit (size := 8) (n := 2) w (dA.arr ++ dB.arr) 25 rfl (fr := (0, 0))).alloc _).alloc _
  have r2 : Rd (w3U w) 8 (some ⟨w.heap.size + 1, 0, none⟩) 1 (Ex.cells (.mk (dP w.heap.size) [])) := by
    have h := (Rd.lit (size := 8) (n := 1) (w1U w) (dP w.heap.size).arr 25 rfl (fr := (0, 0))).alloc (.cells (dF (w.heap.size + 1)).arr 25)
    rw [show (w1U w).heap.size = w.heap.size + 1 from by simp [w1U]] at h
    exact h
  have m4 : (2 : Nat) ≤ maxLen := by decide
  refine .mk _ _ (Rd.nil _ _ _) (Rd.nil _ _ _) r2 ⟨by simp, by simp, ⟨by simp, by simp; omega, by simp⟩, by simp, by simp, by simp, by simp⟩ (fun x hx => ?_)
  simp only [List.mem_cons, List.not_mem_nil, or_false] at hx
  subst hx
  refine .mk _ _ (Rd.nil _ _ _) (Rd.nil _ _ _) r1 ⟨by simp, by simp, ⟨by simp, by simp; omega, by simp⟩, by simp, by simp, by simp, by simp⟩ (fun x hx => ?_)
  simp only [List.mem_cons, List.not_mem_nil, or_false] at hx
  rcases hx with rfl | rfl
  · exact in_leaf ⟨rfl, rfl, rfl, rfl, rfl, rfl⟩ rfl (by simp)
  · exact in_leaf ⟨rfl, rfl, rfl, rfl, rfl, rfl⟩ rfl (by simp)
theorem box_up (w : World) : (dF (w.heap.size + 1)).At (w3U w) (w.heap.size + 1 + 1) 0 := by
  have h := ex_box (w2U w) (dF (w.heap.size + 1))
  rw [show (w2U w).heap.size = w.heap.size + 1 + 1 from by simp [w2U, w1U]] at h
  exact h
theorem one_of {ss : List Str} {x : Str} (h1 : ∀ y ∈ ss, y = x) (h2 : x ∈ ss) (h3 : ss.Nodup) : ss = [x] := by
  match ss, h1, h2, h3 with
  | [], _, h, _ => cases h
  | [a], h, _, _ => rw [h a (by simp)]
  | a :: b :: r, h, _, hn =>
    have ha := h a (by simp)
    have hb := h b (by simp)
    rw [ha, hb] at hn
    simp at hn

set_option maxRecDepth 100000 in
set_option maxHeartbeats 1000000 in
theorem up_any (w : World) (hL : Lay w) : Calls Tryz.prog 7 #[] w fun e w' => e = .returned (.bool true) ∧ Below w.heap.size w w' := by
  have HB := Lib.hid (below_up w)
  have HI := Lib.hid (in_up w)
  have HX := Lib.hid (box_up w)
  have HF := Lib.hid (Free_any _ _ HI.out (by rw [nodes_up]; omega))
  have HL := Lib.hid hL
  clear hL
  go_enter Tryz.func7, Tryz.ntmps7
  go_wp2_with fail
  refine HF.out.mono ?_
  rintro e w4 ⟨A, n, c, ss, rfl, hr, hn, hin, hout, hb4, hnd⟩
  have hss : ss = [[98]] := one_of (fun y hy => by have := (hin y hy).1; rw [free_up] at this; exact of_decide_eq_true this) (hout [98] (by decide) (by rw [free_up]; rfl)) hnd
  subst hss
  have hn1 : n = 1 := (rd_len hr).symm
  subst hn1
  obtain ⟨ab, ao, rfl, hcs⟩ := hr.str (k := 0) (by decide)
  have hc : w4.cell? ⟨ab, ao, none⟩ = some (.string (bstr [98])) := hcs 0 (by decide)
  have HB4 := Lib.hid hb4
  obtain ⟨a0, a1, a2, a3, a4, a5, a6, a7⟩ := HX.out.lower HB4.out
  have g1 : ((bstr [98]).toList == [98]) = true := by rw [bstr_toList]; decide
  clear hr hn hin hout hb4 hnd hcs HF
  go_wp2_with fail
  refine (may_any _ w4 (HL.out.below (below_then HB.out HB4.out)) (HI.out.lower HB4.out)).mono ?_
  rintro e w5 ⟨rfl, hb5⟩
  rw [may_up]
  have HB5 := Lib.hid (below_then HB4.out hb5)
  clear hb5 HB4 a0 a1 a2 a3 a4 a5 a6 a7 hc
  go_wp2_with fail
  refine (may_any (.mk dE []) w5 (HL.out.below (below_then HB.out HB5.out)) (in_leaf ⟨rfl, rfl, rfl, rfl, rfl, rfl⟩ rfl (by simp))).mono ?_
  rintro e w6 ⟨rfl, hb6⟩
  rw [may_no]
  have HB6 := Lib.hid (below_then HB5.out hb6)
  clear hb6 HB5
  obtain ⟨a0, a1, a2, a3, a4, a5, a6, a7⟩ := HX.out.lower HB6.out
  go_wp2_with fail
  refine (Depth_any _ w6 (HI.out.lower HB6.out) (by rw [nodes_up]; omega)).mono ?_
  rintro e w7 ⟨rfl, hb7⟩
  rw [depth_up]
  have HB7 := Lib.hid (below_then HB6.out hb7)
  clear hb7 HB6 a0 a1 a2 a3 a4 a5 a6 a7
  go_wp2_with fail
  go_returns
  exact ⟨rfl, below_then HB.out HB7.out⟩
end Go.Proofs.YtaglmmcjhlehjaaGreatDoor
