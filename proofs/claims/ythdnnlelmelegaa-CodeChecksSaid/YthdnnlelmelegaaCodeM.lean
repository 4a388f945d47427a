/-
  Whether an instruction may be, by the document's answer.
-/
import Derived.Test.YthdnnlelmelegaaCodeL
namespace Go.Proofs.Ythdnnlelmelegaa
open Go.ChangeShapes Go.WideShapes Go.ChangeAt Go.RowKit
set_option linter.unusedVariables false

/-- Below what a number must be. -/
def limB (m : AImg) (f : AFnc) (x : AIns) (i : Nat) : Int :=
  if i = 0 then
    if x.op = 1 then m.iN else if x.op = 2 then m.tN else if x.op = 4 then m.fN else if x.op = 12 then 8 else if x.op = 23 then f.n else f.regs
  else if i = 1 ∧ x.op = 22 then f.n
  else f.regs

theorem limB_other {m : AImg} {f : AFnc} {x : AIns} (h1 : ¬ x.op = 1) (h2 : ¬ x.op = 2) (h4 : ¬ x.op = 4) (h12 : ¬ x.op = 12) (h22 : ¬ x.op = 22) (h23 : ¬ x.op = 23) (i : Nat) : limB m f x i = f.regs := by
  unfold limB
  rw [if_neg h1, if_neg h2, if_neg h4, if_neg h12, if_neg h23, if_neg (show ¬ (i = 1 ∧ x.op = 22) from fun h => h22 h.2), ite_self]

theorem fits_iff (m : AImg) (f : AFnc) (x : AIns) (hl : x.l.length = x.n) (hc : cntB x.op x.n = true) :
    (okOf m f x && (regsOf x).all (fun r => isInB r f.regs)) = true ↔ (∀ i, (h : i < x.l.length) → isInB x.l[i] (limB m f x i) = true) ∧ (x.op = 4 → (x.n : Int) = 1 + capsAt m (l0 x)) := by
  have hcc := of_decide_eq_true hc
  rw [Bool.and_eq_true, List.all_eq_true]
  by_cases h1 : x.op = 1
  · have hn := cnt_some hc 1 (by rw [h1]; rfl) (by omega)
    obtain ⟨a, ha⟩ : ∃ a, x.l = [a] := List.length_eq_one_iff.1 (by omega)
    rw [show okOf m f x = isInB a m.iN by unfold okOf l0; rw [h1, ha]; rfl, show regsOf x = [] by unfold regsOf; rw [h1]; rfl]
    constructor
    · rintro ⟨h, _⟩
      refine ⟨fun i hi => ?_, fun h => by omega⟩
      obtain rfl : i = 0 := by omega
      simp only [ha, List.getElem_cons_zero]
      rw [show limB m f x 0 = m.iN by unfold limB; rw [h1]; rfl]; exact h
    · rintro ⟨h, _⟩
      have := h 0 (by omega)
      simp only [ha, List.getElem_cons_zero] at this
      rw [show limB m f x 0 = m.iN by unfold limB; rw [h1]; rfl] at this
      exact ⟨this, fun r hr => by cases hr⟩
  by_cases h2 : x.op = 2
  · have hn := cnt_some hc 1 (by rw [h2]; rfl) (by omega)
    obtain ⟨a, ha⟩ : ∃ a, x.l = [a] := List.length_eq_one_iff.1 (by omega)
    rw [show okOf m f x = isInB a m.tN by unfold okOf l0; rw [h2, ha]; rfl, show regsOf x = [] by unfold regsOf; rw [h2]; rfl]
    constructor
    · rintro ⟨h, _⟩
      refine ⟨fun i hi => ?_, fun h => by omega⟩
      obtain rfl : i = 0 := by omega
      simp only [ha, List.getElem_cons_zero]
      rw [show limB m f x 0 = m.tN by unfold limB; rw [h2]; rfl]; exact h
    · rintro ⟨h, _⟩
      have := h 0 (by omega)
      simp only [ha, List.getElem_cons_zero] at this
      rw [show limB m f x 0 = m.tN by unfold limB; rw [h2]; rfl] at this
      exact ⟨this, fun r hr => by cases hr⟩
  by_cases h23 : x.op = 23
  · have hn := cnt_some hc 1 (by rw [h23]; rfl) (by omega)
    obtain ⟨a, ha⟩ : ∃ a, x.l = [a] := List.length_eq_one_iff.1 (by omega)
    rw [show okOf m f x = isInB a f.n by unfold okOf l0; rw [h23, ha]; rfl, show regsOf x = [] by unfold regsOf; rw [h23]; rfl]
    constructor
    · rintro ⟨h, _⟩
      refine ⟨fun i hi => ?_, fun h => by omega⟩
      obtain rfl : i = 0 := by omega
      simp only [ha, List.getElem_cons_zero]
      rw [show limB m f x 0 = f.n by unfold limB; rw [h23]; rfl]; exact h
    · rintro ⟨h, _⟩
      have := h 0 (by omega)
      simp only [ha, List.getElem_cons_zero] at this
      rw [show limB m f x 0 = f.n by unfold limB; rw [h23]; rfl] at this
      exact ⟨this, fun r hr => by cases hr⟩
  by_cases h22 : x.op = 22
  · have hn := cnt_some hc 2 (by rw [h22]; rfl) (by omega)
    obtain ⟨a, b, ha⟩ : ∃ a b, x.l = [a, b] := by
      match hx : x.l with
      | [] => rw [hx] at hl; simp at hl; omega
      | [a] => rw [hx] at hl; simp at hl; omega
      | [a, b] => exact ⟨a, b, rfl⟩
      | a :: b :: c :: t => rw [hx] at hl; simp at hl; omega
    rw [show okOf m f x = isInB b f.n by unfold okOf l1; rw [h22, ha]; rfl, show regsOf x = [a] by unfold regsOf; rw [h22, ha]; rfl]
    have e0 : limB m f x 0 = f.regs := by unfold limB; rw [h22]; rfl
    have e1 : limB m f x 1 = f.n := by unfold limB; rw [h22]; rfl
    constructor
    · rintro ⟨h, h'⟩
      refine ⟨fun i hi => ?_, fun h => by omega⟩
      rcases (show i = 0 ∨ i = 1 by omega) with rfl | rfl
      · simp only [ha, List.getElem_cons_zero]
        rw [e0]; exact h' a (by simp)
      · simp only [ha, List.getElem_cons_succ, List.getElem_cons_zero]
        rw [e1]; exact h
    · rintro ⟨h, _⟩
      have q0 := h 0 (by omega)
      have q1 := h 1 (by omega)
      simp only [ha, List.getElem_cons_zero, List.getElem_cons_succ] at q0 q1
      rw [e0] at q0
      rw [e1] at q1
      exact ⟨q1, fun r hr => by simp at hr; subst hr; exact q0⟩
  by_cases h12 : x.op = 12
  · have hn := cnt_some hc 3 (by rw [h12]; rfl) (by omega)
    obtain ⟨a, t, ha⟩ : ∃ a t, x.l = a :: t := by
      cases hx : x.l with
      | nil => rw [hx] at hl; simp at hl; omega
      | cons a t => exact ⟨a, t, rfl⟩
    rw [show okOf m f x = isInB a 8 by unfold okOf l0; rw [h12, ha]; rfl, show regsOf x = t by unfold regsOf; rw [h12, ha]; rfl]
    have e0 : limB m f x 0 = 8 := by unfold limB; rw [h12]; rfl
    have e1 : ∀ i, limB m f x (i + 1) = f.regs := by
      intro i; unfold limB; rw [if_neg (by omega), if_neg (by rw [h12]; omega)]
    constructor
    · rintro ⟨h, h'⟩
      refine ⟨fun i hi => ?_, fun h => by omega⟩
      simp only [ha]
      cases i with
      | zero => rw [e0]; exact h
      | succ i => rw [e1]; exact h' _ (by simp only [List.getElem_cons_succ]; exact List.getElem_mem _)
    · rintro ⟨h, _⟩
      simp only [ha] at h
      refine ⟨by have := h 0 (by simp); rw [e0] at this; exact this, fun r hr => ?_⟩
      obtain ⟨i, hi, rfl⟩ := List.getElem_of_mem hr
      have := h (i + 1) (by simp; omega)
      rw [e1] at this
      exact this
  by_cases h4 : x.op = 4
  · have hn : 1 ≤ x.n := by
      have h0 : opc x.op = -1 := by rw [h4]; rfl
      have := hcc.2.1 h0
      omega
    obtain ⟨a, t, ha⟩ : ∃ a t, x.l = a :: t := by
      cases hx : x.l with
      | nil => rw [hx] at hl; simp at hl; omega
      | cons a t => exact ⟨a, t, rfl⟩
    have e2 : l0 x = a := by unfold l0; rw [ha]; rfl
    rw [show okOf m f x = (isInB a m.fN && decide ((x.n : Int) - 1 = capsAt m a)) by unfold okOf; rw [h4, e2]; rfl, show regsOf x = t by unfold regsOf; rw [h4, ha]; rfl, Bool.and_eq_true, decide_eq_true_iff]
    have e0 : limB m f x 0 = m.fN := by unfold limB; rw [h4]; rfl
    have e1 : ∀ i, limB m f x (i + 1) = f.regs := by
      intro i; unfold limB; rw [if_neg (by omega), if_neg (by rw [h4]; omega)]
    constructor
    · rintro ⟨⟨h, hk⟩, h'⟩
      refine ⟨fun i hi => ?_, fun _ => by rw [e2]; omega⟩
      simp only [ha]
      cases i with
      | zero => rw [e0]; exact h
      | succ i => rw [e1]; exact h' _ (by simp only [List.getElem_cons_succ]; exact List.getElem_mem _)
    · rintro ⟨h, hk⟩
      simp only [ha] at h
      refine ⟨⟨by have := h 0 (by simp); rw [e0] at this; exact this, by have := hk h4; rw [e2] at this; omega⟩, fun r hr => ?_⟩
      obtain ⟨i, hi, rfl⟩ := List.getElem_of_mem hr
      have := h (i + 1) (by simp; omega)
      rw [e1] at this
      exact this
  rw [show okOf m f x = true by unfold okOf; rw [if_neg h1, if_neg h2, if_neg h4, if_neg h12, if_neg h22, if_neg h23], show regsOf x = x.l by unfold regsOf; rw [if_neg h1, if_neg h2, if_neg h4, if_neg h12, if_neg h22, if_neg h23]]
  constructor
  · rintro ⟨_, h'⟩
    exact ⟨fun i hi => by rw [limB_other h1 h2 h4 h12 h22 h23]; exact h' _ (List.getElem_mem _), fun h => absurd h h4⟩
  · rintro ⟨h, _⟩
    refine ⟨rfl, fun r hr => ?_⟩
    obtain ⟨i, hi, rfl⟩ := List.getElem_of_mem hr
    have := h i hi
    rwa [limB_other h1 h2 h4 h12 h22 h23] at this

set_option maxHeartbeats 1000000 in
theorem limit_any (m : AImg) (f : AFnc) (x : AIns) (i : Nat) (w : World) (hi : i < 140737488351232) :
    Calls Try.prog 28 #[m.value, .agg #[.int .i64 f.regs, .int .i64 f.caps, .slice f.A f.n f.c], .agg #[.int .i64 x.op, .int .i64 x.a, .slice x.A x.n x.c], .int .i64 i] w fun e w' => e = .returned (.int .i64 (limB m f x i)) ∧ Below w.heap.size w w' := by
  have hb0 : ∀ o1 o2 o3 : Obj, Below w.heap.size w (((w.alloc o1).alloc o2).alloc o3) := fun o1 o2 o3 => (((Below.refl _ _).alloc (Nat.le_refl _) _).alloc (by simp) _).alloc (by simp; omega) _
  by_cases h0 : i = 0
  · subst h0
    go_enter Try.func28, Try.ntmps28
    unfold AImg.value
    go_wp2_with fail
    all_goals go_returns
    all_goals refine ⟨?_, hb0 _ _ _⟩
    all_goals (simp only [beq_iff_eq, beq_eq_false_iff_ne, ne_eq] at *)
    all_goals simp [limB, *]
  · by_cases h1 : i = 1
    · subst h1
      by_cases h22 : x.op = 22
      · have e : limB m f x 1 = f.n := by unfold limB; rw [if_neg (by omega), if_pos ⟨rfl, h22⟩]
        rw [e, h22]
        clear h22 h0 e
        go_enter Try.func28, Try.ntmps28
        unfold AImg.value
        go_wp2_with fail
        go_returns
        exact ⟨rfl, hb0 _ _ _⟩
      · have e : limB m f x 1 = f.regs := by unfold limB; rw [if_neg (by omega), if_neg (fun h => h22 h.2)]
        rw [e]
        have q : (x.op == 22) = false := by simpa using h22
        clear h0 e
        go_enter Try.func28, Try.ntmps28
        unfold AImg.value
        go_wp2_with fail
        go_returns
        exact ⟨rfl, hb0 _ _ _⟩
    · have e : limB m f x i = f.regs := by unfold limB; rw [if_neg h0, if_neg (fun h => h1 h.1)]
      have q0 : ((i : Int) == 0) = false := by rw [beq_eq_false_iff_ne]; omega
      have q1 : ¬ ((i : Int) = 1) := by omega
      have q2 : ((i : Int) == 1) = false := by rw [beq_eq_false_iff_ne]; omega
      rw [e]
      clear e h0 h1
      go_enter Try.func28, Try.ntmps28
      unfold AImg.value
      go_wp2_with fail
      go_returns
      exact ⟨rfl, hb0 _ _ _⟩
end Go.Proofs.Ythdnnlelmelegaa
