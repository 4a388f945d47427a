/-
  Whether an instruction's numbers may be, by the code.
-/
import Derived.Test.YthdnnlelmelegaaCodeH
namespace Go.Proofs.Ythdnnlelmelegaa
open Go.ChangeShapes Go.WideShapes Go.ChangeAt Go.RowKit
set_option linter.unusedVariables false

/-- A function, an instruction behind a pointer; an image in a block. -/
structure FP (w : World) (b o : Nat) (f : AFnc) : Prop where
  c0 : w.cell? ⟨b, o, none⟩ = some (.int .i64 f.regs)
  c1 : w.cell? ⟨b, o + 1, none⟩ = some (.int .i64 f.caps)
  c2 : w.cell? ⟨b, o + 2, none⟩ = some (.slice f.A f.n f.c)
  i : f.In w
structure IP (w : World) (b o : Nat) (x : AIns) : Prop where
  c0 : w.cell? ⟨b, o, none⟩ = some (.int .i64 x.op)
  c1 : w.cell? ⟨b, o + 1, none⟩ = some (.int .i64 x.a)
  c2 : w.cell? ⟨b, o + 2, none⟩ = some (.slice x.A x.n x.c)
  i : x.In w
structure MP (w : World) (b : Nat) (m : AImg) : Prop where
  c0 : w.cell? ⟨b, 0, none⟩ = some (.slice m.iA m.iN m.iC)
  c1 : w.cell? ⟨b, 1, none⟩ = some (.slice m.tA m.tN m.tC)
  c2 : w.cell? ⟨b, 2, none⟩ = some (.slice m.fA m.fN m.fC)
  i : m.In w
theorem FP.below {w w' : World} {b o : Nat} {f : AFnc} (h : FP w b o f) (hb : Below w.heap.size w w') : FP w' b o f := ⟨cell_below hb h.c0, cell_below hb h.c1, cell_below hb h.c2, h.i.below hb⟩
theorem IP.below {w w' : World} {b o : Nat} {f : AIns} (h : IP w b o f) (hb : Below w.heap.size w w') : IP w' b o f := ⟨cell_below hb h.c0, cell_below hb h.c1, cell_below hb h.c2, h.i.below hb⟩
theorem MP.below {w w' : World} {b : Nat} {f : AImg} (h : MP w b f) (hb : Below w.heap.size w w') : MP w' b f := ⟨cell_below hb h.c0, cell_below hb h.c1, cell_below hb h.c2, h.i.below hb⟩

theorem hasRegs_any (b o : Nat) (f : AFnc) (w : World) (h : FP w b o f) : Calls Try.prog 38 #[.pointer (some ⟨b, o, none⟩)] w fun e w' => e = .returned (.bool (regB f)) ∧ Below w.heap.size w w' := by
  obtain ⟨c0, c1, c2, hi⟩ := h
  have r0 := hi.regs.1
  have r1 := hi.regs.2
  have r2 := hi.caps.1
  have r3 := hi.caps.2
  clear hi c2
  by_cases h2 : f.regs < 2
  · go_enter Try.func38, Try.ntmps38
    go_wp2_with fail
    go_returns
    exact ⟨by rw [show regB f = false from decide_eq_false (by omega)]; rfl, Below.refl _ _⟩
  by_cases h4 : 4000 < f.regs
  · go_enter Try.func38, Try.ntmps38
    go_wp2_with fail
    go_returns
    exact ⟨by rw [show regB f = false from decide_eq_false (by omega)]; rfl, Below.refl _ _⟩
  by_cases h0 : f.caps < 0
  · go_enter Try.func38, Try.ntmps38
    go_wp2_with fail
    go_returns
    exact ⟨by rw [show regB f = false from decide_eq_false (by omega)]; rfl, Below.refl _ _⟩
  have e : regB f = decide (f.caps ≤ f.regs - 2) := by
    unfold regB
    rw [decide_eq_decide]; omega
  have hw : IntKind.i64.wrap (f.regs - 2) = f.regs - 2 := by rw [IntKind.wrap_i64]; omega
  go_enter Try.func38, Try.ntmps38
  go_wp2_with fail
  go_quiet (fail)
  go_wp2_with fail
  go_returns
  exact ⟨by rw [e]; rfl, below_drewN (Below.refl _ _) _⟩

theorem isTarget_any (b o b' o' : Nat) (f : AFnc) (x : AIns) (w : World) (h : FP w b o f) (hx : IP w b' o' x) : Calls Try.prog 49 #[.pointer (some ⟨b, o, none⟩), .pointer (some ⟨b', o', none⟩)] w fun e w' => e = .returned (.bool (targB f x)) ∧ Below w.heap.size w w' := by
  obtain ⟨c0, c1, c2, hi⟩ := h
  obtain ⟨d0, d1, d2, hxi⟩ := hx
  clear hi hxi c2 d2
  unfold targB
  by_cases h1 : x.op = 22
  · rw [h1] at d0
    rw [if_pos h1]
    clear h1
    go_enter Try.func49, Try.ntmps49
    go_wp2_with fail
    go_returns
    exact ⟨rfl, Below.refl _ _⟩
  by_cases h2 : x.op = 23
  · rw [h2] at d0
    rw [if_neg h1, if_pos h2]
    clear h1 h2
    go_enter Try.func49, Try.ntmps49
    go_wp2_with fail
    go_returns
    exact ⟨rfl, Below.refl _ _⟩
  by_cases h3 : x.op = 24
  · rw [h3] at d0
    rw [if_neg h1, if_neg h2, if_pos h3]
    clear h1 h2 h3
    go_enter Try.func49, Try.ntmps49
    go_wp2_with fail
    go_returns
    exact ⟨rfl, Below.refl _ _⟩
  rw [if_neg h1, if_neg h2, if_neg h3]
  have q1 : (x.op == 22) = false := by simpa using h1
  have q2 : (x.op == 23) = false := by simpa using h2
  have q3 : (x.op == 24) = false := by simpa using h3
  clear h1 h2 h3
  go_enter Try.func49, Try.ntmps49
  go_wp2_with fail
  go_quiet ((go_at_call 48; exact Calls.quiet_of_same (isIn_any _ _ _)))
  go_wp2_with fail
  go_returns
  exact ⟨rfl, below_drewN (Below.refl _ _) _⟩
end Go.Proofs.Ythdnnlelmelegaa
