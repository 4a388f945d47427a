/-
  Bytes and words that came in.
-/
import Derived.Test.YtjhkblaplfhfcaaUnpackMath
import Derived.Test.YtjhkblaplfhfcaaOpen
namespace Go.Proofs.Ytjhkblaplfhfcaa
open Go.ChangeShapes Go.WideShapes Go.ChangeAt Go.RowKit
set_option linter.unusedVariables false

/-- Bytes that came in. -/
theorem open_u8s {H : Type} {enc : TypeId × Value → H} {W : World} {base : Nat} {sp : Nat → Bool} {held : Bool} {b0 : Nat} {r : Reach} {v : Value} {d : DataW H} {ps : List MemPlace}
    (hv : Value.okWide Try.prog W r b0 42 v) (h : DataW.Trod enc Try.prog W base sp held 42 v d ps) :
    ∃ (A : Option Addr) (n c : Nat) (l : List UInt8), v = .slice A n c ∧ n ≤ c ∧ c ≤ maxLen ∧ n = l.length ∧ Rd W 1 A n (u8s l) := by
  obtain ⟨A, n, c, l, h1, h2, h3, h4, h5, _⟩ := open_elems (α := UInt8) (cells := fun b => [.int .u8 b.toNat]) (good := fun _ => True) Try.underlying42 (by kernel_rfl : Try.prog.cellsOf 5 = 1) (fun _ => rfl) (by omega)
    (fun n cs x hx => by
      obtain ⟨m, rfl, _, hm⟩ := DataW.trod_int Try.underlying5 hx
      have hr : 0 ≤ m ∧ m ≤ 255 := by simpa [Lit.wf, IntKind.min, IntKind.max, IntKind.signed, IntKind.bits] using hm
      refine ⟨UInt8.ofNat m.toNat, ?_, trivial⟩
      simp only [List.cons.injEq, Value.int.injEq, true_and, and_true]
      have : (UInt8.ofNat m.toNat).toNat = m.toNat := by simp; omega
      rw [this]; omega) hv h
  refine ⟨A, n, c, l, h1, h2, h3, h4.symm, ?_⟩
  have e : u8s l = l.flatMap fun b => [.int .u8 b.toNat] := by
    clear h5 h4
    induction l with
    | nil => rfl
    | cons x r ih => simp [u8s] at ih ⊢; exact ih
  rw [e]
  exact h5

/-- Words that came in. -/
theorem open_words {H : Type} {enc : TypeId × Value → H} {W : World} {base : Nat} {sp : Nat → Bool} {held : Bool} {b0 : Nat} {r : Reach} {v : Value} {d : DataW H} {ps : List MemPlace}
    (hv : Value.okWide Try.prog W r b0 43 v) (h : DataW.Trod enc Try.prog W base sp held 43 v d ps) :
    ∃ (A : Option Addr) (n c : Nat) (l : List Wd), v = .slice A n c ∧ n ≤ c ∧ c ≤ maxLen ∧ n = l.length ∧ Rd W 2 A n (wcells l) ∧ wfWs l := by
  obtain ⟨A, n, c, l, h1, h2, h3, h4, h5, h6⟩ := open_elems (α := Wd) (cells := fun p => [.bool p.1, .int .i64 p.2]) (good := fun p => -9223372036854775808 ≤ p.2 ∧ p.2 < 9223372036854775808) Try.underlying43 (by kernel_rfl : Try.prog.cellsOf 23 = 2) (fun _ => rfl) (by omega)
    (fun n cs x hx => by
      obtain ⟨y0, y1, k, _, hl, e0, e1⟩ := trod_struct2 Try.underlying23 hx
      have hC : Try.prog.cellsOf 23 = 2 := by kernel_rfl
      have hCb : Try.prog.cellsOf 4 = 1 := by kernel_rfl
      have hCi : Try.prog.cellsOf 2 = 1 := by kernel_rfl
      rw [hC] at hl
      match cs, hl with
      | [c0, c1], _ =>
        simp [hCb] at e0
        simp [hCi] at e1
        obtain ⟨b, hb, _⟩ := DataW.trod_bool Try.underlying4 e0
        obtain ⟨m, hm, _, hw⟩ := DataW.trod_int Try.underlying2 e1
        have hr : -9223372036854775808 ≤ m ∧ m ≤ 9223372036854775807 := by simpa [Lit.wf, IntKind.min, IntKind.max, IntKind.signed, IntKind.bits] using hw
        simp only [List.cons.injEq, and_true] at hb hm
        subst hb
        subst hm
        exact ⟨(b, m), rfl, hr.1, by have := hr.2; show m < _; omega⟩) hv h
  exact ⟨A, n, c, l, h1, h2, h3, h4.symm, h5, fun p hp => h6 p hp⟩

end Go.Proofs.Ytjhkblaplfhfcaa
