/-
  Texts, and lists of texts, that came in.
-/
import Derived.Test.YtpnihimoekkepaaStrs
import Derived.Test.YtpnihimoekkepaaOpen
import Derived.ChangeMaps5
namespace Go.Proofs.Ytpnihimoekkepaa
open Go.ChangeShapes Go.WideShapes Go.ChangeAt Go.RowKit
set_option linter.unusedVariables false

set_option maxRecDepth 100000 in
theorem open_str {H : Type} {enc : TypeId × Value → H} {W : World} {base : Nat} {sp : Nat → Bool} {held : Bool} {b0 : Nat} {r : Reach} {v : Value} {d : DataW H} {ps : List MemPlace}
    (hv : Value.okWide Try.prog W r b0 9 v) (h : DataW.Trod enc Try.prog W base sp held 9 v d ps) :
    ∃ s : Str, v = .string (bstr s) ∧ s.length ≤ maxLen := by
  obtain ⟨s, rfl⟩ := okWide_string Try.underlying9 hv
  obtain ⟨fuel, hf⟩ := h
  obtain ⟨s', hc, _, hw⟩ := DataW.trod_string Try.underlying9 hf
  simp [Value.cells] at hc
  subst hc
  refine ⟨s.data.toList, by rw [bstr_of], ?_⟩
  have e : s.data.toList.length = s.size := by rw [Array.length_toList]; rfl
  rw [e]; exact hw

set_option maxRecDepth 100000 in
theorem open_strs {H : Type} {enc : TypeId × Value → H} {W : World} {base : Nat} {sp : Nat → Bool} {held : Bool} {b0 : Nat} {r : Reach} {v : Value} {d : DataW H} {ps : List MemPlace}
    (hv : Value.okWide Try.prog W r b0 22 v) (h : DataW.Trod enc Try.prog W base sp held 22 v d ps) :
    ∃ (A : Option Addr) (n c : Nat) (l : List Str), v = .slice A n c ∧ n ≤ c ∧ c ≤ maxLen ∧ Rd W 1 A n (strs l) := by
  obtain ⟨A, n, c, l, h1, h2, h3, h4, h5, _⟩ := open_elems (α := Str) (cells := fun b => [.string (bstr b)]) (good := fun _ => True) Try.underlying22 (by kernel_rfl : Try.prog.cellsOf 9 = 1) (fun _ => rfl) (by omega)
    (fun n cs x hx => by
      obtain ⟨s, rfl, _, hw⟩ := DataW.trod_string Try.underlying9 hx
      exact ⟨s.data.toList, by rw [bstr_of], trivial⟩) hv h
  refine ⟨A, n, c, l, h1, h2, h3, ?_⟩
  have e : strs l = l.flatMap fun b => [.string (bstr b)] := by
    clear h5 h4
    induction l with
    | nil => rfl
    | cons x r ih => simp [strs] at ih ⊢; exact ih
  rw [e]
  exact h5
end Go.Proofs.Ytpnihimoekkepaa
