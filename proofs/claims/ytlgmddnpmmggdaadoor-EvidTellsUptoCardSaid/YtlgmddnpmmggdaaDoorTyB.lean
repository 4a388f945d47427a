/-
  Whether a type may be, by the code.
-/
import Derived.Test.YtlgmddnpmmggdaaDoorTyA
namespace Go.Proofs.YtlgmddnpmmggdaaDoor
open Go.ChangeShapes Go.WideShapes Go.ChangeAt Go.RowKit Go.Sort
set_option linter.unusedVariables false
set_option linter.unusedSimpArgs false

set_option maxHeartbeats 1000000 in
theorem fieldsMay_plain (d : TyD) (b o : Nat) (w : World) (h : d.At w b o) (h45 : ¬ (d.kind = 4 ∨ d.kind = 5)) :
    Calls Tryd.prog 37 #[.pointer (some ⟨b, o, none⟩)] w fun e w' => e = .returned (.bool d.fieldsB) ∧ w' = w := by
  have hB := fun m => isBare_any d b o m w h
  obtain ⟨c0, c1, c2, c3, c4⟩ := h
  have k4 : (d.kind == 4) = false := by simpa using fun e => h45 (.inl e)
  have k5 : (d.kind == 5) = false := by simpa using fun e => h45 (.inr e)
  have HB := Lib.hid hB
  clear hB
  unfold TyD.fieldsB
  rw [if_neg h45]
  by_cases h7 : d.kind = 7
  · rw [if_pos h7]
    rw [h7] at c0 k4 k5
    by_cases hn : 0 ≤ d.n
    · have hn' : ¬ d.n < 0 := by omega
      go_enter Tryd.func37, Tryd.ntmps37
      go_wp2_with fail
      refine (HB.out 0).mono ?_
      rintro e w' ⟨rfl, rfl⟩
      go_wp2_with fail
      go_returns
      exact ⟨by simp [hn], rfl⟩
    · have e : (decide (0 ≤ d.n) && d.bareB 0) = false := by rw [decide_eq_false hn]; rfl
      rw [e]
      go_enter Tryd.func37, Tryd.ntmps37
      go_wp2_with fail
      go_returns
      exact ⟨rfl, rfl⟩
  rw [if_neg h7]
  have k7 : (d.kind == 7) = false := by simpa using h7
  by_cases hn : d.n = 0
  · have q : (d.n == 0) = true := by simpa using hn
    by_cases h3 : d.kind = 3
    · rw [if_pos h3]
      rw [h3] at c0 k4 k5 k7
      go_enter Tryd.func37, Tryd.ntmps37
      go_wp2_with fail
      refine (HB.out 2).mono ?_
      rintro e w' ⟨rfl, rfl⟩
      go_wp2_with fail
      go_returns
      exact ⟨by simp [hn], rfl⟩
    rw [if_neg h3]
    have k3 : (d.kind == 3) = false := by simpa using h3
    by_cases h6 : d.kind = 6
    · rw [if_pos h6]
      rw [h6] at c0 k4 k5 k7 k3
      go_enter Tryd.func37, Tryd.ntmps37
      go_wp2_with fail
      refine (HB.out 1).mono ?_
      rintro e w' ⟨rfl, rfl⟩
      go_wp2_with fail
      go_returns
      exact ⟨by simp [hn], rfl⟩
    rw [if_neg h6]
    have k6 : (d.kind == 6) = false := by simpa using h6
    by_cases h1 : d.kind = 1
    · rw [if_pos (.inl h1)]
      rw [h1] at c0 k4 k5 k7 k3 k6
      go_enter Tryd.func37, Tryd.ntmps37
      go_wp2_with fail
      refine (HB.out 0).mono ?_
      rintro e w' ⟨rfl, rfl⟩
      go_wp2_with fail
      go_returns
      exact ⟨by simp [hn], rfl⟩
    have k1 : (d.kind == 1) = false := by simpa using h1
    by_cases h2 : d.kind = 2
    · rw [if_pos (.inr h2)]
      rw [h2] at c0 k4 k5 k7 k3 k6 k1
      go_enter Tryd.func37, Tryd.ntmps37
      go_wp2_with fail
      refine (HB.out 0).mono ?_
      rintro e w' ⟨rfl, rfl⟩
      go_wp2_with fail
      go_returns
      exact ⟨by simp [hn], rfl⟩
    rw [if_neg (by rintro (e | e); exact h1 e; exact h2 e)]
    have k2 : (d.kind == 2) = false := by simpa using h2
    go_enter Tryd.func37, Tryd.ntmps37
    go_wp2_with fail
    go_returns
    exact ⟨rfl, rfl⟩
  · have q : (d.n == 0) = false := by simpa using hn
    have e : (if d.kind = 3 then decide (d.n = 0) && d.bareB 2 else if d.kind = 6 then decide (d.n = 0) && d.bareB 1 else if d.kind = 1 ∨ d.kind = 2 then decide (d.n = 0) && d.bareB 0 else false) = false := by
      rw [decide_eq_false hn]; simp
    rw [e]
    have HK := Lib.hid (And.intro k4 (And.intro k5 k7))
    by_cases hk : d.kind = 3 ∨ d.kind = 6 ∨ d.kind = 1 ∨ d.kind = 2
    · clear k4 k5 k7
      rcases hk with h3 | h6 | h1 | h2
      · rw [h3] at c0
        go_enter Tryd.func37, Tryd.ntmps37
        go_wp2_with fail
        go_returns
        exact ⟨rfl, rfl⟩
      · rw [h6] at c0
        go_enter Tryd.func37, Tryd.ntmps37
        go_wp2_with fail
        go_returns
        exact ⟨rfl, rfl⟩
      · rw [h1] at c0
        go_enter Tryd.func37, Tryd.ntmps37
        go_wp2_with fail
        go_returns
        exact ⟨rfl, rfl⟩
      · rw [h2] at c0
        go_enter Tryd.func37, Tryd.ntmps37
        go_wp2_with fail
        go_returns
        exact ⟨rfl, rfl⟩
    · have k3 : (d.kind == 3) = false := by simpa using fun e => hk (.inl e)
      have k6 : (d.kind == 6) = false := by simpa using fun e => hk (.inr (.inl e))
      have k1 : (d.kind == 1) = false := by simpa using fun e => hk (.inr (.inr (.inl e)))
      have k2 : (d.kind == 2) = false := by simpa using fun e => hk (.inr (.inr (.inr e)))
      go_enter Tryd.func37, Tryd.ntmps37
      go_wp2_with fail
      go_returns
      exact ⟨rfl, rfl⟩
end Go.Proofs.YtlgmddnpmmggdaaDoor
