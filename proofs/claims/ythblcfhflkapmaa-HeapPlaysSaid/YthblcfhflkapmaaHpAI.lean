/-
  The law's functions: pick.
-/
import Derived.Test.YthblcfhflkapmaaHpAH
namespace Go.Proofs.Ythblcfhflkapmaa
open Go Go.ChangeShapes Go.WideShapes Go.ChangeAt Go.RowKit Go.Sort
set_option linter.unusedVariables false
set_option linter.unusedSimpArgs false

theorem tmod_nat {a b : Int} (ha : 0 ≤ a) (hb : 0 < b) : 0 ≤ a.tmod b ∧ a.tmod b < b := by
  rw [Int.tmod_eq_emod_of_nonneg ha]
  exact ⟨Int.emod_nonneg a (by omega), Int.emod_lt_of_pos a hb⟩
theorem pick_any (c n : Int) (hc : -9223372036854775808 ≤ c ∧ c ≤ 9223372036854775807) (hn : 0 < n ∧ n ≤ 4000000) (w : World) :
    Calls Try.prog 8 #[.int .i64 c, .int .i64 n] w fun e w' => ∃ r : Nat, (r : Int) < n ∧ e = .returned (.int .i64 r) ∧ w = w' := by
  have n0 : (n == 0) = false := by simp; omega
  have n1 : n ≠ 0 := by omega
  by_cases q : c < 0
  · have q1 : decide (c < 0) = true := decide_eq_true q
    have e1 : IntKind.i64.wrap (c + 1) = c + 1 := by rw [IntKind.wrap_i64]; omega
    have e2 : IntKind.i64.wrap (-(c + 1)) = -(c + 1) := by rw [IntKind.wrap_i64]; omega
    obtain ⟨h1, h2⟩ := tmod_nat (a := -(c + 1)) (b := n) (by omega) hn.1
    have e3 : IntKind.i64.wrap ((-(c + 1)).tmod n) = (-(c + 1)).tmod n := by rw [IntKind.wrap_i64]; omega
    obtain ⟨r, hr⟩ : ∃ r : Nat, (-(c + 1)).tmod n = r := ⟨((-(c + 1)).tmod n).toNat, by omega⟩
    rw [hr] at e3 h2
    clear q hc h1
    go_enter Try.func8, Try.ntmps8
    go_wp2_with fail
    go_returns
    exact ⟨r, h2, rfl, rfl⟩
  · have q1 : decide (c < 0) = false := decide_eq_false q
    obtain ⟨h1, h2⟩ := tmod_nat (a := c) (b := n) (by omega) hn.1
    have e3 : IntKind.i64.wrap (c.tmod n) = c.tmod n := by rw [IntKind.wrap_i64]; omega
    obtain ⟨r, hr⟩ : ∃ r : Nat, c.tmod n = r := ⟨(c.tmod n).toNat, by omega⟩
    rw [hr] at e3 h2
    clear q hc h1
    go_enter Try.func8, Try.ntmps8
    go_wp2_with fail
    go_returns
    exact ⟨r, h2, rfl, rfl⟩
end Go.Proofs.Ythblcfhflkapmaa
