/-
  ScopeOnce holds: for every input the law returns true, and each argument reads afterwards as it read before; the tied variables read as the program's text lays them. No other condition.
-/
import Derived.Test.YtaglmmcjhlehjaaGreatDoorL00
import Derived.Test.YtaglmmcjhlehjaaGreatDoorK25
import Derived.Test.YtaglmmcjhlehjaaGreatDoorCards
import Derived.Test.YtaglmmcjhlehjaaGreatDoorTie
import Derived.SevenTiedAt
namespace Go.Proofs.YtaglmmcjhlehjaaGreatDoor
open Go.ChangeShapes Go.WideShapes Go.ChangeAt Go.RowKit
set_option linter.unusedVariables false
set_option linter.unusedSimpArgs false

set_option maxRecDepth 100000 in
theorem scopeOnce_walk : LawWalkP 6 [25] := by
  intro H enc W base args ds p hval hA hlt hL
  obtain ⟨v0, vs0, d0, ds0, p0, q0, hargs, rfl, rfl, h0, r0⟩ := trodAll_cons hA
  obtain ⟨rfl, rfl, rfl⟩ := trodAll_nil r0
  obtain rfl : args = #[v0] := by cases args; simp_all
  obtain ⟨e, l, rfl, hI⟩ := open_ex (hval 0 _ v0 rfl rfl) h0
  exact scopeOnce_any e l W hL.1 hL.2.1 hL.2.2 hI

theorem scopeOnce_row : Rows.ScopeOnceSaid :=
  OpenClaim.holds_of_wide 6 Tryz.f6 rfl rfl rfl rfl rfl rfl rfl ⟨rfl, rfl, rfl, rfl, rfl⟩ rfl rfl rfl rfl rfl (by kernel_rfl) Tryz.func6 (by kernel_rfl)
    (of_decide_eq_true (by kernel_rfl)) (by unfold Func.isWrapper; first | (rw [if_pos (by decide +kernel)]; kernel_rfl) | (rw [if_neg (by decide +kernel)]; exact ⟨rfl, rfl⟩))
    (fun os started H enc _ => law_liftedP (f := Tryz.f6) (s := Rows.scopeOnceSpec) started Tryz.func6 (by kernel_rfl) (by rw [Tryz.params6]) rfl rfl
      (fun H ds h => by match ds, h with | [_], _ => rfl) (by kernel_rfl)
      (ChangeSpec.witness_shaped (enc := enc) (C := Tryz.checked) (os := os) (X := fun w _ => laidMetH Tryz.prog seatLaidS w) false (World.doorLaid Tryz.prog 69 os) #[.agg #[.int .i64 0, .int .i64 0, .int .i64 0, .string ⟨#[]⟩, .string ⟨#[]⟩, .slice none 0 0, .slice none 0 0, .slice none 0 0]] 8 rfl (World.shaped_of_RefB (by kernel_rfl) (by kernel_rfl)) (by kernel_rfl) (by kernel_rfl) (by kernel_rfl) (door_metS os _)) scopeOnce_walk)

theorem scopeOnce_holds : Rows.ScopeOnceCardSaid :=
  Claim7.holds_tied_plain_at .later [] [.data, .data, .data, .handle, .sentinel, .sentinel] true (true, Rows.scopeOnceCard.stood.harness.2) true
    scopeOnce_row (fun _ h => by cases h) (by kernel_rfl) (fun _ h => by cases h) scopeOnce_row_tie rfl ⟨rfl, rfl⟩ (by kernel_rfl) rfl
    (fun f fn hf hfn => by
      obtain rfl : f = 6 := Option.some.inj ((show Tryz.prog.funcNamed "bushel/bushellaw08.ScopeOnce" = some 6 by kernel_rfl).symm.trans hf) |>.symm
      obtain rfl : fn = Tryz.f6 := (Option.some.inj (Tryz.func6.symm.trans hfn)).symm
      exact ⟨by kernel_rfl, fun j t ht => by
        rw [Tryz.params6] at ht
        have h3 : t ∈ [25] := List.mem_of_getElem? (by simpa using ht)
        have hall : ∀ t ∈ [25], Tryz.prog.wantsStandIn t = false := by
          intro t ht
          have := List.all_eq_true.1 (show ([25].all fun t => !Tryz.prog.wantsStandIn t) = true by kernel_rfl) t ht
          simpa using this
        exact hall t h3⟩)
    (by kernel_rfl)
#print axioms scopeOnce_holds
end Go.Proofs.YtaglmmcjhlehjaaGreatDoor
