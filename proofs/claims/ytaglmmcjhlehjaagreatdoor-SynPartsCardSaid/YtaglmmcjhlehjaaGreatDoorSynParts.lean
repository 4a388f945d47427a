/-
  SynParts holds: for every input the law returns true, and each argument reads afterwards as it read before; the tied variables read as the program's text lays them. No other condition.
-/
import Derived.Test.YtaglmmcjhlehjaaGreatDoorExW
import Derived.Test.YtaglmmcjhlehjaaGreatDoorExU
import Derived.Test.YtaglmmcjhlehjaaGreatDoorExO
import Derived.Test.YtaglmmcjhlehjaaGreatDoorExLay
import Derived.Test.YtaglmmcjhlehjaaGreatDoorStrOpen
import Derived.Test.YtaglmmcjhlehjaaGreatDoorCards
import Derived.Test.YtaglmmcjhlehjaaGreatDoorTie
import Derived.SevenTiedAt
namespace Go.Proofs.YtaglmmcjhlehjaaGreatDoor
open Go.ChangeShapes Go.WideShapes Go.ChangeAt Go.RowKit
set_option linter.unusedVariables false
set_option linter.unusedSimpArgs false

set_option maxRecDepth 100000 in
theorem synParts_walk : LawWalkL 3 [25] := by
  intro H enc W base args ds p hval hA hlt hL
  obtain ⟨v0, vs0, d0, ds0, p0, q0, hargs, rfl, rfl, h0, r0⟩ := trodAll_cons hA
  obtain ⟨rfl, rfl, rfl⟩ := trodAll_nil r0
  obtain rfl : args = #[v0] := by cases args; simp_all
  obtain ⟨e, l, rfl, hI⟩ := open_ex (hval 0 _ v0 rfl rfl) h0
  exact synParts_any up_any e l W hI hL

theorem synParts_row : Rows.SynPartsSaid :=
  OpenClaim.holds_of_wide 3 Tryz.f3 rfl rfl rfl rfl rfl rfl rfl ⟨rfl, rfl, rfl, rfl, rfl⟩ rfl rfl rfl rfl rfl (by kernel_rfl) Tryz.func3 (by kernel_rfl)
    (of_decide_eq_true (by kernel_rfl)) (by unfold Func.isWrapper; first | (rw [if_pos (by decide +kernel)]; kernel_rfl) | (rw [if_neg (by decide +kernel)]; exact ⟨rfl, rfl⟩))
    (fun os started H enc _ => law_liftedL (f := Tryz.f3) (s := Rows.synPartsSpec) started Tryz.func3 (by kernel_rfl) (by rw [Tryz.params3]) rfl rfl
      (fun H ds h => by match ds, h with | [_], _ => rfl) (by kernel_rfl)
      (ChangeSpec.witness_shaped (enc := enc) (C := Tryz.checked) (os := os) (X := fun w _ => laidMetH Tryz.prog seatLaid w) false (World.doorLaid Tryz.prog 69 os) #[.agg #[.int .i64 0, .int .i64 0, .int .i64 0, .string ⟨#[]⟩, .string ⟨#[]⟩, .slice none 0 0, .slice none 0 0, .slice none 0 0]] 8 rfl (World.shaped_of_RefB (by kernel_rfl) (by kernel_rfl)) (by kernel_rfl) (by kernel_rfl) (by kernel_rfl) (door_met os _)) synParts_walk)

theorem synParts_holds : Rows.SynPartsCardSaid :=
  Claim7.holds_tied_plain_at .later [] [.data, .data, .data, .sentinel, .sentinel] true (true, Rows.synPartsCard.stood.harness.2) true
    synParts_row (fun _ h => by cases h) (by kernel_rfl) (fun _ h => by cases h) synParts_row_tie rfl ⟨rfl, rfl⟩ (by kernel_rfl) rfl
    (fun f fn hf hfn => by
      obtain rfl : f = 3 := Option.some.inj ((show Tryz.prog.funcNamed "bushel/bushellaw05.SynParts" = some 3 by kernel_rfl).symm.trans hf) |>.symm
      obtain rfl : fn = Tryz.f3 := (Option.some.inj (Tryz.func3.symm.trans hfn)).symm
      exact ⟨by kernel_rfl, fun j t ht => by
        rw [Tryz.params3] at ht
        have h3 : t ∈ [25] := List.mem_of_getElem? (by simpa using ht)
        have hall : ∀ t ∈ [25], Tryz.prog.wantsStandIn t = false := by
          intro t ht
          have := List.all_eq_true.1 (show ([25].all fun t => !Tryz.prog.wantsStandIn t) = true by kernel_rfl) t ht
          simpa using this
        exact hall t h3⟩)
    (by kernel_rfl)
#print axioms synParts_holds
end Go.Proofs.YtaglmmcjhlehjaaGreatDoor
