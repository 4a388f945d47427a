/-
  SpotWheres holds: for every input the law returns true, and each argument reads afterwards as it read before; the tied variables read as the program's text lays them. No other condition.
-/
import Derived.Test.YtbbhnahbfhjgeaaDoorSpotUp
import Derived.Test.YtbbhnahbfhjgeaaDoorSpotLay
import Derived.Test.YtbbhnahbfhjgeaaDoorStrOpen
import Derived.Test.YtbbhnahbfhjgeaaDoorCards
import Derived.Test.YtbbhnahbfhjgeaaDoorTie
import Derived.SevenTiedAt
namespace Go.Proofs.YtbbhnahbfhjgeaaDoor
open Go.ChangeShapes Go.WideShapes Go.ChangeAt Go.RowKit
set_option linter.unusedVariables false
set_option linter.unusedSimpArgs false

set_option maxRecDepth 100000 in
theorem spotWheres_walk : LawWalkL 3 [22, 3] := by
  intro H enc W base args ds p hval hA hlt hL
  obtain ⟨v0, vs0, d0, ds0, p0, q0, hargs, rfl, rfl, h0, r0⟩ := trodAll_cons hA
  obtain ⟨v1, vs1, d1, ds1, p1, q1, rfl, rfl, rfl, h1, r1⟩ := trodAll_cons r0
  obtain ⟨rfl, rfl, rfl⟩ := trodAll_nil r1
  obtain rfl : args = #[v0, v1] := by cases args; simp_all
  obtain ⟨A, n, c, l, rfl, hnc, hc, rfl, hrd⟩ := open_u8s (hval 0 _ v0 rfl rfl) h0
  obtain ⟨n1, rfl, _, _, H1⟩ := open_int Tryd.underlying3 (hval 1 _ v1 rfl rfl) h1
  exact wheres_any l A c n1 W hL hrd hnc hc

theorem spotWheres_row : Rows.SpotWheresSaid :=
  OpenClaim.holds_of_wide 3 Tryd.f3 rfl rfl rfl rfl rfl rfl rfl ⟨rfl, rfl, rfl, rfl, rfl⟩ rfl rfl rfl rfl rfl (by kernel_rfl) Tryd.func3 (by kernel_rfl)
    (of_decide_eq_true (by kernel_rfl)) (by unfold Func.isWrapper; first | (rw [if_pos (by decide +kernel)]; kernel_rfl) | (rw [if_neg (by decide +kernel)]; exact ⟨rfl, rfl⟩))
    (fun os started H enc _ => law_liftedL (f := Tryd.f3) (s := Rows.spotWheresSpec) started Tryd.func3 (by kernel_rfl) (by rw [Tryd.params3]) rfl rfl
      (fun H ds h => by match ds, h with | [_, _], _ => rfl) (by kernel_rfl)
      (ChangeSpec.witness_shaped (enc := enc) (C := Tryd.checked) (os := os) (X := fun w _ => laidMetH Tryd.prog seatLaid w) false (World.doorLaid Tryd.prog 65 os) #[.slice none 0 0, .int .i64 0] 8 rfl (World.shaped_of_RefB (by kernel_rfl) (by kernel_rfl)) (by kernel_rfl) (by kernel_rfl) (by kernel_rfl) (door_met os _)) spotWheres_walk)

theorem spotWheres_holds : Rows.SpotWheresCardSaid :=
  Claim7.holds_tied_plain_at .later [] [.data, .data, .data, .handle] true (true, Rows.spotWheresCard.stood.harness.2) true
    spotWheres_row (fun _ h => by cases h) (by kernel_rfl) (fun _ h => by cases h) spotWheres_row_tie rfl ⟨rfl, rfl⟩ (by kernel_rfl) rfl
    (fun f fn hf hfn => by
      obtain rfl : f = 3 := Option.some.inj ((show Tryd.prog.funcNamed "bushel/bushellaw03.SpotWheres" = some 3 by kernel_rfl).symm.trans hf) |>.symm
      obtain rfl : fn = Tryd.f3 := (Option.some.inj (Tryd.func3.symm.trans hfn)).symm
      exact ⟨by kernel_rfl, fun j t ht => by
        rw [Tryd.params3] at ht
        have h3 : t ∈ [22, 3] := List.mem_of_getElem? (by simpa using ht)
        have hall : ∀ t ∈ [22, 3], Tryd.prog.wantsStandIn t = false := by
          intro t ht
          have := List.all_eq_true.1 (show ([22, 3].all fun t => !Tryd.prog.wantsStandIn t) = true by kernel_rfl) t ht
          simpa using this
        exact hall t h3⟩)
    (by kernel_rfl)
#print axioms spotWheres_holds
end Go.Proofs.YtbbhnahbfhjgeaaDoor
