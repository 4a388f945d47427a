/-
  SpotRenders holds: for every input the law returns true, and each argument reads afterwards as it read before; the tied variables read as the program's text lays them. No other condition.
-/
import Derived.Test.YtbbhnahbfhjgeaaDoorSpotRendersB
import Derived.Test.YtbbhnahbfhjgeaaDoorSpotLay
import Derived.Test.YtbbhnahbfhjgeaaDoorStrOpen
import Derived.Test.YtbbhnahbfhjgeaaDoorCards
import Derived.Test.YtbbhnahbfhjgeaaDoorTie
import Derived.SevenTiedAt
namespace Go.Proofs.YtbbhnahbfhjgeaaDoor
open Go.ChangeShapes Go.WideShapes Go.ChangeAt Go.RowKit
set_option linter.unusedVariables false
set_option linter.unusedSimpArgs false

set_option maxRecDepth 100000 in
theorem spotRenders_walk : LawWalkL 4 [22, 3, 3, 27, 4] := by
  intro H enc W base args ds p hval hA hlt hL
  obtain ⟨v0, vs0, d0, ds0, p0, q0, hargs, rfl, rfl, h0, r0⟩ := trodAll_cons hA
  obtain ⟨v1, vs1, d1, ds1, p1, q1, rfl, rfl, rfl, h1, r1⟩ := trodAll_cons r0
  obtain ⟨v2, vs2, d2, ds2, p2, q2, rfl, rfl, rfl, h2, r2⟩ := trodAll_cons r1
  obtain ⟨v3, vs3, d3, ds3, p3, q3, rfl, rfl, rfl, h3, r3⟩ := trodAll_cons r2
  obtain ⟨v4, vs4, d4, ds4, p4, q4, rfl, rfl, rfl, h4, r4⟩ := trodAll_cons r3
  obtain ⟨rfl, rfl, rfl⟩ := trodAll_nil r4
  obtain rfl : args = #[v0, v1, v2, v3, v4] := by cases args; simp_all
  obtain ⟨A, n, c, l, rfl, hnc, hc, rfl, hrd⟩ := open_u8s (hval 0 _ v0 rfl rfl) h0
  obtain ⟨n1, rfl, _, _, H1⟩ := open_int Tryd.underlying3 (hval 1 _ v1 rfl rfl) h1
  obtain ⟨n2, rfl, _, _, H2⟩ := open_int Tryd.underlying3 (hval 2 _ v2 rfl rfl) h2
  obtain ⟨A3, N3, c3, l3, rfl, hnc3, hc3, hrd3⟩ := open_strs (hval 3 _ v3 rfl rfl) h3
  obtain ⟨b4, rfl, _, _⟩ := open_bool Tryd.underlying4 (hval 4 _ v4 rfl rfl) h4
  exact renders_any l l3 n1 n2 A A3 _ c N3 c3 b4 W hL hrd hnc hc hrd3 hnc3 hc3 H1 H2

theorem spotRenders_row : Rows.SpotRendersSaid :=
  OpenClaim.holds_of_wide 4 Tryd.f4 rfl rfl rfl rfl rfl rfl rfl ⟨rfl, rfl, rfl, rfl, rfl⟩ rfl rfl rfl rfl rfl (by kernel_rfl) Tryd.func4 (by kernel_rfl)
    (of_decide_eq_true (by kernel_rfl)) (by unfold Func.isWrapper; first | (rw [if_pos (by decide +kernel)]; kernel_rfl) | (rw [if_neg (by decide +kernel)]; exact ⟨rfl, rfl⟩))
    (fun os started H enc _ => law_liftedL (f := Tryd.f4) (s := Rows.spotRendersSpec) started Tryd.func4 (by kernel_rfl) (by rw [Tryd.params4]) rfl rfl
      (fun H ds h => by match ds, h with | [_, _, _, _, _], _ => rfl) (by kernel_rfl)
      (ChangeSpec.witness_shaped (enc := enc) (C := Tryd.checked) (os := os) (X := fun w _ => laidMetH Tryd.prog seatLaid w) false (World.doorLaid Tryd.prog 65 os) #[.slice none 0 0, .int .i64 0, .int .i64 0, .slice none 0 0, .bool false] 8 rfl (World.shaped_of_RefB (by kernel_rfl) (by kernel_rfl)) (by kernel_rfl) (by kernel_rfl) (by kernel_rfl) (door_met os _)) spotRenders_walk)

theorem spotRenders_holds : Rows.SpotRendersCardSaid :=
  Claim7.holds_tied_plain_at .later [] [.data, .data, .data, .handle] true (true, Rows.spotRendersCard.stood.harness.2) true
    spotRenders_row (fun _ h => by cases h) (by kernel_rfl) (fun _ h => by cases h) spotRenders_row_tie rfl ⟨rfl, rfl⟩ (by kernel_rfl) rfl
    (fun f fn hf hfn => by
      obtain rfl : f = 4 := Option.some.inj ((show Tryd.prog.funcNamed "bushel/bushellaw03.SpotRenders" = some 4 by kernel_rfl).symm.trans hf) |>.symm
      obtain rfl : fn = Tryd.f4 := (Option.some.inj (Tryd.func4.symm.trans hfn)).symm
      exact ⟨by kernel_rfl, fun j t ht => by
        rw [Tryd.params4] at ht
        have h3 : t ∈ [22, 3, 3, 27, 4] := List.mem_of_getElem? (by simpa using ht)
        have hall : ∀ t ∈ [22, 3, 3, 27, 4], Tryd.prog.wantsStandIn t = false := by
          intro t ht
          have := List.all_eq_true.1 (show ([22, 3, 3, 27, 4].all fun t => !Tryd.prog.wantsStandIn t) = true by kernel_rfl) t ht
          simpa using this
        exact hall t h3⟩)
    (by kernel_rfl)
#print axioms spotRenders_holds
end Go.Proofs.YtbbhnahbfhjgeaaDoor
