/-
  EvidWhole holds: for every input the law returns true, and each argument reads afterwards as it read before; the tied variables read as the program's text lays them. No other condition.
-/
import Derived.Test.YtlgmddnpmmggdaaDoorEvWholeB
import Derived.Test.YtlgmddnpmmggdaaDoorTabLay
import Derived.Test.YtlgmddnpmmggdaaDoorStrOpen
import Derived.Test.YtlgmddnpmmggdaaDoorCards
import Derived.Test.YtlgmddnpmmggdaaDoorTie
import Derived.SevenTiedAt
namespace Go.Proofs.YtlgmddnpmmggdaaDoor
open Go.ChangeShapes Go.WideShapes Go.ChangeAt Go.RowKit
set_option linter.unusedVariables false
set_option linter.unusedSimpArgs false

set_option maxRecDepth 100000 in
theorem evidWhole_walk : LawWalkL 4 [23, 23, 9, 3] := by
  intro H enc W base args ds p hval hA hlt hL
  obtain ⟨v0, vs0, d0, ds0, p0, q0, hargs, rfl, rfl, h0, r0⟩ := trodAll_cons hA
  obtain ⟨v1, vs1, d1, ds1, p1, q1, rfl, rfl, rfl, h1, r1⟩ := trodAll_cons r0
  obtain ⟨v2, vs2, d2, ds2, p2, q2, rfl, rfl, rfl, h2, r2⟩ := trodAll_cons r1
  obtain ⟨v3, vs3, d3, ds3, p3, q3, rfl, rfl, rfl, h3, r3⟩ := trodAll_cons r2
  obtain ⟨rfl, rfl, rfl⟩ := trodAll_nil r3
  obtain rfl : args = #[v0, v1, v2, v3] := by cases args; simp_all
  obtain ⟨A, n, c, a, rfl, hnc, hc, hra⟩ := open_strs (hval 0 _ v0 rfl rfl) h0
  obtain ⟨B, m, d, b, rfl, hmd, hd, hrb⟩ := open_strs (hval 1 _ v1 rfl rfl) h1
  obtain ⟨s, rfl, hs⟩ := open_str (hval 2 _ v2 rfl rfl) h2
  obtain ⟨n3, rfl, _, _, H3⟩ := open_int Tryd.underlying3 (hval 3 _ v3 rfl rfl) h3
  exact whole_any a b s n3 A B n c m d W hra hrb hnc hc hmd hd hs H3

theorem evidWhole_row : Rows.EvidWholeSaid :=
  OpenClaim.holds_of_wide 4 Tryd.f4 rfl rfl rfl rfl rfl rfl rfl ⟨rfl, rfl, rfl, rfl, rfl⟩ rfl rfl rfl rfl rfl (by kernel_rfl) Tryd.func4 (by kernel_rfl)
    (of_decide_eq_true (by kernel_rfl)) (by unfold Func.isWrapper; first | (rw [if_pos (by decide +kernel)]; kernel_rfl) | (rw [if_neg (by decide +kernel)]; exact ⟨rfl, rfl⟩))
    (fun os started H enc _ => law_liftedL (f := Tryd.f4) (s := Rows.evidWholeSpec) started Tryd.func4 (by kernel_rfl) (by rw [Tryd.params4]) rfl rfl
      (fun H ds h => by match ds, h with | [_, _, _, _], _ => rfl) (by kernel_rfl)
      (ChangeSpec.witness_shaped (enc := enc) (C := Tryd.checked) (os := os) (X := fun w _ => laidMetH Tryd.prog seatLaid w) false (World.doorLaid Tryd.prog 65 os) #[.slice none 0 0, .slice none 0 0, .string ⟨#[]⟩, .int .i64 0] 8 rfl (World.shaped_of_RefB (by kernel_rfl) (by kernel_rfl)) (by kernel_rfl) (by kernel_rfl) (by kernel_rfl) (door_met os _)) evidWhole_walk)

theorem evidWhole_holds : Rows.EvidWholeCardSaid :=
  Claim7.holds_tied_plain_at .later [] [.data, .data, .data] true (true, Rows.evidWholeCard.stood.harness.2) true
    evidWhole_row (fun _ h => by cases h) (by kernel_rfl) (fun _ h => by cases h) evidWhole_row_tie rfl ⟨rfl, rfl⟩ (by kernel_rfl) rfl
    (fun f fn hf hfn => by
      obtain rfl : f = 4 := Option.some.inj ((show Tryd.prog.funcNamed "bushel/bushellaw13.EvidWhole" = some 4 by kernel_rfl).symm.trans hf) |>.symm
      obtain rfl : fn = Tryd.f4 := (Option.some.inj (Tryd.func4.symm.trans hfn)).symm
      exact ⟨by kernel_rfl, fun j t ht => by
        rw [Tryd.params4] at ht
        have h3 : t ∈ [23, 23, 9, 3] := List.mem_of_getElem? (by simpa using ht)
        have hall : ∀ t ∈ [23, 23, 9, 3], Tryd.prog.wantsStandIn t = false := by
          intro t ht
          have := List.all_eq_true.1 (show ([23, 23, 9, 3].all fun t => !Tryd.prog.wantsStandIn t) = true by kernel_rfl) t ht
          simpa using this
        exact hall t h3⟩)
    (by kernel_rfl)
#print axioms evidWhole_holds
end Go.Proofs.YtlgmddnpmmggdaaDoor
