/-
  LexCuts holds: for every input the law returns true, and the argument reads afterwards as it read before; the tied variables read as the program's text lays them. No other condition.
-/
import Derived.Test.YtmkkocfclejpgaaDoorLexCutsB
import Derived.Test.YtmkkocfclejpgaaDoorLexLay
import Derived.Test.YtmkkocfclejpgaaDoorStrOpen
import Derived.Test.YtmkkocfclejpgaaDoorCards
import Derived.Test.YtmkkocfclejpgaaDoorTie
import Derived.SevenTiedAt
namespace Go.Proofs.YtmkkocfclejpgaaDoor
open Go.ChangeShapes Go.WideShapes Go.ChangeAt Go.RowKit
set_option linter.unusedVariables false
set_option linter.unusedSimpArgs false

set_option maxRecDepth 100000 in
theorem lexCuts_walk : LawWalkL 3 [22] := by
  intro H enc W base args ds p hval hA hlt hL
  obtain ⟨v0, vs0, d0, ds0, p0, q0, hargs, rfl, rfl, h0, r0⟩ := trodAll_cons hA
  obtain ⟨rfl, rfl, rfl⟩ := trodAll_nil r0
  obtain rfl : args = #[v0] := by cases args; simp_all
  obtain ⟨A, n, c, l, rfl, hnc, hc, rfl, hrd⟩ := open_u8s (hval 0 _ v0 rfl rfl) h0
  exact cuts_any l A c W hL hrd hnc hc

theorem lexCuts_row : Rows.LexCutsSaid :=
  OpenClaim.holds_of_wide 3 Tryd.f3 rfl rfl rfl rfl rfl rfl rfl ⟨rfl, rfl, rfl, rfl, rfl⟩ rfl rfl rfl rfl rfl (by kernel_rfl) Tryd.func3 (by kernel_rfl)
    (of_decide_eq_true (by kernel_rfl)) (by unfold Func.isWrapper; first | (rw [if_pos (by decide +kernel)]; kernel_rfl) | (rw [if_neg (by decide +kernel)]; exact ⟨rfl, rfl⟩))
    (fun os started H enc _ => law_liftedL (f := Tryd.f3) (s := Rows.lexCutsSpec) started Tryd.func3 (by kernel_rfl) (by rw [Tryd.params3]) rfl rfl
      (fun H ds h => by match ds, h with | [_], _ => rfl) (by kernel_rfl)
      (ChangeSpec.witness_shaped (enc := enc) (C := Tryd.checked) (os := os) (X := fun w _ => laidMetH Tryd.prog seatLaid w) false (World.doorLaid Tryd.prog 69 os) #[.slice none 0 0] 8 rfl (World.shaped_of_RefB (by kernel_rfl) (by kernel_rfl)) (by kernel_rfl) (by kernel_rfl) (by kernel_rfl) (door_met os _)) lexCuts_walk)

theorem lexCuts_holds : Rows.LexCutsCardSaid :=
  Claim7.holds_tied_plain_at .later [] [.data, .data, .data, .handle, .sentinel, .sentinel] true (true, Rows.lexCutsCard.stood.harness.2) true
    lexCuts_row (fun _ h => by cases h) (by kernel_rfl) (fun _ h => by cases h) lexCuts_row_tie rfl ⟨rfl, rfl⟩ (by kernel_rfl) rfl
    (fun f fn hf hfn => by
      obtain rfl : f = 3 := Option.some.inj ((show Tryd.prog.funcNamed "bushel/bushellaw04.LexCuts" = some 3 by kernel_rfl).symm.trans hf) |>.symm
      obtain rfl : fn = Tryd.f3 := (Option.some.inj (Tryd.func3.symm.trans hfn)).symm
      exact ⟨by kernel_rfl, fun j t ht => by
        rw [Tryd.params3] at ht
        have h3 : t = 22 := by
          rcases j with _ | j
          · simpa using ht.symm
          · simp at ht
        subst h3
        exact (show Tryd.prog.wantsStandIn 22 = false by kernel_rfl)⟩)
    (by kernel_rfl)
#print axioms lexCuts_holds
end Go.Proofs.YtmkkocfclejpgaaDoor
