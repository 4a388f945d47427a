/-
  ScopeTells holds where what it reads is of bulk at most 1048576: the law returns true, and each argument reads afterwards as it read before; the tied variables read as the program's text lays them. No other condition.
-/
import Derived.Test.YtaglmmcjhlehjaaGreatDoorK25
import Derived.Test.YtaglmmcjhlehjaaGreatDoorK26
import Derived.Test.YtaglmmcjhlehjaaGreatDoorCards
import Derived.Test.YtaglmmcjhlehjaaGreatDoorTie
import Derived.SevenTiedAt
namespace Go.Proofs.YtaglmmcjhlehjaaGreatDoor
open Go.ChangeShapes Go.WideShapes Go.ChangeAt Go.RowKit
set_option linter.unusedVariables false
set_option linter.unusedSimpArgs false

set_option maxRecDepth 100000 in
theorem scopeTells_walk : LawWalkS 5 [25] := by
  intro H enc W base args ds p hval hA hlt hL hbulk
  obtain ⟨v0, vs0, d0, ds0, p0, q0, hargs, rfl, rfl, h0, r0⟩ := trodAll_cons hA
  obtain ⟨rfl, rfl, rfl⟩ := trodAll_nil r0
  obtain rfl : args = #[v0] := by cases args; simp_all
  simp only [Rows.uptoBulkAll] at hbulk
  have b0 := bulk_pos d0
  obtain ⟨cs, rfl, hcs⟩ := okWide_struct Tryz.underlying25 (hval 0 _ v0 rfl rfl)
  obtain ⟨fuel, hf⟩ := h0
  obtain ⟨⟨d, l⟩, htc, ⟨hI, hG, hM⟩, hbk⟩ := openU_ex 1048576 (Nat.le_refl _) _ _ _ hf (show Rows.uptoBulk d0 ≤ 1048576 by omega)
  have hv0 : Value.agg cs = .agg d.arr := by
    have : (Ex.mk d l).cells = cs.toList := htc
    rw [show cs = cs.toList.toArray from by simp, ← this]
    rfl
  have hbk' : (Ex.mk d l).bk ≤ 1048576 := Nat.le_trans hbk (show Rows.uptoBulk d0 ≤ 1048576 by omega)
  rw [hv0]
  exact scopeTells_any d l W hL.1 hL.2.1 hL.2.2 hI hM (by have := nodes_bk (Ex.mk d l); omega)

set_option maxRecDepth 100000 in
theorem scopeTells_reads (os : Os) {H : Type} (enc : TypeId × Value → H) : ∃ places, DataW.whole enc Tryz.prog ((World.doorLaid Tryz.prog 69 os).forCall (fun _ _ => 0) ⟨#[], #[.agg #[.int .i64 0, .int .i64 0, .int .i64 0, .string ⟨#[]⟩, .string ⟨#[]⟩, .slice none 0 0, .slice none 0 0, .slice none 0 0]], []⟩).memory Tryz.f5.params.toList Rows.scopeTellsSpec.vars false (#[Value.agg #[.int .i64 0, .int .i64 0, .int .i64 0, .string ⟨#[]⟩, .string ⟨#[]⟩, .slice none 0 0, .slice none 0 0, .slice none 0 0]] : Array Value).toList 8
    = some ([.agg [.lit (.int .i64 0), .lit (.int .i64 0), .lit (.int .i64 0), .lit (.string []), .lit (.string []), .nil, .nil, .nil]], [], places) :=
  ⟨[], by kernel_rfl⟩

set_option maxRecDepth 100000 in
theorem scopeTells_row : Rows.ScopeTellsUptoSaid :=
  OpenClaim.holds_of_cond 5 Tryz.f5 rfl rfl rfl rfl rfl rfl rfl ⟨rfl, rfl, rfl, rfl, rfl⟩ rfl rfl rfl rfl rfl (by kernel_rfl) Tryz.func5 (by kernel_rfl)
    (of_decide_eq_true (by kernel_rfl)) (by unfold Func.isWrapper; first | (rw [if_pos (by decide +kernel)]; kernel_rfl) | (rw [if_neg (by decide +kernel)]; exact ⟨rfl, rfl⟩))
    (fun os started H enc _ F => by
      rw [OpenClaim.pre_eq_preRow]
      obtain ⟨places, hx⟩ := scopeTells_reads os enc
      exact law_liftedS (f := Tryz.f5) (s := Rows.scopeTellsSpec) started F Tryz.func5 (by kernel_rfl) (by rw [Tryz.params5]) rfl rfl
        (fun H ds h => by match ds, h with | [_], _ => rfl) (by kernel_rfl)
        (witness_row_at (enc := enc) (C := Tryz.checked) false (World.doorLaid Tryz.prog 69 os) #[.agg #[.int .i64 0, .int .i64 0, .int .i64 0, .string ⟨#[]⟩, .string ⟨#[]⟩, .slice none 0 0, .slice none 0 0, .slice none 0 0]] rfl (by kernel_rfl) (by kernel_rfl) (by kernel_rfl)
          (OpenSpec.preRow_of_cond 8 hx (by kernel_rfl) (fun k hk => by cases hk; kernel_rfl) (by kernel_rfl) (door_metS os _))) scopeTells_walk)

theorem scopeTells_holds : Rows.ScopeTellsUptoCardSaid :=
  Claim7.holds_tied_plain_at .later [] [.data, .data, .data, .handle, .sentinel, .sentinel] true (true, Rows.scopeTellsUptoCard.stood.harness.2) true
    scopeTells_row (fun _ h => by cases h) (by kernel_rfl) (fun _ h => by cases h) scopeTellsUpto_row_tie rfl ⟨rfl, rfl⟩ (by kernel_rfl) rfl
    (fun f fn hf hfn => by
      obtain rfl : f = 5 := Option.some.inj ((show Tryz.prog.funcNamed "bushel/bushellaw08.ScopeTells" = some 5 by kernel_rfl).symm.trans hf) |>.symm
      obtain rfl : fn = Tryz.f5 := (Option.some.inj (Tryz.func5.symm.trans hfn)).symm
      exact ⟨by kernel_rfl, fun j t ht => by
        rw [Tryz.params5] at ht
        have h3 : t ∈ [25] := List.mem_of_getElem? (by simpa using ht)
        have hall : ∀ t ∈ [25], Tryz.prog.wantsStandIn t = false := by
          intro t ht
          have := List.all_eq_true.1 (show ([25].all fun t => !Tryz.prog.wantsStandIn t) = true by kernel_rfl) t ht
          simpa using this
        exact hall t h3⟩)
    (by kernel_rfl)
#print axioms scopeTells_holds
end Go.Proofs.YtaglmmcjhlehjaaGreatDoor
