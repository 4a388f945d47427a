/-
  ShowUnlike holds where what it reads is of bulk at most 1048576: the law returns true, and each argument reads afterwards as it read before; the tied variables read as the program's text lays them. No other condition.
-/
import Derived.Test.YtaglmmcjhlehjaaDoorShS
import Derived.Test.YtaglmmcjhlehjaaDoorExPL
import Derived.Test.YtaglmmcjhlehjaaDoorCards
import Derived.Test.YtaglmmcjhlehjaaDoorTie
import Derived.SevenTiedAt
namespace Go.Proofs.YtaglmmcjhlehjaaDoor
open Go.ChangeShapes Go.WideShapes Go.ChangeAt Go.RowKit
set_option linter.unusedVariables false
set_option linter.unusedSimpArgs false

set_option maxRecDepth 100000 in
theorem showUnlike_walk : LawWalkU 3 [25, 25] := by
  intro H enc W base args ds p hval hA hlt hL hbulk
  obtain ⟨v0, vs0, d0, ds0, p0, q0, hargs, rfl, rfl, h0, r0⟩ := trodAll_cons hA
  obtain ⟨v1, vs1, d1, ds1, p1, q1, rfl, rfl, rfl, h1, r1⟩ := trodAll_cons r0
  obtain ⟨rfl, rfl, rfl⟩ := trodAll_nil r1
  obtain rfl : args = #[v0, v1] := by cases args; simp_all
  simp only [Rows.uptoBulkAll] at hbulk
  have b0 := bulk_pos d0
  have b1 := bulk_pos d1
  obtain ⟨cs0, rfl, hcs0⟩ := okWide_struct Tryd.underlying25 (hval 0 _ v0 rfl rfl)
  obtain ⟨fuel0, hf0⟩ := h0
  obtain ⟨⟨d, l⟩, htc0, ⟨hI0, hG0, hM0⟩, hbk0⟩ := openU_ex 1048576 (Nat.le_refl _) _ _ _ hf0 (show Rows.uptoBulk d0 ≤ 1048576 by omega)
  have hv0 : Value.agg cs0 = .agg d.arr := by
    have : (Ex.mk d l).cells = cs0.toList := htc0
    rw [show cs0 = cs0.toList.toArray from by simp, ← this]
    rfl
  have hbk0' : (Ex.mk d l).bk ≤ 1048576 := Nat.le_trans hbk0 (show Rows.uptoBulk d0 ≤ 1048576 by omega)
  obtain ⟨cs1, rfl, hcs1⟩ := okWide_struct Tryd.underlying25 (hval 1 _ v1 rfl rfl)
  obtain ⟨fuel1, hf1⟩ := h1
  obtain ⟨⟨e, m⟩, htc1, ⟨hI1, hG1, hM1⟩, hbk1⟩ := openU_ex 1048576 (Nat.le_refl _) _ _ _ hf1 (show Rows.uptoBulk d1 ≤ 1048576 by omega)
  have hv1 : Value.agg cs1 = .agg e.arr := by
    have : (Ex.mk e m).cells = cs1.toList := htc1
    rw [show cs1 = cs1.toList.toArray from by simp, ← this]
    rfl
  have hbk1' : (Ex.mk e m).bk ≤ 1048576 := Nat.le_trans hbk1 (show Rows.uptoBulk d1 ≤ 1048576 by omega)
  rw [hv0, hv1]
  exact showUnlike_any d e l m W hL.1 hL.2 hI0 hG0 hM0 (by have := wt_bk (Ex.mk d l); omega) hI1 hG1 hM1 (by have := wt_bk (Ex.mk e m); omega)

set_option maxRecDepth 100000 in
theorem showUnlike_reads (os : Os) {H : Type} (enc : TypeId × Value → H) : ∃ places, DataW.whole enc Tryd.prog ((World.doorLaid Tryd.prog 62 os).forCall (fun _ _ => 0) ⟨#[], #[.agg #[.int .i64 0, .int .i64 0, .int .i64 0, .string ⟨#[]⟩, .string ⟨#[]⟩, .slice none 0 0, .slice none 0 0, .slice none 0 0], .agg #[.int .i64 0, .int .i64 0, .int .i64 0, .string ⟨#[]⟩, .string ⟨#[]⟩, .slice none 0 0, .slice none 0 0, .slice none 0 0]], []⟩).memory Tryd.f3.params.toList Rows.showUnlikeSpec.vars false (#[Value.agg #[.int .i64 0, .int .i64 0, .int .i64 0, .string ⟨#[]⟩, .string ⟨#[]⟩, .slice none 0 0, .slice none 0 0, .slice none 0 0], .agg #[.int .i64 0, .int .i64 0, .int .i64 0, .string ⟨#[]⟩, .string ⟨#[]⟩, .slice none 0 0, .slice none 0 0, .slice none 0 0]] : Array Value).toList 8
    = some ([.agg [.lit (.int .i64 0), .lit (.int .i64 0), .lit (.int .i64 0), .lit (.string []), .lit (.string []), .nil, .nil, .nil], .agg [.lit (.int .i64 0), .lit (.int .i64 0), .lit (.int .i64 0), .lit (.string []), .lit (.string []), .nil, .nil, .nil]], [], places) :=
  ⟨[], by kernel_rfl⟩

set_option maxRecDepth 100000 in
theorem showUnlike_row : Rows.ShowUnlikeUptoSaid :=
  OpenClaim.holds_of_cond 3 Tryd.f3 rfl rfl rfl rfl rfl rfl rfl ⟨rfl, rfl, rfl, rfl, rfl⟩ rfl rfl rfl rfl rfl (by kernel_rfl) Tryd.func3 (by kernel_rfl)
    (of_decide_eq_true (by kernel_rfl)) (by unfold Func.isWrapper; first | (rw [if_pos (by decide +kernel)]; kernel_rfl) | (rw [if_neg (by decide +kernel)]; exact ⟨rfl, rfl⟩))
    (fun os started H enc _ F => by
      rw [OpenClaim.pre_eq_preRow]
      obtain ⟨places, hx⟩ := showUnlike_reads os enc
      exact law_liftedU (f := Tryd.f3) (s := Rows.showUnlikeSpec) started F Tryd.func3 (by kernel_rfl) (by rw [Tryd.params3]) rfl rfl
        (fun H ds h => by match ds, h with | [_, _], _ => rfl) (by kernel_rfl)
        (witness_row_at (enc := enc) (C := Tryd.checked) false (World.doorLaid Tryd.prog 62 os) #[.agg #[.int .i64 0, .int .i64 0, .int .i64 0, .string ⟨#[]⟩, .string ⟨#[]⟩, .slice none 0 0, .slice none 0 0, .slice none 0 0], .agg #[.int .i64 0, .int .i64 0, .int .i64 0, .string ⟨#[]⟩, .string ⟨#[]⟩, .slice none 0 0, .slice none 0 0, .slice none 0 0]] rfl (by kernel_rfl) (by kernel_rfl) (by kernel_rfl)
          (OpenSpec.preRow_of_cond 8 hx (by kernel_rfl) (fun k hk => by cases hk; kernel_rfl) (by kernel_rfl) (door_met os _))) showUnlike_walk)

theorem showUnlike_holds : Rows.ShowUnlikeUptoCardSaid :=
  Claim7.holds_tied_plain_at .later [] [.data, .data, .data, .sentinel, .sentinel] true (true, Rows.showUnlikeUptoCard.stood.harness.2) true
    showUnlike_row (fun _ h => by cases h) (by kernel_rfl) (fun _ h => by cases h) showUnlikeUpto_row_tie rfl ⟨rfl, rfl⟩ (by kernel_rfl) rfl
    (fun f fn hf hfn => by
      obtain rfl : f = 3 := Option.some.inj ((show Tryd.prog.funcNamed "bushel/bushellaw06.ShowUnlike" = some 3 by kernel_rfl).symm.trans hf) |>.symm
      obtain rfl : fn = Tryd.f3 := (Option.some.inj (Tryd.func3.symm.trans hfn)).symm
      exact ⟨by kernel_rfl, fun j t ht => by
        rw [Tryd.params3] at ht
        have h3 : t ∈ [25, 25] := List.mem_of_getElem? (by simpa using ht)
        have hall : ∀ t ∈ [25, 25], Tryd.prog.wantsStandIn t = false := by
          intro t ht
          have := List.all_eq_true.1 (show ([25, 25].all fun t => !Tryd.prog.wantsStandIn t) = true by kernel_rfl) t ht
          simpa using this
        exact hall t h3⟩)
    (by kernel_rfl)
#print axioms showUnlike_holds
end Go.Proofs.YtaglmmcjhlehjaaDoor
