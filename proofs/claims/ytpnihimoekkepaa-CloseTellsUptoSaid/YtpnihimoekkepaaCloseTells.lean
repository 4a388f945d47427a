/-
  CloseTells holds where what it reads is of bulk at most 1048576: the law returns true, and its argument reads afterwards as it read before. No other condition.
-/
import Derived.Test.YtpnihimoekkepaaCoBQ
import Derived.Test.YtpnihimoekkepaaCoAE
namespace Go.Proofs.Ytpnihimoekkepaa
open Go.ChangeShapes Go.WideShapes Go.ChangeAt Go.RowKit
set_option linter.unusedVariables false
set_option linter.unusedSimpArgs false

set_option maxRecDepth 100000 in
theorem closeTells_walk : LawWalkU 3 [25] := by
  intro H enc W base args ds p hval hA hlt hbulk
  obtain ⟨v0, vs0, d0, ds0, p0, q0, hargs, rfl, rfl, h0, r0⟩ := trodAll_cons hA
  obtain ⟨rfl, rfl, rfl⟩ := trodAll_nil r0
  obtain rfl : args = #[v0] := by cases args; simp_all
  simp only [Rows.uptoBulkAll] at hbulk
  have b0 := bulk_pos d0
  obtain ⟨cs, rfl, hcs⟩ := okWide_struct Try.underlying25 (hval 0 _ v0 rfl rfl)
  obtain ⟨fuel, hf⟩ := h0
  obtain ⟨t, htc, hI, hn⟩ := openU_ex 1048576 (Nat.le_refl _) _ _ _ hf (show Rows.uptoBulk d0 ≤ 1048576 by omega)
  have hv0 : Value.agg cs = .agg t.d.arr := by
    have : t.cells = cs.toList := htc
    rw [show cs = cs.toList.toArray from by simp, ← this]
    rfl
  have hn' : t.nodes ≤ 2000000 := Nat.le_trans hn (show Rows.uptoBulk d0 ≤ 2000000 by omega)
  rw [hv0]
  exact tells_any t W hI hn'

set_option maxRecDepth 100000 in
theorem closeTells_reads (os : Os) {H : Type} (enc : TypeId × Value → H) : ∃ places, DataW.whole enc Try.prog ((World.holding Try.prog os ⟨#[], #[.agg #[.int .i64 0, .int .i64 0, .string ⟨#[]⟩, .string ⟨#[]⟩, .slice none 0 0, .slice none 0 0]], []⟩).forCall (fun _ _ => 0) ⟨#[], #[.agg #[.int .i64 0, .int .i64 0, .string ⟨#[]⟩, .string ⟨#[]⟩, .slice none 0 0, .slice none 0 0]], []⟩).memory Try.f3.params.toList Rows.closeTellsSpec.vars false (#[Value.agg #[.int .i64 0, .int .i64 0, .string ⟨#[]⟩, .string ⟨#[]⟩, .slice none 0 0, .slice none 0 0]] : Array Value).toList 8
    = some ([.agg [.lit (.int .i64 0), .lit (.int .i64 0), .lit (.string []), .lit (.string []), .nil, .nil]], [], places) :=
  ⟨[], by kernel_rfl⟩

set_option maxRecDepth 100000 in
theorem closeTells_holds : Rows.CloseTellsUptoSaid :=
  OpenClaim.holds_of_cond 3 Try.f3 rfl rfl rfl rfl rfl rfl rfl ⟨rfl, rfl, rfl, rfl, rfl⟩ rfl rfl rfl rfl rfl (by kernel_rfl) Try.func3 (by kernel_rfl)
    (of_decide_eq_true (by kernel_rfl)) (by unfold Func.isWrapper; first | (rw [if_pos (by decide +kernel)]; kernel_rfl) | (rw [if_neg (by decide +kernel)]; exact ⟨rfl, rfl⟩))
    (fun os started H enc _ F => by
      rw [OpenClaim.pre_eq_preRow]
      obtain ⟨places, hx⟩ := closeTells_reads os enc
      exact law_liftedU (f := Try.f3) (s := Rows.closeTellsSpec) started F Try.func3 (by kernel_rfl) (by rw [Try.params3]) rfl rfl
        (fun H ds h => by match ds, h with | [_], _ => rfl) (by kernel_rfl)
        (witness_row_at (enc := enc) (C := Try.checked) false (World.holding Try.prog os ⟨#[], #[.agg #[.int .i64 0, .int .i64 0, .string ⟨#[]⟩, .string ⟨#[]⟩, .slice none 0 0, .slice none 0 0]], []⟩) #[.agg #[.int .i64 0, .int .i64 0, .string ⟨#[]⟩, .string ⟨#[]⟩, .slice none 0 0, .slice none 0 0]] rfl (by kernel_rfl) (by kernel_rfl) (by kernel_rfl)
          (OpenSpec.preRow_of_cond 8 hx (by kernel_rfl) (fun k hk => by cases hk; kernel_rfl) (by kernel_rfl) (laidMetH_nil _ _))) closeTells_walk)
#print axioms closeTells_holds
end Go.Proofs.Ytpnihimoekkepaa
