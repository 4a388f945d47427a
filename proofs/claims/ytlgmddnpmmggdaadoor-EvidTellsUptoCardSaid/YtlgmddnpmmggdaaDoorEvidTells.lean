/-
  EvidTells holds where what it reads is of bulk at most 1048576: the law returns true, and each argument reads afterwards as it read before; the tied variables read as the program's text lays them. No other condition.
-/
import Derived.Test.YtlgmddnpmmggdaaDoorEtO
import Derived.Test.YtlgmddnpmmggdaaDoorUptoLay
import Derived.Test.YtlgmddnpmmggdaaDoorCards
import Derived.Test.YtlgmddnpmmggdaaDoorTie
import Derived.SevenTiedAt
namespace Go.Proofs.YtlgmddnpmmggdaaDoor
open Go.ChangeShapes Go.WideShapes Go.ChangeAt Go.RowKit
set_option linter.unusedVariables false
set_option linter.unusedSimpArgs false

set_option maxRecDepth 100000 in
theorem evidTells_walk : LawWalkU 3 [25, 9, 27, 28, 29, 30] := by
  intro H enc W base args ds p hval hA hlt hL hbulk
  obtain ⟨v0, vs0, d0, ds0, p0, q0, hargs, rfl, rfl, h0, r0⟩ := trodAll_cons hA
  obtain ⟨v1, vs1, d1, ds1, p1, q1, rfl, rfl, rfl, h1, r1⟩ := trodAll_cons r0
  obtain ⟨v2, vs2, d2, ds2, p2, q2, rfl, rfl, rfl, h2, r2⟩ := trodAll_cons r1
  obtain ⟨v3, vs3, d3, ds3, p3, q3, rfl, rfl, rfl, h3, r3⟩ := trodAll_cons r2
  obtain ⟨v4, vs4, d4, ds4, p4, q4, rfl, rfl, rfl, h4, r4⟩ := trodAll_cons r3
  obtain ⟨v5, vs5, d5, ds5, p5, q5, rfl, rfl, rfl, h5, r5⟩ := trodAll_cons r4
  obtain ⟨rfl, rfl, rfl⟩ := trodAll_nil r5
  obtain rfl : args = #[v0, v1, v2, v3, v4, v5] := by cases args; simp_all
  simp only [Rows.uptoBulkAll] at hbulk
  have b0 := bulk_pos d0
  have b1 := bulk_pos d1
  have b2 := bulk_pos d2
  have b3 := bulk_pos d3
  have b4 := bulk_pos d4
  have b5 := bulk_pos d5
  -- the type
  obtain ⟨cs, rfl, hcs⟩ := okWide_struct Tryd.underlying25 (hval 0 _ v0 rfl rfl)
  obtain ⟨fuel, hf⟩ := h0
  obtain ⟨t, htc, ⟨hI, hG⟩, hnod⟩ := openU_ty 1048576 (by omega) _ _ _ hf (show Rows.uptoBulk d0 ≤ 1048576 by omega)
  have hv0 : Value.agg cs = .agg t.d.arr := by
    have : t.cells = cs.toList := htc
    rw [show cs = cs.toList.toArray from by simp, ← this]
    rfl
  -- the label
  obtain ⟨s0, rfl⟩ := okWide_string Tryd.underlying9 (hval 1 _ v1 rfl rfl)
  obtain ⟨fuel1, hf1⟩ := h1
  obtain ⟨s1, hc1, hd1, _⟩ := DataW.trod_string Tryd.underlying9 hf1
  simp [Value.cells] at hc1
  subst hc1
  have hd1' : d1 = .lit (.string s0.data.toList) := congrArg Prod.fst hd1
  have hs1 : (s0.data.toList).length ≤ 1048576 := by rw [hd1'] at hbulk; simp only [Rows.uptoBulk] at hbulk; omega
  -- the evidence
  obtain ⟨w0, w1, w2, y0, y1, y2, k, rfl, hd2, _, g0, g1, g2⟩ := Joins.open_agg3 Tryd.underlying27 (by kernel_rfl) (by kernel_rfl) (hval 2 _ v2 rfl rfl) h2
  obtain ⟨n, hn, _, _⟩ := DataW.trod_int Tryd.underlying3 g0
  obtain ⟨row, hrow, _, hrw⟩ := DataW.trod_int Tryd.underlying3 g1
  obtain ⟨lb, hlb, hy2, _⟩ := DataW.trod_string Tryd.underlying9 g2
  simp only [List.cons.injEq, and_true] at hn hrow hlb
  subst hn
  subst hrow
  subst hlb
  have hl2 : (lb.data.toList).length ≤ 1048576 := by
    rw [hd2] at hbulk
    rw [hy2] at hbulk
    simp only [Rows.uptoBulk, Rows.uptoBulkAll] at hbulk
    omega
  -- what is known
  obtain ⟨KA, kn, kc, rfl⟩ := okWide_slice Tryd.underlying28 (hval 3 _ v3 rfl rfl)
  obtain ⟨fuel3, hf3⟩ := h3
  obtain ⟨KA', kn', kc', ks, hc3, _, _, hk3, hKA, hks, hkb⟩ := openU_needs 1048576 hf3 (show Rows.uptoBulk d3 ≤ 1048576 + 1 by omega)
  simp [Value.cells] at hc3
  obtain ⟨rfl, rfl, rfl⟩ := hc3
  subst hk3
  obtain ⟨VA, vn, vc, rfl⟩ := okWide_slice Tryd.underlying29 (hval 4 _ v4 rfl rfl)
  obtain ⟨fuel4, hf4⟩ := h4
  obtain ⟨VA', vn', vc', vs, hc4, _, _, hk4, hVA, hvs, hvb⟩ := openU_ints 1048576 hf4 (show Rows.uptoBulk d4 ≤ 1048576 + 1 by omega)
  simp [Value.cells] at hc4
  obtain ⟨rfl, rfl, rfl⟩ := hc4
  subst hk4
  -- what rows lack
  obtain ⟨LA, ln, lc, rfl⟩ := okWide_slice Tryd.underlying30 (hval 5 _ v5 rfl rfl)
  obtain ⟨fuel5, hf5⟩ := h5
  obtain ⟨LA', ln', lc', L, hc5, _, _, hk5, hLA, hLI, hlb5⟩ := openU_lks 1048576 (by omega) hf5 (show Rows.uptoBulk d5 ≤ 1048576 + 1 by omega)
  simp [Value.cells] at hc5
  obtain ⟨rfl, rfl, rfl⟩ := hc5
  subst hk5
  have b3' : Rows.uptoBulk d3 ≤ 1048576 := by omega
  have b4' : Rows.uptoBulk d4 ≤ 1048576 := by omega
  have b5' : Rows.uptoBulk d5 ≤ 1048576 := by omega
  have hnod' : t.nodes ≤ 4000000 := Nat.le_trans hnod (show Rows.uptoBulk d0 ≤ 4000000 by omega)
  have hkl : ks.length ≤ 4000000 := by have : ks.length + 1 ≤ Rows.uptoBulk d3 := hkb; omega
  have hvl : vs.length ≤ 4000000 := by have : vs.length + 1 ≤ Rows.uptoBulk d4 := hvb; omega
  have hll : L.length ≤ 4000000 := by have : L.length + 1 ≤ Rows.uptoBulk d5 := hlb5; omega
  have h := evidTells_any t s0.data.toList lb.data.toList n row KA VA LA kc vc lc ks vs L W hI hG hnod' hKA hVA hLA hll hLI hks hvs hrw (by omega) (by omega) hkl hvl hL
  rw [hv0]
  rw [bstr_of, bstr_of] at h
  exact h

set_option maxRecDepth 100000 in
theorem evidTells_reads (os : Os) {H : Type} (enc : TypeId × Value → H) : ∃ places, DataW.whole enc Tryd.prog ((World.doorLaid Tryd.prog 65 os).forCall (fun _ _ => 0) ⟨#[], #[.agg #[.int .i64 0, .int .i64 0, .slice none 0 0, .slice none 0 0, .int .i64 0], .string ⟨#[]⟩, .agg #[.int .i64 0, .int .i64 0, .string ⟨#[]⟩], .slice none 0 0, .slice none 0 0, .slice none 0 0], []⟩).memory Tryd.f3.params.toList Rows.evidTellsSpec.vars false (#[Value.agg #[.int .i64 0, .int .i64 0, .slice none 0 0, .slice none 0 0, .int .i64 0], .string ⟨#[]⟩, .agg #[.int .i64 0, .int .i64 0, .string ⟨#[]⟩], .slice none 0 0, .slice none 0 0, .slice none 0 0] : Array Value).toList 8
    = some ([.agg [.lit (.int .i64 0), .lit (.int .i64 0), .nil, .nil, .lit (.int .i64 0)], .lit (.string []), .agg [.lit (.int .i64 0), .lit (.int .i64 0), .lit (.string [])], .nil, .nil, .nil], [], places) :=
  ⟨[], by kernel_rfl⟩

set_option maxRecDepth 100000 in
theorem evidTells_row : Rows.EvidTellsUptoSaid :=
  OpenClaim.holds_of_cond 3 Tryd.f3 rfl rfl rfl rfl rfl rfl rfl ⟨rfl, rfl, rfl, rfl, rfl⟩ rfl rfl rfl rfl rfl (by kernel_rfl) Tryd.func3 (by kernel_rfl)
    (of_decide_eq_true (by kernel_rfl)) (by unfold Func.isWrapper; first | (rw [if_pos (by decide +kernel)]; kernel_rfl) | (rw [if_neg (by decide +kernel)]; exact ⟨rfl, rfl⟩))
    (fun os started H enc _ F => by
      rw [OpenClaim.pre_eq_preRow]
      obtain ⟨places, hx⟩ := evidTells_reads os enc
      exact law_liftedU (f := Tryd.f3) (s := Rows.evidTellsSpec) started F Tryd.func3 (by kernel_rfl) (by rw [Tryd.params3]) rfl rfl
        (fun H ds h => by match ds, h with | [_, _, _, _, _, _], _ => rfl) (by kernel_rfl)
        (witness_row_at (enc := enc) (C := Tryd.checked) false (World.doorLaid Tryd.prog 65 os) #[.agg #[.int .i64 0, .int .i64 0, .slice none 0 0, .slice none 0 0, .int .i64 0], .string ⟨#[]⟩, .agg #[.int .i64 0, .int .i64 0, .string ⟨#[]⟩], .slice none 0 0, .slice none 0 0, .slice none 0 0] rfl (by kernel_rfl) (by kernel_rfl) (by kernel_rfl)
          (OpenSpec.preRow_of_cond 8 hx (by kernel_rfl) (fun k hk => by cases hk; kernel_rfl) (by kernel_rfl) (door_met os _))) evidTells_walk)

theorem evidTells_holds : Rows.EvidTellsUptoCardSaid :=
  Claim7.holds_tied_plain_at .later [] [.data, .data, .data] true (true, Rows.evidTellsUptoCard.stood.harness.2) true
    evidTells_row (fun _ h => by cases h) (by kernel_rfl) (fun _ h => by cases h) evidTellsUpto_row_tie rfl ⟨rfl, rfl⟩ (by kernel_rfl) rfl
    (fun f fn hf hfn => by
      obtain rfl : f = 3 := Option.some.inj ((show Tryd.prog.funcNamed "bushel/bushellaw13.EvidTells" = some 3 by kernel_rfl).symm.trans hf) |>.symm
      obtain rfl : fn = Tryd.f3 := (Option.some.inj (Tryd.func3.symm.trans hfn)).symm
      exact ⟨by kernel_rfl, fun j t ht => by
        rw [Tryd.params3] at ht
        have h3 : t ∈ [25, 9, 27, 28, 29, 30] := List.mem_of_getElem? (by simpa using ht)
        have hall : ∀ t ∈ [25, 9, 27, 28, 29, 30], Tryd.prog.wantsStandIn t = false := by
          intro t ht
          have := List.all_eq_true.1 (show ([25, 9, 27, 28, 29, 30].all fun t => !Tryd.prog.wantsStandIn t) = true by kernel_rfl) t ht
          simpa using this
        exact hall t h3⟩)
    (by kernel_rfl)
#print axioms evidTells_holds
end Go.Proofs.YtlgmddnpmmggdaaDoor
