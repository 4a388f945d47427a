/-
  LexQuotes holds: for every text the law returns true, and the argument reads afterwards as it read before; the tied variables read as the program's text lays them. No other condition.
-/
import Derived.Test.YtmkkocfclejpgaaDoorLexUp
import Derived.Test.YtmkkocfclejpgaaDoorLexQR
import Derived.Test.YtmkkocfclejpgaaDoorLexLay
import Derived.Test.YtmkkocfclejpgaaDoorStrOpen
import Derived.Test.YtmkkocfclejpgaaDoorCards
import Derived.Test.YtmkkocfclejpgaaDoorTie
import Derived.SevenTiedAt
namespace Go.Proofs.YtmkkocfclejpgaaDoor
open Go.ChangeShapes Go.WideShapes Go.ChangeAt Go.RowKit
set_option linter.unusedVariables false
set_option linter.unusedSimpArgs false

set_option maxRecDepth 100000 in
set_option maxHeartbeats 1000000 in
theorem quotes_any (s : Str) (w : World) (hL : Lay w) (hm : s.length ≤ maxLen) : Calls Tryd.prog 4 #[.string (bstr s)] w fun e w' => e = .returned (.bool true) ∧ Below w.heap.size w w' := by
  unfold maxLen at hm
  have hz := bstr_size s
  have HL := Lib.hid hL
  clear hL
  by_cases h3 : s.length ≤ 3000
  · have h3i : ¬ (3000 : Int) < ((bstr s).size : Int) := by omega
    have HM := Lib.hid (show s.length ≤ maxLen from hm)
    have hq : ∀ w', Calls Tryd.prog 12 #[.string (bstr s)] w' fun e w'' => QuoteRes s w' e w'' := fun w' => by
      by_cases h2 : 2000 < s.length
      · exact quote_long s w' h2 HM.out
      · exact quote_short s w' (by omega)
    have HQ := Lib.hid hq
    clear hz hq
    go_enter Tryd.func4, Tryd.ntmps4
    go_wp2_with fail
    refine (up_any w HL.out).mono ?_
    rintro e w1 ⟨rfl, hb1⟩
    have HB1 := Lib.hid hb1
    clear hb1
    go_wp2_with fail
    refine (HQ.out w1).mono ?_
    rintro e w2 hres
    unfold QuoteRes at hres
    cases hqs : quoteS s with
    | none =>
      rw [hqs] at hres
      obtain ⟨rfl, hb2⟩ := hres
      have HB2 := Lib.hid (below_then HB1.out hb2)
      have HQS := Lib.hid hqs
      clear hb2 hqs
      go_wp2_with fail
      refine (refQuote_any s w2 h3).mono ?_
      rintro e w3 ⟨q, ok, rfl, rfl, hq⟩
      have hok : ok = false := by
        cases ok with
        | false => rfl
        | true => rw [HQS.out] at hq; cases hq
      subst hok
      clear hq
      go_wp2_with fail
      go_returns
      exact ⟨rfl, HB2.out⟩
    | some q0 =>
      rw [hqs] at hres
      obtain ⟨rfl, hb2⟩ := hres
      have HB2 := Lib.hid (below_then HB1.out hb2)
      have HQS := Lib.hid hqs
      clear hb2 hqs
      go_wp2_with fail
      refine (refQuote_any s w2 h3).mono ?_
      rintro e w3 ⟨q, ok, rfl, rfl, hq⟩
      have hok : ok = true ∧ q0 = q := by
        cases ok with
        | false => rw [HQS.out] at hq; cases hq
        | true => rw [HQS.out] at hq; injection hq with hq; exact ⟨rfl, hq⟩
      obtain ⟨rfl, rfl⟩ := hok
      clear hq HQS
      have hself : ((bstr q0).toList == (bstr q0).toList) = true := by simp
      go_wp2_with fail
      go_returns
      exact ⟨rfl, HB2.out⟩
  · have h3i : (3000 : Int) < ((bstr s).size : Int) := by omega
    clear h3 hz
    go_enter Tryd.func4, Tryd.ntmps4
    go_wp2_with fail
    refine (up_any w HL.out).mono ?_
    rintro e w1 ⟨rfl, hb1⟩
    go_wp2_with fail
    go_returns
    exact ⟨rfl, hb1⟩

set_option maxRecDepth 100000 in
theorem lexQuotes_walk : LawWalkL 4 [9] := by
  intro H enc W base args ds p hval hA hlt hL
  obtain ⟨v0, vs0, d0, ds0, p0, q0, hargs, rfl, rfl, h0, r0⟩ := trodAll_cons hA
  obtain ⟨rfl, rfl, rfl⟩ := trodAll_nil r0
  obtain rfl : args = #[v0] := by cases args; simp_all
  obtain ⟨s, rfl, hm⟩ := open_str (hval 0 _ v0 rfl rfl) h0
  exact quotes_any s W hL hm

theorem lexQuotes_row : Rows.LexQuotesSaid :=
  OpenClaim.holds_of_wide 4 Tryd.f4 rfl rfl rfl rfl rfl rfl rfl ⟨rfl, rfl, rfl, rfl, rfl⟩ rfl rfl rfl rfl rfl (by kernel_rfl) Tryd.func4 (by kernel_rfl)
    (of_decide_eq_true (by kernel_rfl)) (by unfold Func.isWrapper; first | (rw [if_pos (by decide +kernel)]; kernel_rfl) | (rw [if_neg (by decide +kernel)]; exact ⟨rfl, rfl⟩))
    (fun os started H enc _ => law_liftedL (f := Tryd.f4) (s := Rows.lexQuotesSpec) started Tryd.func4 (by kernel_rfl) (by rw [Tryd.params4]) rfl rfl
      (fun H ds h => by match ds, h with | [_], _ => rfl) (by kernel_rfl)
      (ChangeSpec.witness_shaped (enc := enc) (C := Tryd.checked) (os := os) (X := fun w _ => laidMetH Tryd.prog seatLaid w) false (World.doorLaid Tryd.prog 69 os) #[.string ⟨#[]⟩] 8 rfl (World.shaped_of_RefB (by kernel_rfl) (by kernel_rfl)) (by kernel_rfl) (by kernel_rfl) (by kernel_rfl) (door_met os _)) lexQuotes_walk)

theorem lexQuotes_holds : Rows.LexQuotesCardSaid :=
  Claim7.holds_tied_plain_at .later [] [.data, .data, .data, .handle, .sentinel, .sentinel] true (true, Rows.lexQuotesCard.stood.harness.2) true
    lexQuotes_row (fun _ h => by cases h) (by kernel_rfl) (fun _ h => by cases h) lexQuotes_row_tie rfl ⟨rfl, rfl⟩ (by kernel_rfl) rfl
    (fun f fn hf hfn => by
      obtain rfl : f = 4 := Option.some.inj ((show Tryd.prog.funcNamed "bushel/bushellaw04.LexQuotes" = some 4 by kernel_rfl).symm.trans hf) |>.symm
      obtain rfl : fn = Tryd.f4 := (Option.some.inj (Tryd.func4.symm.trans hfn)).symm
      exact ⟨by kernel_rfl, fun j t ht => by
        rw [Tryd.params4] at ht
        have h3 : t = 9 := by
          rcases j with _ | j
          · simpa using ht.symm
          · simp at ht
        subst h3
        exact (show Tryd.prog.wantsStandIn 9 = false by kernel_rfl)⟩)
    (by kernel_rfl)
#print axioms lexQuotes_holds
end Go.Proofs.YtmkkocfclejpgaaDoor
