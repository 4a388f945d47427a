/-
  The document's example, played.
-/
import Derived.Test.YtmkkocfclejpgaaDoorLexH
import Derived.Test.YtmkkocfclejpgaaDoorLexOf
import Derived.Lib.SlBytesConst
namespace Go.Proofs.YtmkkocfclejpgaaDoor
open Go.ChangeShapes Go.WideShapes Go.ChangeAt Go.RowKit
set_option linter.unusedVariables false
set_option linter.unusedSimpArgs false

theorem cut_ab : cutS [97, 45, 62, 98] 0 = .ok [⟨1, 0, 0, [97]⟩, ⟨6, 1, 0, [45, 62]⟩, ⟨1, 3, 0, [98]⟩] := by rfl
theorem cut_dollar : cutS [36] 0 = .bad 0 := by rfl

set_option maxRecDepth 100000 in
set_option maxHeartbeats 1000000 in
theorem up_any (w : World) (hL : Lay w) : Calls Tryd.prog 6 #[] w fun e w' => e = .returned (.bool true) ∧ Below w.heap.size w w' := by
  have hb1 : Below w.heap.size w (w.alloc (.cells #[.int .u8 97, .int .u8 45, .int .u8 62, .int .u8 98] 5 (4, 5))) := (Below.refl _ _).alloc (Nat.le_refl _) _
  have HC1 := Lib.hid (cut_any (some ⟨w.heap.size, 0, none⟩) [97, 45, 62, 98] 4 (w.alloc (.cells #[.int .u8 97, .int .u8 45, .int .u8 62, .int .u8 98] 5 (4, 5))) (hL.below hb1) (Rd.lit w #[.int .u8 97, .int .u8 45, .int .u8 62, .int .u8 98] 5 rfl) (by decide) (by decide))
  rw [cut_ab] at HC1
  have cvc := Lib.run_convert_bytes_const (P := Tryd.prog) w 22 5 #[.int .u8 97, .int .u8 45, .int .u8 62, .int .u8 98] 4 4 Tryd.underlying22 Tryd.underlying5
  have HL := Lib.hid hL
  have HB1 := Lib.hid hb1
  clear hL hb1
  go_enter Tryd.func6, Tryd.ntmps6
  go_wp2_with fail
  refine HC1.out.mono ?_
  rintro e w2 ⟨v, rfl, hown, _, hb2⟩
  obtain ⟨A1, c1, rfl, _⟩ := own_cap hown
  have hbw2 := below_then HB1.out hb2
  have hb3 : Below w2.heap.size w2 (w2.alloc (.cells #[.int .u8 36] 5 (1, 2))) := (Below.refl _ _).alloc (Nat.le_refl _) _
  have HRD := Lib.hid (And.intro ((Rd.of_own hown).below hb3) (below_then hbw2 hb3))
  have HC2 := Lib.hid (cut_any (some ⟨w2.heap.size, 0, none⟩) [36] 1 (w2.alloc (.cells #[.int .u8 36] 5 (1, 2))) ((HL.out.below hbw2).below hb3) (Rd.lit w2 #[.int .u8 36] 5 rfl) (by decide) (by decide))
  rw [cut_dollar] at HC2
  clear cvc hown hb2 hbw2 hb3
  have cvc := Lib.run_convert_bytes_const (P := Tryd.prog) w2 22 5 #[.int .u8 36] 1 1 Tryd.underlying22 Tryd.underlying5
  go_wp2_with fail
  refine HC2.out.mono ?_
  rintro e w3 ⟨v, rfl, hv, hb3⟩
  have H3 := Lib.hid (And.intro (HRD.out.1.below hb3) (below_then HRD.out.2 hb3))
  have HV := Lib.hid hv
  clear cvc hb3 hv
  go_wp2_with fail
  refine (of_spot v 0 w3 (HL.out.below H3.out.2) (HV.out.mono (Nat.zero_le _))).mono ?_
  rintro e w4 ⟨rfl, hb4⟩
  have h4 := H3.out.1.below hb4
  have HB4 := Lib.hid (below_then H3.out.2 hb4)
  obtain ⟨b, o, rfl, hbl, hc⟩ := h4.base (by decide)
  have g1 := hc 7 (.string (bstr [45, 62])) rfl
  have g2 := hc 9 (.int .i64 3) rfl
  have g3 : ((bstr [45, 62]).toList == [45, 62]) = true := by rw [bstr_toList]; decide
  clear h4 hb4 hc
  go_wp2_with fail
  go_returns
  exact ⟨rfl, HB4.out⟩
end Go.Proofs.YtmkkocfclejpgaaDoor
