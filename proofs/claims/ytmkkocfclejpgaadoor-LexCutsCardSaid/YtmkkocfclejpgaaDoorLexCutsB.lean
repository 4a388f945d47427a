/-
  LexCuts: the law's walk.
-/
import Derived.Test.YtmkkocfclejpgaaDoorLexY
import Derived.Test.YtmkkocfclejpgaaDoorLexZ
import Derived.Test.YtmkkocfclejpgaaDoorLexUp
namespace Go.Proofs.YtmkkocfclejpgaaDoor
open Go.ChangeShapes Go.WideShapes Go.ChangeAt Go.RowKit
set_option linter.unusedVariables false
set_option linter.unusedSimpArgs false

theorem rd_none (w : World) : Rd w 4 none 0 (toks []) := Rd.of_own (base := 0) (e := 44) (c := 0) (World.ownsRow_nil _ _ _ _)
/-- As and Same, of the rows that both cut. -/
theorem as_none (w : World) : Calls Tryd.prog 11 #[.slice none 0 0] w fun e w' => ∃ A c, e = .returned (.slice A 0 c) ∧ Rd w' 4 A 0 (toks []) ∧ Below w.heap.size w w' := by
  refine (asTok_any none [] 0 0 w (rd_none w) rfl (by omega)).mono ?_
  rintro e w' ⟨v, rfl, hown, hb⟩
  obtain ⟨A, c, rfl, _⟩ := own_cap hown
  exact ⟨A, c, rfl, Rd.of_own hown, hb⟩
set_option maxRecDepth 100000 in
set_option maxHeartbeats 2000000 in
theorem cuts_any (l : Str) (A : Option Addr) (cp : Nat) (w : World) (hL : Lay w) (hr : Rd w 1 A l.length (u8s l)) (hcap : l.length ≤ cp) (hcm : cp ≤ maxLen) :
    Calls Tryd.prog 3 #[.slice A l.length cp] w fun e w' => e = .returned (.bool true) ∧ Below w.heap.size w w' := by
  have hcm' := hcm
  unfold maxLen at hcm
  have HL := Lib.hid hL
  have HR := Lib.hid hr
  clear hL hr
  by_cases h1 : 6000 < l.length
  · have h1i : (6000 : Int) < (l.length : Int) := by omega
    clear h1
    go_enter Tryd.func3, Tryd.ntmps3
    go_wp2_with fail
    refine (up_any w HL.out).mono ?_
    rintro e w1 ⟨rfl, hb1⟩
    go_wp2_with fail
    go_returns
    exact ⟨rfl, hb1⟩
  have h1i : ¬ (6000 : Int) < (l.length : Int) := by omega
  go_enter Tryd.func3, Tryd.ntmps3
  go_wp2_with fail
  refine (up_any w HL.out).mono ?_
  rintro e w1 ⟨rfl, hb1⟩
  have HB1 := Lib.hid hb1
  clear hb1
  go_wp2_with fail
  by_cases h4 : 4000 < l.length
  · refine (cut_long A l cp w1 h4 (Nat.le_trans hcap hcm')).mono ?_
    rintro e w2 ⟨rfl, hb2⟩
    have HB2 := Lib.hid (below_then HB1.out hb2)
    clear hb2
    go_wp2_with fail
    refine (refCut_long A l cp w2 h4 (Nat.le_trans hcap hcm')).mono ?_
    rintro e w3 ⟨rfl, hb3⟩
    have HB3 := Lib.hid (below_then HB2.out hb3)
    clear hb3
    go_wp2_with fail
    refine (of_code 6 w3 (HL.out.below HB3.out)).mono ?_
    rintro e w4 ⟨rfl, hb4⟩
    have HB4 := Lib.hid (below_then HB3.out hb4)
    rw [show codeN 6 = 6 from by decide]
    clear hb4
    go_wp2_with fail
    refine (as_none w4).mono ?_
    rintro e w5 ⟨A5, c5, rfl, hrd5, hb5⟩
    have HR5 := Lib.hid hrd5
    have HB5 := Lib.hid hb5
    clear hrd5 hb5
    go_wp2_with fail
    refine (sameTok_any A5 none [] [] 0 0 c5 0 w5 HR5.out (rd_none w5) rfl rfl (by omega) (by omega) rfl).mono ?_
    rintro e w6 ⟨rfl, hb6⟩
    have HB6 := Lib.hid (below_then HB4.out (below_then HB5.out hb6))
    clear hb6
    go_wp2_with fail
    go_returns
    exact ⟨rfl, HB6.out⟩
  · have HCT := Lib.hid (cut_any A l cp w1 (HL.out.below HB1.out) (HR.out.below HB1.out) hcap (by omega))
    obtain ⟨r, hrr⟩ : ∃ r, cutS l 0 = r := ⟨_, rfl⟩
    have HRC := Lib.hid (fun w' (hb' : Below w.heap.size w w') => refCut_any A l cp w' (HR.out.below hb') hcap (by omega))
    rw [hrr] at HCT HRC
    refine HCT.out.mono ?_
    rintro e w2 hc
    clear hrr HCT
    cases r with
    | bad p =>
      obtain ⟨v, rfl, ⟨g, hg, rfl, k0, k1⟩, hb2⟩ := hc
      have HB2 := Lib.hid (below_then HB1.out hb2)
      have HK := Lib.hid (And.intro k0 k1)
      clear hg k0 k1 hb2
      go_wp2_with fail
      refine (HRC.out w2 HB2.out).mono ?_
      rintro e w3 ⟨rfl, hb3⟩
      have HB3 := Lib.hid (below_then HB2.out hb3)
      have HOF := Lib.hid (fun v hv => of_spot v p w3 (HL.out.below HB3.out) hv)
      have HE := Lib.hid (And.intro (cell_below hb3 HK.out.1) (cell_below hb3 HK.out.2))
      have z1 : ((p : Int) == (p : Int)) = true := by simp
      clear hb3 HRC
      go_wp2_with fail
      refine (HOF.out _ ⟨g, Nat.zero_le _, rfl, HE.out.1, HE.out.2⟩).mono ?_
      rintro e w4 ⟨rfl, hb4⟩
      have HB4 := Lib.hid (below_then HB3.out hb4)
      clear hb4 HOF
      go_wp2_with fail
      refine (as_none w4).mono ?_
      rintro e w5 ⟨A5, c5, rfl, hrd5, hb5⟩
      have HR5 := Lib.hid hrd5
      have HB5 := Lib.hid hb5
      clear hrd5 hb5
      go_wp2_with fail
      refine (sameTok_any A5 none [] [] 0 0 c5 0 w5 HR5.out (rd_none w5) rfl rfl (by omega) (by omega) rfl).mono ?_
      rintro e w6 ⟨rfl, hb6⟩
      have HB6 := Lib.hid (below_then HB4.out (below_then HB5.out hb6))
      clear hb6
      go_wp2_with fail
      go_returns
      exact ⟨rfl, HB6.out⟩
    | ok ts =>
      obtain ⟨v, rfl, hown, hlen, hb2⟩ := hc
      obtain ⟨A2, c2, rfl, _⟩ := own_cap hown
      have HR2 := Lib.hid (Rd.of_own hown)
      have HB2 := Lib.hid (below_then HB1.out hb2)
      clear hown hb2
      go_wp2_with fail
      refine (HRC.out w2 HB2.out).mono ?_
      rintro e w3 ⟨v3, rfl, hown3, _, hb3⟩
      obtain ⟨A3, c3, rfl, _⟩ := own_cap hown3
      have HR3 := Lib.hid (Rd.of_own hown3)
      have HB3 := Lib.hid (below_then HB2.out hb3)
      have HR23 := Lib.hid (HR2.out.below hb3)
      clear hown3 hb3 HRC
      go_wp2_with fail
      refine (of_nil w3).mono ?_
      rintro e w4 ⟨rfl, hb4⟩
      have HB4 := Lib.hid (below_then HB3.out hb4)
      have HR24 := Lib.hid (HR23.out.below hb4)
      have HR34 := Lib.hid (HR3.out.below hb4)
      have HAS := Lib.hid (show Calls Tryd.prog 11 #[.slice A2 ts.length c2] w4 fun e w' => ∃ A c, e = .returned (.slice A ts.length c) ∧ Rd w' 4 A ts.length (toks ts) ∧ Below w4.heap.size w4 w' by
        refine (asTok_any A2 ts ts.length c2 w4 HR24.out rfl hlen).mono ?_
        rintro e w' ⟨v, rfl, hown, hb⟩
        obtain ⟨A, c, rfl, _⟩ := own_cap hown
        exact ⟨A, c, rfl, Rd.of_own hown, hb⟩)
      clear hb4
      go_wp2_with fail
      refine (HAS.out).mono ?_
      rintro e w5 ⟨A5, c5, rfl, hrd5, hb5⟩
      have HR5 := Lib.hid hrd5
      have HB5 := Lib.hid hb5
      clear hrd5 hb5
      go_wp2_with fail
      refine (sameTok_any A5 A3 ts ts ts.length ts.length c5 c3 w5 HR5.out (HR34.out.below HB5.out) rfl rfl hlen hlen rfl).mono ?_
      rintro e w6 ⟨rfl, hb6⟩
      have HB6 := Lib.hid (below_then HB4.out (below_then HB5.out hb6))
      clear hb6
      go_wp2_with fail
      go_returns
      exact ⟨rfl, HB6.out⟩
end Go.Proofs.YtmkkocfclejpgaaDoor
