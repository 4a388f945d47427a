/-
  Texts, by the document's answer.
-/
import Derived.Test.YtaglmmcjhlehjaaGreatDoorLexS
namespace Go.Proofs.YtaglmmcjhlehjaaGreatDoor
open Go.ChangeShapes Go.WideShapes Go.ChangeAt Go.RowKit
set_option linter.unusedVariables false
set_option linter.unusedSimpArgs false

set_option maxRecDepth 100000 in
set_option maxHeartbeats 6000000 in
theorem refTxt_any (A : Option Addr) (l : Str) (cp k : Nat) (w : World) (hr : Rd w 1 A l.length (u8s l)) (hk : k < l.length) (c : UInt8) (hck : l[k] = c) (hp : c.toNat = 34) (hm : l.length ≤ 1048576) :
    Calls Tryz.prog 119 #[.slice A l.length cp, .int .i64 (k : Int)] w fun e w' => RefOneRes (textR (txt (l.drop (k + 1)))) k w e w' := by
  obtain ⟨b, o, rfl, hb, hcl⟩ := hr.byte (k := k) hk
  have HM := Lib.hid (mk_newR w)
  have HT := Lib.hid (fun w' (hb' : Below w.heap.size w w') => refText_any _ l cp (k + 1) w' (hr.below hb') (by omega) hm)
  have g0 := cell_below HM.out.b (hcl k hk)
  rw [hck] at g0
  have e0' : (0 : Int) ≤ (k : Int) := by omega
  have e1 : (k : Int) < (l.length : Int) := by omega
  have HLO := Lib.hid (show lowB c = false by unfold lowB; rw [decide_eq_false_iff_not]; omega)
  have HHI := Lib.hid (show highB c = false by unfold highB; rw [decide_eq_false_iff_not]; omega)
  have HDI := Lib.hid (show digB c = false by unfold digB; rw [decide_eq_false_iff_not]; omega)
  have z4 : ((c.toNat : Int) == 34) = true := by rw [beq_iff_eq]; omega
  obtain ⟨r, hrr⟩ : ∃ r, txt (l.drop (k + 1)) = r := ⟨_, rfl⟩
  rw [hrr] at HT ⊢
  obtain ⟨ans, hans⟩ : ∃ ans, textR r = ans := ⟨_, rfl⟩
  rw [hans]
  have HANS := Lib.hid hans
  clear hrr hcl hr hck hp hans
  go_enter Tryz.func119, Tryz.ntmps119
  go_wp2_with fail
  generalize w.alloc zeroTokR = wa at *
  refine (refLow_any c wa).mono ?_
  rw [HLO.out]
  rintro e w1 ⟨rfl, rfl⟩
  go_wp2_with fail
  refine (refHigh_any c wa).mono ?_
  rw [HHI.out]
  rintro e w1 ⟨rfl, rfl⟩
  go_wp2_with fail
  refine (refDigit_any c wa).mono ?_
  rw [HDI.out]
  rintro e w1 ⟨rfl, rfl⟩
  go_wp2_with fail
  have HC := HT.out wa HM.out.b
  refine HC.mono ?_
  rintro e w2 ho
  cases r with
  | ok s n =>
    obtain ⟨rfl, hb2⟩ := ho
    have HM2 := Lib.hid (HM.out.below hb2)
    clear hb2 HC
    have hsz := bstr_size s
    by_cases h20 : 2000 < s.length
    · have hz : (2000 : Int) < ((bstr s).size : Int) := by omega
      have hres : textR (.ok s n) = .bad 0 := if_pos h20
      rw [HANS.out] at hres
      have HRES := Lib.hid hres
      clear hres h20 hsz
      have HM3 := Lib.hid (HM2.out.set (.int .i64 5) (.int .i64 (k : Int)) (.int .i64 0) (.string (bstr s)))
      obtain ⟨c0, c1, c2, c3, f0, f1, f2, f3⟩ := HM2.out.tc
      go_wp2_with fail
      obtain ⟨q0, q1, q2, q3, _, _, _, _⟩ := HM3.out.tc
      unfold set4 at q0 q1 q2 q3
      refine bodyPost_ret (v := .tuple #[.agg #[.int .i64 5, .int .i64 (k : Int), .int .i64 0, .string (bstr s)], .int .i64 ((k + 1 + n : Nat) : Int), .int .i64 (k : Int)]) (by simp [results, Tryz.results119, go_sem, q0, q1, q2, q3]; try omega) rfl ?_
      rw [HRES.out]
      exact ⟨_, _, _, _, _, rfl, HM3.out.b⟩
    · have hz : ¬ (2000 : Int) < ((bstr s).size : Int) := by omega
      have hres : textR (.ok s n) = .ok ⟨5, 0, s⟩ (n + 1) := if_neg h20
      rw [HANS.out] at hres
      have HRES := Lib.hid hres
      clear hres h20 hsz
      have HM3 := Lib.hid (HM2.out.set (.int .i64 5) (.int .i64 (k : Int)) (.int .i64 0) (.string (bstr s)))
      obtain ⟨c0, c1, c2, c3, f0, f1, f2, f3⟩ := HM2.out.tc
      go_wp2_with fail
      obtain ⟨q0, q1, q2, q3, _, _, _, _⟩ := HM3.out.tc
      unfold set4 at q0 q1 q2 q3
      refine bodyPost_ret (v := .tuple #[.agg #[.int .i64 5, .int .i64 (k : Int), .int .i64 0, .string (bstr s)], .int .i64 ((k + (n + 1) : Nat) : Int), .int .i64 (-1 : Int)]) (by simp [results, Tryz.results119, go_sem, q0, q1, q2, q3]; try omega) rfl ?_
      rw [HRES.out]
      exact ⟨rfl, HM3.out.b⟩
  | bad o =>
    obtain ⟨rfl, hb2⟩ := ho
    have HM2 := Lib.hid (HM.out.below hb2)
    have zz : ¬ ((k + 1 + o : Nat) : Int) < 0 := by omega
    clear hb2 HC
    have hres : textR (.bad o) = .bad (o + 1) := rfl
    rw [HANS.out] at hres
    have HRES := Lib.hid hres
    clear hres
    have HM3 := Lib.hid (HM2.out.set (.int .i64 5) (.int .i64 (k : Int)) (.int .i64 0) (.string (bstr [])))
    obtain ⟨c0, c1, c2, c3, f0, f1, f2, f3⟩ := HM2.out.tc
    go_wp2_with fail
    obtain ⟨q0, q1, q2, q3, _, _, _, _⟩ := HM3.out.tc
    unfold set4 at q0 q1 q2 q3
    refine bodyPost_ret (v := .tuple #[.agg #[.int .i64 5, .int .i64 (k : Int), .int .i64 0, .string (bstr [])], .int .i64 ((k + 1 + o : Nat) : Int), .int .i64 ((k + (o + 1) : Nat) : Int)]) (by simp [results, Tryz.results119, go_sem, q0, q1, q2, q3]; try omega) rfl ?_
    rw [HRES.out]
    exact ⟨_, _, _, _, _, rfl, HM3.out.b⟩
end Go.Proofs.YtaglmmcjhlehjaaGreatDoor
