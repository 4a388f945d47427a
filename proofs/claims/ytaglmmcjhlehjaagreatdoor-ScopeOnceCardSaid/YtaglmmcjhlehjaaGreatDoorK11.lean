/-
  Texts, by the document's answer.
  Signs, by the document's answer.
-/
import Derived.Test.YtaglmmcjhlehjaaGreatDoorK08
namespace Go.Proofs.YtaglmmcjhlehjaaGreatDoor
open Go.ChangeShapes Go.WideShapes Go.ChangeAt Go.RowKit
set_option linter.unusedVariables false
set_option linter.unusedSimpArgs false

set_option maxRecDepth 100000 in
set_option maxHeartbeats 6000000 in
theorem refTxt_any (A : Option Addr) (l : Str) (cp k : Nat) (w : World) (hr : Rd w 1 A l.length (u8s l)) (hk : k < l.length) (c : UInt8) (hck : l[k] = c) (hp : c.toNat = 34) (hm : l.length ≤ 1048576) :
    Calls Tryz.prog 119 #[.slice A l.length cp, .int .i64 (k : Int)] w fun e w' => RefOneRes (textR (txt (l.drop (k + 1)))) k w e w' := by
  obtain ⟨b, o, rfl, hb, hcl⟩ := hr.byte (k := k) hk
  have HM := Lib.hid (mk_newR w)
  have HT := Lib.hid (fun w' (hb' : Below w.heap.size w w') => refText_any _ l cp (k + 1) w' (hr.below hb') (by omega) hm)
  have g0 := cell_below HM.out.b (hcl k hk)
  rw [hck] at g0
  have e0' : (0 : Int) ≤ (k : Int) := by omega
  have e1 : (k : Int) < (l.length : Int) := by omega
  have HLO := Lib.hid (show lowB c = false by unfold lowB; rw [decide_eq_false_iff_not]; omega)
  have HHI := Lib.hid (show highB c = false by unfold highB; rw [decide_eq_false_iff_not]; omega)
  have HDI := Lib.hid (show digB c = false by unfold digB; rw [decide_eq_false_iff_not]; omega)
  have z4 : ((c.toNat : Int) == 34) = true := by rw [beq_iff_eq]; omega
  obtain ⟨r, hrr⟩ : ∃ r, txt (l.drop (k + 1)) = r := ⟨_, rfl⟩
  rw [hrr] at HT ⊢
  obtain ⟨ans, hans⟩ : ∃ ans, textR r = ans := ⟨_, rfl⟩
  rw [hans]
  have HANS := Lib.hid hans
  clear hrr hcl hr hck hp hans
  go_enter Tryz.func119, Tryz.ntmps119
  go_wp2_with fail
  generalize w.alloc zeroTokR = wa at *
  refine (refLow_any c wa).mono ?_
  rw [HLO.out]
  rintro e w1 ⟨rfl, rfl⟩
  go_wp2_with fail
  refine (refHigh_any c wa).mono ?_
  rw [HHI.out]
  rintro e w1 ⟨rfl, rfl⟩
  go_wp2_with fail
  refine (refDigit_any c wa).mono ?_
  rw [HDI.out]
  rintro e w1 ⟨rfl, rfl⟩
  go_wp2_with fail
  have HC := HT.out wa HM.out.b
  refine HC.mono ?_
  rintro e w2 ho
  cases r with
  | ok s n =>
    obtain ⟨rfl, hb2⟩ := ho
    have HM2 := Lib.hid (HM.out.below hb2)
    clear hb2 HC
    have hsz := bstr_size s
    by_cases h20 : 2000 < s.length
    · have hz : (2000 : Int) < ((bstr s).size : Int) := by omega
      have hres : textR (.ok s n) = .bad 0 := if_pos h20
      rw [HANS.out] at hres
      have HRES := Lib.hid hres
      clear hres h20 hsz
      have HM3 := Lib.hid (HM2.out.set (.int .i64 5) (.int .i64 (k : Int)) (.int .i64 0) (.string (bstr s)))
      obtain ⟨c0, c1, c2, c3, f0, f1, f2, f3⟩ := HM2.out.tc
      go_wp2_with fail
      obtain ⟨q0, q1, q2, q3, _, _, _, _⟩ := HM3.out.tc
      unfold set4 at q0 q1 q2 q3
      refine bodyPost_ret (v := .tuple #[.agg #[.int .i64 5, .int .i64 (k : Int), .int .i64 0, .string (bstr s)], .int .i64 ((k + 1 + n : Nat) : Int), .int .i64 (k : Int)]) (by simp [results, Tryz.results119, go_sem, q0, q1, q2, q3]; try omega) rfl ?_
      rw [HRES.out]
      exact ⟨_, _, _, _, _, rfl, HM3.out.b⟩
    · have hz : ¬ (2000 : Int) < ((bstr s).size : Int) := by omega
      have hres : textR (.ok s n) = .ok ⟨5, 0, s⟩ (n + 1) := if_neg h20
      rw [HANS.out] at hres
      have HRES := Lib.hid hres
      clear hres h20 hsz
      have HM3 := Lib.hid (HM2.out.set (.int .i64 5) (.int .i64 (k : Int)) (.int .i64 0) (.string (bstr s)))
      obtain ⟨c0, c1, c2, c3, f0, f1, f2, f3⟩ := HM2.out.tc
      go_wp2_with fail
      obtain ⟨q0, q1, q2, q3, _, _, _, _⟩ := HM3.out.tc
      unfold set4 at q0 q1 q2 q3
      refine bodyPost_ret (v := .tuple #[.agg #[.int .i64 5, .int .i64 (k : Int), .int .i64 0, .string (bstr s)], .int .i64 ((k + (n + 1) : Nat) : Int), .int .i64 (-1 : Int)]) (by simp [results, Tryz.results119, go_sem, q0, q1, q2, q3]; try omega) rfl ?_
      rw [HRES.out]
      exact ⟨rfl, HM3.out.b⟩
  | bad o =>
    obtain ⟨rfl, hb2⟩ := ho
    have HM2 := Lib.hid (HM.out.below hb2)
    have zz : ¬ ((k + 1 + o : Nat) : Int) < 0 := by omega
    clear hb2 HC
    have hres : textR (.bad o) = .bad (o + 1) := rfl
    rw [HANS.out] at hres
    have HRES := Lib.hid hres
    clear hres
    have HM3 := Lib.hid (HM2.out.set (.int .i64 5) (.int .i64 (k : Int)) (.int .i64 0) (.string (bstr [])))
    obtain ⟨c0, c1, c2, c3, f0, f1, f2, f3⟩ := HM2.out.tc
    go_wp2_with fail
    obtain ⟨q0, q1, q2, q3, _, _, _, _⟩ := HM3.out.tc
    unfold set4 at q0 q1 q2 q3
    refine bodyPost_ret (v := .tuple #[.agg #[.int .i64 5, .int .i64 (k : Int), .int .i64 0, .string (bstr [])], .int .i64 ((k + 1 + o : Nat) : Int), .int .i64 ((k + (o + 1) : Nat) : Int)]) (by simp [results, Tryz.results119, go_sem, q0, q1, q2, q3]; try omega) rfl ?_
    rw [HRES.out]
    exact ⟨_, _, _, _, _, rfl, HM3.out.b⟩
end Go.Proofs.YtaglmmcjhlehjaaGreatDoor

namespace Go.Proofs.YtaglmmcjhlehjaaGreatDoor
open Go.ChangeShapes Go.WideShapes Go.ChangeAt Go.RowKit
set_option linter.unusedVariables false
set_option linter.unusedSimpArgs false

def signsS : List Str := [[40], [41], [123], [125], [61], [46], [44], [124], [92], [43], [45], [42], [47], [60], [94], [35], [33], [59]]
theorem signsS_mem (c : UInt8) : decide ([c] ∈ signsS) = signB c := by
  unfold signB
  exact decide_eq_decide.2 (by simp [signsS, signsL])
set_option maxRecDepth 100000 in
set_option maxHeartbeats 6000000 in
theorem refSign_any (A : Option Addr) (l : Str) (cp k : Nat) (w : World) (hr : Rd w 1 A l.length (u8s l)) (hk : k < l.length) (c : UInt8) (hck : l[k] = c) (h1 : lowB c = false) (h2 : highB c = false) (h3 : digB c = false) (h4 : c.toNat ≠ 34) (hcap : l.length ≤ cp) (hm : l.length ≤ 1048576) :
    Calls Tryz.prog 119 #[.slice A l.length cp, .int .i64 (k : Int)] w fun e w' => RefOneRes (signR c (l.drop k)) k w e w' := by
  obtain ⟨b, o, rfl, hb, hc⟩ := hr.byte (k := k) hk
  have hcv : ∀ (m : Nat) w' c', k + m ≤ l.length → Below w.heap.size w w' → (convert 61 9 (.slice (some ⟨b, o + k, none⟩) m c')).run Tryz.prog w' = .ok (.string (bstr ((l.drop k).take m))) w' := fun m w' c' hm hb' => conv_part (hr.below hb') k m c' hm
  have HCV := Lib.hid hcv
  have HM := Lib.hid (mk_newR w)
  have HL1 := Lib.hid (show k + 1 ≤ l.length by omega)
  have g0 := cell_below HM.out.b (hc k hk)
  have HT1 := Lib.hid (show (l.drop k).take 1 = [c] by rw [List.drop_eq_getElem_cons hk, hck]; rfl)
  rw [hck] at g0
  have e0 : (0 : Int) ≤ (k : Int) := by omega
  have e1 : (k : Int) < (l.length : Int) := by omega
  have e3 : ¬ cp = k := by omega
  have e5 : (k : Int) + 1 ≤ (cp : Int) := by omega
  have HLO := Lib.hid h1
  have HHI := Lib.hid h2
  have HDI := Lib.hid h3
  have z4 : ((c.toNat : Int) == 34) = false := by rw [beq_eq_false_iff_ne]; omega
  clear hc hr hcv h1 h2 h3 h4
  have HCK := Lib.hid hck
  obtain ⟨ans, hans⟩ : ∃ ans, signR c (l.drop k) = ans := ⟨_, rfl⟩
  rw [hans]
  have HANS := Lib.hid hans
  clear hck hans
  go_enter Tryz.func119, Tryz.ntmps119
  go_wp2_with fail
  generalize w.alloc zeroTokR = wa at *
  refine (refLow_any c wa).mono ?_
  rw [HLO.out]
  rintro e w1 ⟨rfl, rfl⟩
  go_wp2_with fail
  refine (refHigh_any c wa).mono ?_
  rw [HHI.out]
  rintro e w1 ⟨rfl, rfl⟩
  go_wp2_with fail
  refine (refDigit_any c wa).mono ?_
  rw [HDI.out]
  rintro e w1 ⟨rfl, rfl⟩
  clear g0
  by_cases h2 : k + 1 < l.length
  · have h2i : (k : Int) + 1 < (l.length : Int) := by omega
    have cv2 := HCV.out 2 _ (cp - k) (by omega) HM.out.b
    obtain ⟨s2, hs2⟩ : ∃ s2, (l.drop k).take 2 = s2 := ⟨_, rfl⟩
    rw [hs2] at cv2
    have e4 : (k : Int) + 2 ≤ (cp : Int) := by omega
    by_cases hw : s2 ∈ twosL
    · have hres : signR c (l.drop k) = .ok ⟨6, 0, s2⟩ 2 := by unfold signR; rw [hs2, if_pos (show twoB s2 = true from decide_eq_true hw)]
      rw [HANS.out] at hres
      have HRES := Lib.hid hres
      clear hres hs2
      simp only [twosL, List.mem_cons, List.not_mem_nil, or_false] at hw
      rcases hw with rfl | rfl | rfl
      · have g1 : ((bstr [45, 62]).toList == [45, 62]) = true := by rw [bstr_toList]; decide
        have HM3 := Lib.hid (HM.out.set (.int .i64 6) (.int .i64 (k : Int)) (.int .i64 0) (.string (bstr [45, 62])))
        obtain ⟨c0, c1, c2, c3, f0, f1, f2, f3⟩ := HM.out.tc
        go_wp2_with fail
        obtain ⟨q0, q1, q2, q3, _, _, _, _⟩ := HM3.out.tc
        unfold set4 at q0 q1 q2 q3
        refine bodyPost_ret (v := .tuple #[tokV ⟨6, k, 0, [45, 62]⟩, .int .i64 ((k + 2 : Nat) : Int), .int .i64 (-1)]) (by simp [results, Tryz.results119, go_sem, q0, q1, q2, q3, tokV]) rfl ?_
        rw [HRES.out]
        exact ⟨rfl, HM3.out.b⟩
      · have g1 : ((bstr [61, 61]).toList == [45, 62]) = false := by rw [bstr_toList]; decide
        have g2 : ((bstr [61, 61]).toList == [61, 61]) = true := by rw [bstr_toList]; decide
        have HM3 := Lib.hid (HM.out.set (.int .i64 6) (.int .i64 (k : Int)) (.int .i64 0) (.string (bstr [61, 61])))
        obtain ⟨c0, c1, c2, c3, f0, f1, f2, f3⟩ := HM.out.tc
        go_wp2_with fail
        obtain ⟨q0, q1, q2, q3, _, _, _, _⟩ := HM3.out.tc
        unfold set4 at q0 q1 q2 q3
        refine bodyPost_ret (v := .tuple #[tokV ⟨6, k, 0, [61, 61]⟩, .int .i64 ((k + 2 : Nat) : Int), .int .i64 (-1)]) (by simp [results, Tryz.results119, go_sem, q0, q1, q2, q3, tokV]) rfl ?_
        rw [HRES.out]
        exact ⟨rfl, HM3.out.b⟩
      · have g1 : ((bstr [58, 61]).toList == [45, 62]) = false := by rw [bstr_toList]; decide
        have g2 : ((bstr [58, 61]).toList == [61, 61]) = false := by rw [bstr_toList]; decide
        have g3 : ((bstr [58, 61]).toList == [58, 61]) = true := by rw [bstr_toList]; decide
        have HM3 := Lib.hid (HM.out.set (.int .i64 6) (.int .i64 (k : Int)) (.int .i64 0) (.string (bstr [58, 61])))
        obtain ⟨c0, c1, c2, c3, f0, f1, f2, f3⟩ := HM.out.tc
        go_wp2_with fail
        obtain ⟨q0, q1, q2, q3, _, _, _, _⟩ := HM3.out.tc
        unfold set4 at q0 q1 q2 q3
        refine bodyPost_ret (v := .tuple #[tokV ⟨6, k, 0, [58, 61]⟩, .int .i64 ((k + 2 : Nat) : Int), .int .i64 (-1)]) (by simp [results, Tryz.results119, go_sem, q0, q1, q2, q3, tokV]) rfl ?_
        rw [HRES.out]
        exact ⟨rfl, HM3.out.b⟩
    · have HT2 := Lib.hid (show twoB ((l.drop k).take 2) = false by rw [hs2]; exact decide_eq_false hw)
      have g : ∀ t, t ∈ twosL → ((bstr s2).toList == t) = false := fun t ht => by
        rw [bstr_toList, beq_eq_false_iff_ne]
        rintro rfl
        exact hw ht
      have g1 := g [45, 62] (by decide)
      have g2 := g [61, 61] (by decide)
      have g3 := g [58, 61] (by decide)
      clear g hw hs2
      have cv1 := HCV.out 1 _ (cp - k) HL1.out HM.out.b
      rw [HT1.out] at cv1
      have HI := Lib.hid (in_any (some ⟨wa.heap.size, 0, none⟩) signsS 18 18 [c] (wa.alloc (.cells (strs signsS).toArray 9)) (Rd.lit wa (strs signsS).toArray 9 rfl) (by decide))
      go_wp2_with fail
      refine HI.out.mono ?_
      rw [signsS_mem]
      have HMA := Lib.hid (HM.out.below ((Below.refl _ _).alloc (Nat.le_refl _) (.cells (strs signsS).toArray 9)))
      generalize wa.alloc (.cells (strs signsS).toArray 9) = wb at *
      clear HI cv1
      cases hsg : signB c with
      | false =>
        have hres : signR c (l.drop k) = .bad 0 := by unfold signR; rw [if_neg (by rw [HT2.out]; simp), if_neg (by rw [hsg]; simp)]
        rw [HANS.out] at hres
        have HRES := Lib.hid hres
        rintro e w1 ⟨rfl, rfl⟩
        clear hsg hres
        have HM3 := Lib.hid (HMA.out.set (.int .i64 0) (.int .i64 0) (.int .i64 0) (.string ⟨#[]⟩))
        obtain ⟨c0, c1, c2, c3, f0, f1, f2, f3⟩ := HMA.out.tc
        go_wp2_with fail
        obtain ⟨q0, q1, q2, q3, _, _, _, _⟩ := HM3.out.tc
        unfold set4 at q0 q1 q2 q3
        refine bodyPost_ret (v := .tuple #[.agg #[.int .i64 0, .int .i64 0, .int .i64 0, .string ⟨#[]⟩], .int .i64 (k : Int), .int .i64 (k : Int)]) (by simp [results, Tryz.results119, go_sem, q0, q1, q2, q3]) rfl ?_
        rw [HRES.out]
        exact ⟨0, 0, 0, ⟨#[]⟩, _, rfl, HM3.out.b⟩
      | true =>
        have hres : signR c (l.drop k) = .ok ⟨6, 0, [c]⟩ 1 := by unfold signR; rw [if_neg (by rw [HT2.out]; simp), if_pos hsg]
        rw [HANS.out] at hres
        have HRES := Lib.hid hres
        rintro e w1 ⟨rfl, rfl⟩
        clear hsg hres
        have HM3 := Lib.hid (HMA.out.set (.int .i64 6) (.int .i64 (k : Int)) (.int .i64 0) (.string (bstr [c])))
        obtain ⟨c0, c1, c2, c3, f0, f1, f2, f3⟩ := HMA.out.tc
        go_wp2_with fail
        obtain ⟨q0, q1, q2, q3, _, _, _, _⟩ := HM3.out.tc
        unfold set4 at q0 q1 q2 q3
        refine bodyPost_ret (v := .tuple #[tokV ⟨6, k, 0, [c]⟩, .int .i64 ((k + 1 : Nat) : Int), .int .i64 (-1)]) (by simp [results, Tryz.results119, go_sem, q0, q1, q2, q3, tokV]) rfl ?_
        rw [HRES.out]
        exact ⟨rfl, HM3.out.b⟩
  · have h2i : ¬ (k : Int) + 1 < (l.length : Int) := by omega
    have HT2 := Lib.hid (show twoB ((l.drop k).take 2) = false by
      have e : (l.drop k).take 2 = [l[k]] := by rw [List.drop_eq_getElem_cons hk, List.drop_of_length_le (by omega)]; rfl
      rw [e]; unfold twoB; rw [decide_eq_false_iff_not]; simp [twosL])
    have g1 : ((⟨#[]⟩ : ByteArray).toList == [45, 62]) = false := by rw [show (⟨#[]⟩ : ByteArray) = bstr [] from rfl, bstr_toList]; decide
    have g2 : ((⟨#[]⟩ : ByteArray).toList == [61, 61]) = false := by rw [show (⟨#[]⟩ : ByteArray) = bstr [] from rfl, bstr_toList]; decide
    have g3 : ((⟨#[]⟩ : ByteArray).toList == [58, 61]) = false := by rw [show (⟨#[]⟩ : ByteArray) = bstr [] from rfl, bstr_toList]; decide
    have cv1 := HCV.out 1 _ (cp - k) HL1.out HM.out.b
    rw [HT1.out] at cv1
    have HI := Lib.hid (in_any (some ⟨wa.heap.size, 0, none⟩) signsS 18 18 [c] (wa.alloc (.cells (strs signsS).toArray 9)) (Rd.lit wa (strs signsS).toArray 9 rfl) (by decide))
    go_wp2_with fail
    refine HI.out.mono ?_
    rw [signsS_mem]
    have HMA := Lib.hid (HM.out.below ((Below.refl _ _).alloc (Nat.le_refl _) (.cells (strs signsS).toArray 9)))
    generalize wa.alloc (.cells (strs signsS).toArray 9) = wb at *
    clear HI cv1
    cases hsg : signB c with
    | false =>
      have hres : signR c (l.drop k) = .bad 0 := by unfold signR; rw [if_neg (by rw [HT2.out]; simp), if_neg (by rw [hsg]; simp)]
      rw [HANS.out] at hres
      have HRES := Lib.hid hres
      rintro e w1 ⟨rfl, rfl⟩
      clear hsg hres
      have HM3 := Lib.hid (HMA.out.set (.int .i64 0) (.int .i64 0) (.int .i64 0) (.string ⟨#[]⟩))
      obtain ⟨c0, c1, c2, c3, f0, f1, f2, f3⟩ := HMA.out.tc
      go_wp2_with fail
      obtain ⟨q0, q1, q2, q3, _, _, _, _⟩ := HM3.out.tc
      unfold set4 at q0 q1 q2 q3
      refine bodyPost_ret (v := .tuple #[.agg #[.int .i64 0, .int .i64 0, .int .i64 0, .string ⟨#[]⟩], .int .i64 (k : Int), .int .i64 (k : Int)]) (by simp [results, Tryz.results119, go_sem, q0, q1, q2, q3]) rfl ?_
      rw [HRES.out]
      exact ⟨0, 0, 0, ⟨#[]⟩, _, rfl, HM3.out.b⟩
    | true =>
      have hres : signR c (l.drop k) = .ok ⟨6, 0, [c]⟩ 1 := by unfold signR; rw [if_neg (by rw [HT2.out]; simp), if_pos hsg]
      rw [HANS.out] at hres
      have HRES := Lib.hid hres
      rintro e w1 ⟨rfl, rfl⟩
      clear hsg hres
      have HM3 := Lib.hid (HMA.out.set (.int .i64 6) (.int .i64 (k : Int)) (.int .i64 0) (.string (bstr [c])))
      obtain ⟨c0, c1, c2, c3, f0, f1, f2, f3⟩ := HMA.out.tc
      go_wp2_with fail
      obtain ⟨q0, q1, q2, q3, _, _, _, _⟩ := HM3.out.tc
      unfold set4 at q0 q1 q2 q3
      refine bodyPost_ret (v := .tuple #[tokV ⟨6, k, 0, [c]⟩, .int .i64 ((k + 1 : Nat) : Int), .int .i64 (-1)]) (by simp [results, Tryz.results119, go_sem, q0, q1, q2, q3, tokV]) rfl ?_
      rw [HRES.out]
      exact ⟨rfl, HM3.out.b⟩
end Go.Proofs.YtaglmmcjhlehjaaGreatDoor
