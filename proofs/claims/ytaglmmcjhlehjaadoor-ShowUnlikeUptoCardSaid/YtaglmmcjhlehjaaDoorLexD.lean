/-
  Signs.
-/
import Derived.Test.YtaglmmcjhlehjaaDoorLexC
import Derived.Test.YtaglmmcjhlehjaaDoorShelf
namespace Go.Proofs.YtaglmmcjhlehjaaDoor
open Go.ChangeShapes Go.WideShapes Go.ChangeAt Go.RowKit
set_option linter.unusedVariables false
set_option linter.unusedSimpArgs false

theorem indexByte_neg : ∀ (l : Str) (c : UInt8), Lib.indexByte l c < 0 ↔ c ∉ l
  | [], c => by simp [Lib.indexByte]
  | b :: l, c => by
    have ih := indexByte_neg l c
    have hge := Lib.indexByte_ge l c
    unfold Lib.indexByte
    by_cases h : b = c
    · subst h; simp
    · rw [if_neg (by simpa using h)]
      split
      · rename_i h1
        have h1 : Lib.indexByte l c = -1 := by simpa using h1
        rw [h1] at ih
        have : c ∉ l := ih.1 (by omega)
        simp [this, show ¬ c = b from fun e => h e.symm]
      · rename_i h1
        have h1 : Lib.indexByte l c ≠ -1 := by simpa using h1
        have : ¬ c ∉ l := fun h2 => by have := ih.2 h2; omega
        simp only [List.mem_cons, not_or, Classical.not_not] at this ⊢
        constructor
        · intro h3; omega
        · intro h3; exact absurd this h3.2
theorem u8_back (c : UInt8) : ((c.toNat : Int).toNat).toUInt8 = c := by
  rw [Int.toNat_natCast]; exact UInt8.ofNat_toNat
theorem sign_index (c : UInt8) (b : Bool) (hb : signB c = b) (w : World) : Calls Tryd.prog 67 #[.string ⟨#[40, 41, 123, 125, 61, 46, 44, 124, 92, 43, 45, 42, 47, 60, 94, 35, 33, 59]⟩, .int .u8 (c.toNat : Int)] w fun e w' => ∃ i : Int, e = .returned (.int .i64 i) ∧ (b = true → ¬ i < 0) ∧ (b = false → i < 0) ∧ w = w' := by
  refine (Tryd.strings_IndexByte _ _ w).mono ?_
  rintro e w' ⟨rfl, rfl⟩
  have key : Lib.indexByte signsL c < 0 ↔ signB c = false := by
    rw [indexByte_neg]
    unfold signB
    simp
  rw [hb] at key
  refine ⟨_, rfl, ?_, ?_, rfl⟩
  · intro h
    rw [u8_back]
    show ¬ Lib.indexByte signsL c < 0
    rw [key, h]; simp
  · intro h
    rw [u8_back]
    exact key.2 h

set_option maxRecDepth 100000 in
set_option maxHeartbeats 1500000 in
theorem sign_any (A : Option Addr) (l : Str) (cp k : Nat) (w : World) (hr : Rd w 1 A l.length (u8s l)) (hk : k < l.length) (c : UInt8) (hck : l[k] = c) (hcap : l.length ≤ cp) (hm : l.length ≤ 1048576) :
    Calls Tryd.prog 62 #[.slice A l.length cp, .int .i64 (k : Int)] w fun e w' => OneRes (signR c (l.drop k)) k w e w' := by
  obtain ⟨b, o, rfl, hb, hc⟩ := hr.byte (k := k) hk
  have hcv : ∀ (m : Nat) w' c', k + m ≤ l.length → Below w.heap.size w w' → (convert 36 9 (.slice (some ⟨b, o + k, none⟩) m c')).run Tryd.prog w' = .ok (.string (bstr ((l.drop k).take m))) w' := fun m w' c' hm hb' => conv_part (hr.below hb') k m c' hm
  have HCV := Lib.hid hcv
  have HM := Lib.hid (mk_new w)
  have HL1 := Lib.hid (show k + 1 ≤ l.length by omega)
  have g0 := cell_alloc (o := zeroTok) (hc k hk)
  have HT1 := Lib.hid (show (l.drop k).take 1 = [c] by rw [List.drop_eq_getElem_cons hk, hck]; rfl)
  rw [hck] at g0
  have e0 : (0 : Int) ≤ (k : Int) := by omega
  have e1 : (k : Int) < (l.length : Int) := by omega
  have e3 : ¬ cp = k := by omega
  clear hc hr hcv
  have HCK := Lib.hid hck
  clear hck
  by_cases h2 : k + 1 < l.length
  · have h2i : (k : Int) + 1 < (l.length : Int) := by omega
    have ht : (l.drop k).take 2 = [l[k], l[k + 1]] := by
      rw [List.drop_eq_getElem_cons hk, List.drop_eq_getElem_cons h2]; rfl
    have cv2 := HCV.out 2 _ (cp - k) (by omega) HM.out.b
    obtain ⟨s2, hs2⟩ : ∃ s2, (l.drop k).take 2 = s2 := ⟨_, rfl⟩
    rw [hs2] at cv2
    have e4 : (k : Int) + 2 ≤ (cp : Int) := by omega
    clear ht
    by_cases hw : s2 ∈ twosL
    · have hres : signR c (l.drop k) = .ok ⟨6, 0, s2⟩ 2 := by unfold signR; rw [hs2, if_pos (show twoB s2 = true from decide_eq_true hw)]
      rw [hres]
      clear hres hs2
      simp only [twosL, List.mem_cons, List.not_mem_nil, or_false] at hw
      rcases hw with rfl | rfl | rfl
      · have g1 : ((bstr [45, 62]).toList == [45, 62]) = true := by rw [bstr_toList]; decide
        go_enter Tryd.func62, Tryd.ntmps62
        go_wp2_with fail
        refine bodyPost_ret (v := .tuple #[tokV ⟨6, k, 0, [45, 62]⟩, .int .i64 ((k + 2 : Nat) : Int), .nilIface]) (by simp [results, Tryd.results62, go_sem, tokV]) rfl ?_
        exact ⟨rfl, (Below.refl _ _).alloc (Nat.le_refl _) _⟩
      · have g1 : ((bstr [61, 61]).toList == [45, 62]) = false := by rw [bstr_toList]; decide
        have g2 : ((bstr [61, 61]).toList == [61, 61]) = true := by rw [bstr_toList]; decide
        go_enter Tryd.func62, Tryd.ntmps62
        go_wp2_with fail
        refine bodyPost_ret (v := .tuple #[tokV ⟨6, k, 0, [61, 61]⟩, .int .i64 ((k + 2 : Nat) : Int), .nilIface]) (by simp [results, Tryd.results62, go_sem, tokV]) rfl ?_
        exact ⟨rfl, (Below.refl _ _).alloc (Nat.le_refl _) _⟩
      · have g1 : ((bstr [58, 61]).toList == [45, 62]) = false := by rw [bstr_toList]; decide
        have g2 : ((bstr [58, 61]).toList == [61, 61]) = false := by rw [bstr_toList]; decide
        have g3 : ((bstr [58, 61]).toList == [58, 61]) = true := by rw [bstr_toList]; decide
        go_enter Tryd.func62, Tryd.ntmps62
        go_wp2_with fail
        refine bodyPost_ret (v := .tuple #[tokV ⟨6, k, 0, [58, 61]⟩, .int .i64 ((k + 2 : Nat) : Int), .nilIface]) (by simp [results, Tryd.results62, go_sem, tokV]) rfl ?_
        exact ⟨rfl, (Below.refl _ _).alloc (Nat.le_refl _) _⟩
    · have HT2 := Lib.hid (show twoB ((l.drop k).take 2) = false by rw [hs2]; exact decide_eq_false hw)
      have g : ∀ t, t ∈ twosL → ((bstr s2).toList == t) = false := fun t ht => by
        rw [bstr_toList, beq_eq_false_iff_ne]
        rintro rfl
        exact hw ht
      have g1 := g [45, 62] (by decide)
      have g2 := g [61, 61] (by decide)
      have g3 := g [58, 61] (by decide)
      clear g hw hs2
      cases hsg : signB c with
      | false =>
        have hres : signR c (l.drop k) = .bad 0 := by unfold signR; rw [if_neg (by rw [HT2.out]; simp), if_neg (by rw [hsg]; simp)]
        rw [hres]
        have HSG := Lib.hid hsg
        clear hsg hres
        go_enter Tryd.func62, Tryd.ntmps62
        go_wp2_with fail
        generalize w.alloc zeroTok = wa at *
        refine (sign_index c false HSG.out wa).mono ?_
        rintro e w1 ⟨i, rfl, _, hi, rfl⟩
        have hneg := hi rfl
        clear hi
        go_wp2_with fail
        refine (bad_any k wa).mono ?_
        rintro e w2 ⟨v, rfl, hv, hb2⟩
        have HV := Lib.hid hv
        have HM2 := Lib.hid (HM.out.below hb2)
        clear hv hb2
        obtain ⟨c0, c1, c2, c3, f0, f1, f2, f3⟩ := HM2.out.tc
        unfold tok0
        go_wp2_with fail
        have HM3 := Lib.hid (HM2.out.set (.int .i64 0) (.int .i64 0) (.int .i64 0) (.string ⟨#[]⟩))
        obtain ⟨q0, q1, q2, q3, _, _, _, _⟩ := HM3.out.tc
        unfold set4 at q0 q1 q2 q3
        refine bodyPost_ret (v := .tuple #[tok0, .int .i64 0, v]) (by simp [results, Tryd.results62, go_sem, q0, q1, q2, q3]; rfl) rfl ?_
        exact ⟨v, rfl, (HV.out.set4 HM.out.lt _ _ _ _).mono (Nat.le_of_lt HM.out.lt), HM3.out.b⟩
      | true =>
        have hres : signR c (l.drop k) = .ok ⟨6, 0, [c]⟩ 1 := by unfold signR; rw [if_neg (by rw [HT2.out]; simp), if_pos hsg]
        rw [hres]
        have HSG := Lib.hid hsg
        clear hsg hres
        have cv1 := HCV.out 1 _ (cp - k) HL1.out HM.out.b
        rw [HT1.out] at cv1
        go_enter Tryd.func62, Tryd.ntmps62
        go_wp2_with fail
        generalize w.alloc zeroTok = wa at *
        refine (sign_index c true HSG.out wa).mono ?_
        rintro e w1 ⟨i, rfl, hi, _, rfl⟩
        have hneg := hi rfl
        clear hi
        have HM3 := Lib.hid (HM.out.set (.int .i64 6) (.int .i64 (k : Int)) (.int .i64 0) (.string (bstr [c])))
        obtain ⟨c0, c1, c2, c3, f0, f1, f2, f3⟩ := HM.out.tc
        go_wp2_with fail
        obtain ⟨q0, q1, q2, q3, _, _, _, _⟩ := HM3.out.tc
        unfold set4 at q0 q1 q2 q3
        refine bodyPost_ret (v := .tuple #[tokV ⟨6, k, 0, [c]⟩, .int .i64 ((k + 1 : Nat) : Int), .nilIface]) (by simp [results, Tryd.results62, go_sem, q0, q1, q2, q3, tokV]) rfl ?_
        exact ⟨rfl, HM3.out.b⟩
  · have h2i : ¬ (k : Int) + 1 < (l.length : Int) := by omega
    have HT2 := Lib.hid (show twoB ((l.drop k).take 2) = false by
      have e : (l.drop k).take 2 = [l[k]] := by rw [List.drop_eq_getElem_cons hk, List.drop_of_length_le (by omega)]; rfl
      rw [e]; unfold twoB; rw [decide_eq_false_iff_not]; simp [twosL])
    cases hsg : signB c with
    | false =>
      have hres : signR c (l.drop k) = .bad 0 := by unfold signR; rw [if_neg (by rw [HT2.out]; simp), if_neg (by rw [hsg]; simp)]
      rw [hres]
      have HSG := Lib.hid hsg
      clear hsg hres
      go_enter Tryd.func62, Tryd.ntmps62
      go_wp2_with fail
      generalize w.alloc zeroTok = wa at *
      refine (sign_index c false HSG.out wa).mono ?_
      rintro e w1 ⟨i, rfl, _, hi, rfl⟩
      have hneg := hi rfl
      clear hi
      go_wp2_with fail
      refine (bad_any k wa).mono ?_
      rintro e w2 ⟨v, rfl, hv, hb2⟩
      have HV := Lib.hid hv
      have HM2 := Lib.hid (HM.out.below hb2)
      clear hv hb2
      obtain ⟨c0, c1, c2, c3, f0, f1, f2, f3⟩ := HM2.out.tc
      unfold tok0
      go_wp2_with fail
      have HM3 := Lib.hid (HM2.out.set (.int .i64 0) (.int .i64 0) (.int .i64 0) (.string ⟨#[]⟩))
      obtain ⟨q0, q1, q2, q3, _, _, _, _⟩ := HM3.out.tc
      unfold set4 at q0 q1 q2 q3
      refine bodyPost_ret (v := .tuple #[tok0, .int .i64 0, v]) (by simp [results, Tryd.results62, go_sem, q0, q1, q2, q3]; rfl) rfl ?_
      exact ⟨v, rfl, (HV.out.set4 HM.out.lt _ _ _ _).mono (Nat.le_of_lt HM.out.lt), HM3.out.b⟩
    | true =>
      have hres : signR c (l.drop k) = .ok ⟨6, 0, [c]⟩ 1 := by unfold signR; rw [if_neg (by rw [HT2.out]; simp), if_pos hsg]
      rw [hres]
      have HSG := Lib.hid hsg
      clear hsg hres
      have cv1 := HCV.out 1 _ (cp - k) HL1.out HM.out.b
      rw [HT1.out] at cv1
      go_enter Tryd.func62, Tryd.ntmps62
      go_wp2_with fail
      generalize w.alloc zeroTok = wa at *
      refine (sign_index c true HSG.out wa).mono ?_
      rintro e w1 ⟨i, rfl, hi, _, rfl⟩
      have hneg := hi rfl
      clear hi
      have HM3 := Lib.hid (HM.out.set (.int .i64 6) (.int .i64 (k : Int)) (.int .i64 0) (.string (bstr [c])))
      obtain ⟨c0, c1, c2, c3, f0, f1, f2, f3⟩ := HM.out.tc
      go_wp2_with fail
      obtain ⟨q0, q1, q2, q3, _, _, _, _⟩ := HM3.out.tc
      unfold set4 at q0 q1 q2 q3
      refine bodyPost_ret (v := .tuple #[tokV ⟨6, k, 0, [c]⟩, .int .i64 ((k + 1 : Nat) : Int), .nilIface]) (by simp [results, Tryd.results62, go_sem, q0, q1, q2, q3, tokV]) rfl ?_
      exact ⟨rfl, HM3.out.b⟩
end Go.Proofs.YtaglmmcjhlehjaaDoor
