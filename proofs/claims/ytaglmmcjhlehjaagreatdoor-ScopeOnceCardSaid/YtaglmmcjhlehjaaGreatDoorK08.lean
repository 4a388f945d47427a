/-
  Names and tags, by the document's answer.
-/
import Derived.Test.YtaglmmcjhlehjaaGreatDoorK07
namespace Go.Proofs.YtaglmmcjhlehjaaGreatDoor
open Go.ChangeShapes Go.WideShapes Go.ChangeAt Go.RowKit
set_option linter.unusedVariables false
set_option linter.unusedSimpArgs false

abbrev zeroTokR : Obj := .cells #[.int .i64 0, .int .i64 0, .int .i64 0, .string ⟨#[]⟩] 163
theorem mk_newR (w : World) : Mk0 w (w.alloc zeroTokR) := ⟨tc_new w _ _ _ _ _, (Below.refl _ _).alloc (Nat.le_refl _) _, by rw [World.size_alloc]; omega⟩
def RefOneRes (r : OneR) (k : Nat) (w : World) (e : Ending) (w' : World) : Prop :=
  match r with
  | .ok t n => e = .returned (.tuple #[tokV (t.put k), .int .i64 ((k + n : Nat) : Int), .int .i64 (-1)]) ∧ Below w.heap.size w w'
  | .bad o => ∃ (a0 a1 a2 : Int) (x : ByteArray) (to : Int), e = .returned (.tuple #[.agg #[.int .i64 a0, .int .i64 a1, .int .i64 a2, .string x], .int .i64 to, .int .i64 ((k + o : Nat) : Int)]) ∧ Below w.heap.size w w'
theorem TC.setO {w : World} {g h : Nat} {u0 u1 u2 u3 : Value} (t : TC w g u0 u1 u2 u3) (hne : h ≠ g) (j : Nat) (v : Value) : TC (w.setCell ⟨h, j, none⟩ v) g u0 u1 u2 u3 := by
  refine ⟨?_, ?_, ?_, ?_, ?_, ?_, ?_, ?_⟩
  · rw [World.cell?_setCell_other _ _ _ _ (by simp [hne.symm])]; exact t.c0
  · rw [World.cell?_setCell_other _ _ _ _ (by simp [hne.symm])]; exact t.c1
  · rw [World.cell?_setCell_other _ _ _ _ (by simp [hne.symm])]; exact t.c2
  · rw [World.cell?_setCell_other _ _ _ _ (by simp [hne.symm])]; exact t.c3
  · rw [World.frozen?_setCell]; exact t.f0
  · rw [World.frozen?_setCell]; exact t.f1
  · rw [World.frozen?_setCell]; exact t.f2
  · rw [World.frozen?_setCell]; exact t.f3
theorem Mk.setO {w0 w : World} {u0 u1 u2 u3 : Value} (m : Mk w0 w u0 u1 u2 u3) {h : Nat} (hlt : w0.heap.size < h) (j : Nat) (v : Value) : Mk w0 (w.setCell ⟨h, j, none⟩ v) u0 u1 u2 u3 :=
  ⟨m.tc.setO (by omega) j v, m.b.setCell (by exact Nat.le_of_lt hlt) v, by simpa [World.setCell] using m.lt⟩

set_option maxRecDepth 100000 in
set_option maxHeartbeats 6000000 in
theorem refName_any (A : Option Addr) (l : Str) (cp k : Nat) (w : World) (hr : Rd w 1 A l.length (u8s l)) (hk : k < l.length) (c : UInt8) (hck : l[k] = c) (hp : lowB c = true) (hcap : l.length ≤ cp) (hm : l.length ≤ 1048576) :
    Calls Tryz.prog 119 #[.slice A l.length cp, .int .i64 (k : Int)] w fun e w' => RefOneRes (nameR 1 ((l.drop k).takeWhile nameB)) k w e w' := by
  obtain ⟨b, o, rfl, hb, hcl⟩ := hr.byte (k := k) hk
  obtain ⟨s, hs⟩ : ∃ s, (l.drop k).takeWhile nameB = s := ⟨_, rfl⟩
  have he2 := endB_le nameB l k (by omega)
  have hks : endB nameB l k = k + s.length := by unfold endB; rw [hs]
  have htk : (l.drop k).take s.length = s := by
    have := tw_take (p := nameB) (l.drop k)
    rwa [hs] at this
  have hle : k + s.length ≤ l.length := by omega
  have hcv : ∀ w' c', Below w.heap.size w w' → (convert 61 9 (.slice (some ⟨b, o + k, none⟩) s.length c')).run Tryz.prog w' = .ok (.string (bstr s)) w' := fun w' c' hb' => by
    have := conv_part (hr.below hb') k s.length c' (by omega)
    rwa [htk] at this
  have HM := Lib.hid (mk_newR w)
  have HG := Lib.hid (show ∀ (q : Nat) (hq : q < l.length) w', Below w.heap.size w w' → w'.cell? ⟨b, o + q, none⟩ = some (.int .u8 (l[q].toNat : Int)) from fun q hq w' hb' => cell_below hb' (hcl q hq))
  rw [hs]
  obtain ⟨r, hrr⟩ : ∃ r, nameR 1 s = r := ⟨_, rfl⟩
  have HRR := Lib.hid hrr
  rw [hrr]
  have cv := hcv _ (cp - k) HM.out.b
  have g0 := HG.out k hk _ HM.out.b
  rw [hck] at g0
  have e0' : (0 : Int) ≤ (k : Int) := by omega
  have e1 : (k : Int) < (l.length : Int) := by omega
  have e3 : ¬ cp = k := by omega
  have hlo : lowB c = true := by exact hp
  have hhi : highB c = false := by unfold lowB at hp; have := of_decide_eq_true hp; unfold highB; rw [decide_eq_false_iff_not]; omega
  have hdi : digB c = false := by unfold lowB at hp; have := of_decide_eq_true hp; unfold digB; rw [decide_eq_false_iff_not]; omega
  have HLO := Lib.hid hlo
  have HHI := Lib.hid hhi
  have HDI := Lib.hid hdi
  clear hs he2 htk hcv hcl hr hck hp hlo hhi hdi hrr
  go_enter Tryz.func119, Tryz.ntmps119
  go_wp2_with fail
  generalize w.alloc zeroTokR = wa at *
  refine (refLow_any c wa).mono ?_
  rw [HLO.out]
  rintro e w1 ⟨rfl, rfl⟩
  go_wp2_with fail
  refine (refHigh_any c wa).mono ?_
  rw [HHI.out]
  rintro e w1 ⟨rfl, rfl⟩
  go_wp2_with fail
  refine (refDigit_any c wa).mono ?_
  rw [HDI.out]
  rintro e w1 ⟨rfl, rfl⟩
  go_wp2_with fail
  go_loop [8] (fun i => ∃ q : Nat, i = .int .i64 q ∧ k ≤ q ∧ q ≤ l.length ∧ endB nameB l q = endB nameB l k) (fun i => l.length - (intOf i).toNat)
  case atStart => exact ⟨k, rfl, Nat.le_refl _, by omega, rfl⟩
  case round =>
    obtain ⟨q, rfl, hkq, hq, he⟩ := hrel
    have HE := Lib.hid he
    clear he g0
    have z0 : (0 : Int) ≤ (q : Int) := by omega
    by_cases hlt : q < l.length
    · have z1 : (q : Int) < (l.length : Int) := by omega
      obtain ⟨d, hdk⟩ : ∃ d, l[q] = d := ⟨_, rfl⟩
      have gq := HG.out q hlt _ HM.out.b
      rw [hdk] at gq
      have HDK := Lib.hid hdk
      clear hdk
      cases h1 : lowB d with
      | true =>
        have HY := Lib.hid (endB_yes nameB l q hlt (by rw [HDK.out]; unfold nameB; rw [h1]; rfl))
        have H1 := Lib.hid h1
        clear h1
        go_wp2_with fail
        refine (refLow_any d wa).mono ?_
        rw [H1.out]
        rintro e w1 ⟨rfl, rfl⟩
        go_wp2_with fail
        go_round
        case rel => exact ⟨q + 1, by go_num, by omega, by omega, HY.out.trans HE.out⟩
        case measure => simp [intOf] <;> omega
      | false =>
        cases h2 : digB d with
        | true =>
          have HY := Lib.hid (endB_yes nameB l q hlt (by rw [HDK.out]; unfold nameB; rw [h1, h2]; simp))
          have H1 := Lib.hid h1
          have H2 := Lib.hid h2
          clear h1 h2
          go_wp2_with fail
          refine (refLow_any d wa).mono ?_
          rw [H1.out]
          rintro e w1 ⟨rfl, rfl⟩
          go_wp2_with fail
          refine (refDigit_any d wa).mono ?_
          rw [H2.out]
          rintro e w1 ⟨rfl, rfl⟩
          go_wp2_with fail
          go_round
          case rel => exact ⟨q + 1, by go_num, by omega, by omega, HY.out.trans HE.out⟩
          case measure => simp [intOf] <;> omega
        | false =>
          have hno := endB_no nameB l q hlt (by rw [HDK.out]; unfold nameB; rw [h1, h2]; rfl)
          rw [HE.out] at hno
          have H1 := Lib.hid h1
          have H2 := Lib.hid h2
          clear h1 h2
          obtain rfl : q = k + s.length := by omega
          clear hno
          go_wp2_with fail
          refine (refLow_any d wa).mono ?_
          rw [H1.out]
          rintro e w1 ⟨rfl, rfl⟩
          go_wp2_with fail
          refine (refDigit_any d wa).mono ?_
          rw [H2.out]
          rintro e w1 ⟨rfl, rfl⟩
          go_wp2_with fail
          refine (refIsWord_any s _).mono ?_
          cases hwb : isWordB s with
          | true =>
            have hn : nameR 1 s = if 20 < s.length then .bad 0 else .ok ⟨2, 0, s⟩ s.length := by unfold nameR; rw [hwb]; simp
            rw [HRR.out] at hn
            have HN := Lib.hid hn
            rintro e w2 ⟨rfl, hb2⟩
            have HM2 := Lib.hid ((HM.out.below ((Below.refl _ _).alloc (Nat.le_refl _) _)).below hb2)
            obtain ⟨r0, r1, r2, r3, e0, e1', e2', e3'⟩ := (tc_new wa (.int .i64 1) (.int .i64 (k : Int)) (.int .i64 0) (.string (bstr s)) 163).below hb2
            obtain ⟨c0, c1, c2, c3, f0, f1, f2, f3⟩ := HM2.out.tc
            have n1 : ¬ wa.heap.size = w.heap.size := by have := HM.out.lt; omega
            have n2 : ¬ w.heap.size = wa.heap.size := by have := HM.out.lt; omega
            clear hb2 hwb hn
            by_cases h20 : 20 < s.length
            · have h20i : (20 : Int) < ((k + s.length : Nat) : Int) - (k : Int) := by omega
              have HMS := Lib.hid (HM2.out.setO HM.out.lt 0 (.int .i64 2))
              have HM3 := Lib.hid (HMS.out.set (.int .i64 0) (.int .i64 0) (.int .i64 0) (.string ⟨#[]⟩))
              go_wp2_with fail
              obtain ⟨q0, q1, q2, q3, _, _, _, _⟩ := HM3.out.tc
              unfold set4 at q0 q1 q2 q3
              refine bodyPost_ret (v := .tuple #[.agg #[.int .i64 0, .int .i64 0, .int .i64 0, .string ⟨#[]⟩], .int .i64 ((k + s.length : Nat) : Int), .int .i64 (k : Int)]) (by simp [results, Tryz.results119, go_sem, q0, q1, q2, q3]) rfl ?_
              have hx := HN.out
              rw [if_pos h20] at hx
              rw [hx]
              exact ⟨0, 0, 0, ⟨#[]⟩, _, rfl, HM3.out.b⟩
            · have h20i : ¬ (20 : Int) < ((k + s.length : Nat) : Int) - (k : Int) := by omega
              have HMS := Lib.hid (HM2.out.setO HM.out.lt 0 (.int .i64 2))
              have HM3 := Lib.hid (HMS.out.set (.int .i64 2) (.int .i64 (k : Int)) (.int .i64 0) (.string (bstr s)))
              go_wp2_with fail
              obtain ⟨q0, q1, q2, q3, _, _, _, _⟩ := HM3.out.tc
              unfold set4 at q0 q1 q2 q3
              refine bodyPost_ret (v := .tuple #[tokV ⟨2, k, 0, s⟩, .int .i64 ((k + s.length : Nat) : Int), .int .i64 (-1)]) (by simp [results, Tryz.results119, go_sem, q0, q1, q2, q3, tokV]) rfl ?_
              have hx := HN.out
              rw [if_neg h20] at hx
              rw [hx]
              exact ⟨rfl, HM3.out.b⟩
          | false =>
            have hn : nameR 1 s = if 20 < s.length then .bad 0 else .ok ⟨1, 0, s⟩ s.length := by unfold nameR; rw [hwb]; simp
            rw [HRR.out] at hn
            have HN := Lib.hid hn
            rintro e w2 ⟨rfl, hb2⟩
            have HM2 := Lib.hid ((HM.out.below ((Below.refl _ _).alloc (Nat.le_refl _) _)).below hb2)
            obtain ⟨r0, r1, r2, r3, e0, e1', e2', e3'⟩ := (tc_new wa (.int .i64 1) (.int .i64 (k : Int)) (.int .i64 0) (.string (bstr s)) 163).below hb2
            obtain ⟨c0, c1, c2, c3, f0, f1, f2, f3⟩ := HM2.out.tc
            have n1 : ¬ wa.heap.size = w.heap.size := by have := HM.out.lt; omega
            have n2 : ¬ w.heap.size = wa.heap.size := by have := HM.out.lt; omega
            clear hb2 hwb hn
            by_cases h20 : 20 < s.length
            · have h20i : (20 : Int) < ((k + s.length : Nat) : Int) - (k : Int) := by omega
              have HMS := HM2
              have HM3 := Lib.hid (HMS.out.set (.int .i64 0) (.int .i64 0) (.int .i64 0) (.string ⟨#[]⟩))
              go_wp2_with fail
              obtain ⟨q0, q1, q2, q3, _, _, _, _⟩ := HM3.out.tc
              unfold set4 at q0 q1 q2 q3
              refine bodyPost_ret (v := .tuple #[.agg #[.int .i64 0, .int .i64 0, .int .i64 0, .string ⟨#[]⟩], .int .i64 ((k + s.length : Nat) : Int), .int .i64 (k : Int)]) (by simp [results, Tryz.results119, go_sem, q0, q1, q2, q3]) rfl ?_
              have hx := HN.out
              rw [if_pos h20] at hx
              rw [hx]
              exact ⟨0, 0, 0, ⟨#[]⟩, _, rfl, HM3.out.b⟩
            · have h20i : ¬ (20 : Int) < ((k + s.length : Nat) : Int) - (k : Int) := by omega
              have HMS := HM2
              have HM3 := Lib.hid (HMS.out.set (.int .i64 1) (.int .i64 (k : Int)) (.int .i64 0) (.string (bstr s)))
              go_wp2_with fail
              obtain ⟨q0, q1, q2, q3, _, _, _, _⟩ := HM3.out.tc
              unfold set4 at q0 q1 q2 q3
              refine bodyPost_ret (v := .tuple #[tokV ⟨1, k, 0, s⟩, .int .i64 ((k + s.length : Nat) : Int), .int .i64 (-1)]) (by simp [results, Tryz.results119, go_sem, q0, q1, q2, q3, tokV]) rfl ?_
              have hx := HN.out
              rw [if_neg h20] at hx
              rw [hx]
              exact ⟨rfl, HM3.out.b⟩
    · have z1 : ¬ (q : Int) < (l.length : Int) := by omega
      have hno := endB_end nameB l q (by omega)
      rw [HE.out] at hno
      obtain rfl : q = k + s.length := by omega
      clear hno
      go_wp2_with fail
      refine (refIsWord_any s _).mono ?_
      cases hwb : isWordB s with
      | true =>
        have hn : nameR 1 s = if 20 < s.length then .bad 0 else .ok ⟨2, 0, s⟩ s.length := by unfold nameR; rw [hwb]; simp
        rw [HRR.out] at hn
        have HN := Lib.hid hn
        rintro e w2 ⟨rfl, hb2⟩
        have HM2 := Lib.hid ((HM.out.below ((Below.refl _ _).alloc (Nat.le_refl _) _)).below hb2)
        obtain ⟨r0, r1, r2, r3, e0, e1', e2', e3'⟩ := (tc_new wa (.int .i64 1) (.int .i64 (k : Int)) (.int .i64 0) (.string (bstr s)) 163).below hb2
        obtain ⟨c0, c1, c2, c3, f0, f1, f2, f3⟩ := HM2.out.tc
        have n1 : ¬ wa.heap.size = w.heap.size := by have := HM.out.lt; omega
        have n2 : ¬ w.heap.size = wa.heap.size := by have := HM.out.lt; omega
        clear hb2 hwb hn
        by_cases h20 : 20 < s.length
        · have h20i : (20 : Int) < ((k + s.length : Nat) : Int) - (k : Int) := by omega
          have HMS := Lib.hid (HM2.out.setO HM.out.lt 0 (.int .i64 2))
          have HM3 := Lib.hid (HMS.out.set (.int .i64 0) (.int .i64 0) (.int .i64 0) (.string ⟨#[]⟩))
          go_wp2_with fail
          obtain ⟨q0, q1, q2, q3, _, _, _, _⟩ := HM3.out.tc
          unfold set4 at q0 q1 q2 q3
          refine bodyPost_ret (v := .tuple #[.agg #[.int .i64 0, .int .i64 0, .int .i64 0, .string ⟨#[]⟩], .int .i64 ((k + s.length : Nat) : Int), .int .i64 (k : Int)]) (by simp [results, Tryz.results119, go_sem, q0, q1, q2, q3]) rfl ?_
          have hx := HN.out
          rw [if_pos h20] at hx
          rw [hx]
          exact ⟨0, 0, 0, ⟨#[]⟩, _, rfl, HM3.out.b⟩
        · have h20i : ¬ (20 : Int) < ((k + s.length : Nat) : Int) - (k : Int) := by omega
          have HMS := Lib.hid (HM2.out.setO HM.out.lt 0 (.int .i64 2))
          have HM3 := Lib.hid (HMS.out.set (.int .i64 2) (.int .i64 (k : Int)) (.int .i64 0) (.string (bstr s)))
          go_wp2_with fail
          obtain ⟨q0, q1, q2, q3, _, _, _, _⟩ := HM3.out.tc
          unfold set4 at q0 q1 q2 q3
          refine bodyPost_ret (v := .tuple #[tokV ⟨2, k, 0, s⟩, .int .i64 ((k + s.length : Nat) : Int), .int .i64 (-1)]) (by simp [results, Tryz.results119, go_sem, q0, q1, q2, q3, tokV]) rfl ?_
          have hx := HN.out
          rw [if_neg h20] at hx
          rw [hx]
          exact ⟨rfl, HM3.out.b⟩
      | false =>
        have hn : nameR 1 s = if 20 < s.length then .bad 0 else .ok ⟨1, 0, s⟩ s.length := by unfold nameR; rw [hwb]; simp
        rw [HRR.out] at hn
        have HN := Lib.hid hn
        rintro e w2 ⟨rfl, hb2⟩
        have HM2 := Lib.hid ((HM.out.below ((Below.refl _ _).alloc (Nat.le_refl _) _)).below hb2)
        obtain ⟨r0, r1, r2, r3, e0, e1', e2', e3'⟩ := (tc_new wa (.int .i64 1) (.int .i64 (k : Int)) (.int .i64 0) (.string (bstr s)) 163).below hb2
        obtain ⟨c0, c1, c2, c3, f0, f1, f2, f3⟩ := HM2.out.tc
        have n1 : ¬ wa.heap.size = w.heap.size := by have := HM.out.lt; omega
        have n2 : ¬ w.heap.size = wa.heap.size := by have := HM.out.lt; omega
        clear hb2 hwb hn
        by_cases h20 : 20 < s.length
        · have h20i : (20 : Int) < ((k + s.length : Nat) : Int) - (k : Int) := by omega
          have HMS := HM2
          have HM3 := Lib.hid (HMS.out.set (.int .i64 0) (.int .i64 0) (.int .i64 0) (.string ⟨#[]⟩))
          go_wp2_with fail
          obtain ⟨q0, q1, q2, q3, _, _, _, _⟩ := HM3.out.tc
          unfold set4 at q0 q1 q2 q3
          refine bodyPost_ret (v := .tuple #[.agg #[.int .i64 0, .int .i64 0, .int .i64 0, .string ⟨#[]⟩], .int .i64 ((k + s.length : Nat) : Int), .int .i64 (k : Int)]) (by simp [results, Tryz.results119, go_sem, q0, q1, q2, q3]) rfl ?_
          have hx := HN.out
          rw [if_pos h20] at hx
          rw [hx]
          exact ⟨0, 0, 0, ⟨#[]⟩, _, rfl, HM3.out.b⟩
        · have h20i : ¬ (20 : Int) < ((k + s.length : Nat) : Int) - (k : Int) := by omega
          have HMS := HM2
          have HM3 := Lib.hid (HMS.out.set (.int .i64 1) (.int .i64 (k : Int)) (.int .i64 0) (.string (bstr s)))
          go_wp2_with fail
          obtain ⟨q0, q1, q2, q3, _, _, _, _⟩ := HM3.out.tc
          unfold set4 at q0 q1 q2 q3
          refine bodyPost_ret (v := .tuple #[tokV ⟨1, k, 0, s⟩, .int .i64 ((k + s.length : Nat) : Int), .int .i64 (-1)]) (by simp [results, Tryz.results119, go_sem, q0, q1, q2, q3, tokV]) rfl ?_
          have hx := HN.out
          rw [if_neg h20] at hx
          rw [hx]
          exact ⟨rfl, HM3.out.b⟩

set_option maxRecDepth 100000 in
set_option maxHeartbeats 6000000 in
theorem refTag_any (A : Option Addr) (l : Str) (cp k : Nat) (w : World) (hr : Rd w 1 A l.length (u8s l)) (hk : k < l.length) (c : UInt8) (hck : l[k] = c) (hp : highB c = true) (hcap : l.length ≤ cp) (hm : l.length ≤ 1048576) :
    Calls Tryz.prog 119 #[.slice A l.length cp, .int .i64 (k : Int)] w fun e w' => RefOneRes (nameR 3 ((l.drop k).takeWhile tagB)) k w e w' := by
  obtain ⟨b, o, rfl, hb, hcl⟩ := hr.byte (k := k) hk
  obtain ⟨s, hs⟩ : ∃ s, (l.drop k).takeWhile tagB = s := ⟨_, rfl⟩
  have he2 := endB_le tagB l k (by omega)
  have hks : endB tagB l k = k + s.length := by unfold endB; rw [hs]
  have htk : (l.drop k).take s.length = s := by
    have := tw_take (p := tagB) (l.drop k)
    rwa [hs] at this
  have hle : k + s.length ≤ l.length := by omega
  have hcv : ∀ w' c', Below w.heap.size w w' → (convert 61 9 (.slice (some ⟨b, o + k, none⟩) s.length c')).run Tryz.prog w' = .ok (.string (bstr s)) w' := fun w' c' hb' => by
    have := conv_part (hr.below hb') k s.length c' (by omega)
    rwa [htk] at this
  have HM := Lib.hid (mk_newR w)
  have HG := Lib.hid (show ∀ (q : Nat) (hq : q < l.length) w', Below w.heap.size w w' → w'.cell? ⟨b, o + q, none⟩ = some (.int .u8 (l[q].toNat : Int)) from fun q hq w' hb' => cell_below hb' (hcl q hq))
  rw [hs]
  obtain ⟨r, hrr⟩ : ∃ r, nameR 3 s = r := ⟨_, rfl⟩
  have HRR := Lib.hid hrr
  rw [hrr]
  have cv := hcv _ (cp - k) HM.out.b
  have g0 := HG.out k hk _ HM.out.b
  rw [hck] at g0
  have e0' : (0 : Int) ≤ (k : Int) := by omega
  have e1 : (k : Int) < (l.length : Int) := by omega
  have e3 : ¬ cp = k := by omega
  have hlo : lowB c = false := by unfold highB at hp; have := of_decide_eq_true hp; unfold lowB; rw [decide_eq_false_iff_not]; omega
  have hhi : highB c = true := by exact hp
  have hdi : digB c = false := by unfold highB at hp; have := of_decide_eq_true hp; unfold digB; rw [decide_eq_false_iff_not]; omega
  have HLO := Lib.hid hlo
  have HHI := Lib.hid hhi
  have HDI := Lib.hid hdi
  clear hs he2 htk hcv hcl hr hck hp hlo hhi hdi hrr
  go_enter Tryz.func119, Tryz.ntmps119
  go_wp2_with fail
  generalize w.alloc zeroTokR = wa at *
  refine (refLow_any c wa).mono ?_
  rw [HLO.out]
  rintro e w1 ⟨rfl, rfl⟩
  go_wp2_with fail
  refine (refHigh_any c wa).mono ?_
  rw [HHI.out]
  rintro e w1 ⟨rfl, rfl⟩
  go_wp2_with fail
  refine (refDigit_any c wa).mono ?_
  rw [HDI.out]
  rintro e w1 ⟨rfl, rfl⟩
  go_wp2_with fail
  go_loop [8] (fun i => ∃ q : Nat, i = .int .i64 q ∧ k ≤ q ∧ q ≤ l.length ∧ endB tagB l q = endB tagB l k) (fun i => l.length - (intOf i).toNat)
  case atStart => exact ⟨k, rfl, Nat.le_refl _, by omega, rfl⟩
  case round =>
    obtain ⟨q, rfl, hkq, hq, he⟩ := hrel
    have HE := Lib.hid he
    clear he g0
    have z0 : (0 : Int) ≤ (q : Int) := by omega
    by_cases hlt : q < l.length
    · have z1 : (q : Int) < (l.length : Int) := by omega
      obtain ⟨d, hdk⟩ : ∃ d, l[q] = d := ⟨_, rfl⟩
      have gq := HG.out q hlt _ HM.out.b
      rw [hdk] at gq
      have HDK := Lib.hid hdk
      clear hdk
      cases h1 : lowB d with
      | true =>
        have HY := Lib.hid (endB_yes tagB l q hlt (by rw [HDK.out]; unfold tagB; rw [h1]; simp))
        have H1 := Lib.hid h1
        clear h1
        go_wp2_with fail
        refine (refLow_any d wa).mono ?_
        rw [H1.out]
        rintro e w1 ⟨rfl, rfl⟩
        go_wp2_with fail
        go_round
        case rel => exact ⟨q + 1, by go_num, by omega, by omega, HY.out.trans HE.out⟩
        case measure => simp [intOf] <;> omega
      | false =>
        cases h2 : digB d with
        | true =>
          have HY := Lib.hid (endB_yes tagB l q hlt (by rw [HDK.out]; unfold tagB; rw [h1, h2]; simp))
          have H1 := Lib.hid h1
          have H2 := Lib.hid h2
          clear h1 h2
          go_wp2_with fail
          refine (refLow_any d wa).mono ?_
          rw [H1.out]
          rintro e w1 ⟨rfl, rfl⟩
          go_wp2_with fail
          refine (refDigit_any d wa).mono ?_
          rw [H2.out]
          rintro e w1 ⟨rfl, rfl⟩
          go_wp2_with fail
          go_round
          case rel => exact ⟨q + 1, by go_num, by omega, by omega, HY.out.trans HE.out⟩
          case measure => simp [intOf] <;> omega
        | false =>
          cases h3 : highB d with
          | true =>
            have HY := Lib.hid (endB_yes tagB l q hlt (by rw [HDK.out]; unfold tagB; rw [h1, h2, h3]; rfl))
            have H1 := Lib.hid h1
            have H2 := Lib.hid h2
            have H3 := Lib.hid h3
            clear h1 h2 h3
            go_wp2_with fail
            refine (refLow_any d wa).mono ?_
            rw [H1.out]
            rintro e w1 ⟨rfl, rfl⟩
            go_wp2_with fail
            refine (refDigit_any d wa).mono ?_
            rw [H2.out]
            rintro e w1 ⟨rfl, rfl⟩
            go_wp2_with fail
            refine (refHigh_any d wa).mono ?_
            rw [H3.out]
            rintro e w1 ⟨rfl, rfl⟩
            go_wp2_with fail
            go_round
            case rel => exact ⟨q + 1, by go_num, by omega, by omega, HY.out.trans HE.out⟩
            case measure => simp [intOf] <;> omega
          | false =>
            have hno := endB_no tagB l q hlt (by rw [HDK.out]; unfold tagB; rw [h1, h2, h3]; rfl)
            rw [HE.out] at hno
            have H1 := Lib.hid h1
            have H2 := Lib.hid h2
            have H3 := Lib.hid h3
            clear h1 h2 h3
            obtain rfl : q = k + s.length := by omega
            clear hno
            go_wp2_with fail
            refine (refLow_any d wa).mono ?_
            rw [H1.out]
            rintro e w1 ⟨rfl, rfl⟩
            go_wp2_with fail
            refine (refDigit_any d wa).mono ?_
            rw [H2.out]
            rintro e w1 ⟨rfl, rfl⟩
            go_wp2_with fail
            refine (refHigh_any d wa).mono ?_
            rw [H3.out]
            rintro e w1 ⟨rfl, rfl⟩
            go_wp2_with fail
            refine (refIsWord_any s _).mono ?_
            cases hwb : isWordB s with
            | true =>
              have hn : nameR 3 s = if 20 < s.length then .bad 0 else .ok ⟨3, 0, s⟩ s.length := by unfold nameR; rw [hwb]; simp
              rw [HRR.out] at hn
              have HN := Lib.hid hn
              rintro e w2 ⟨rfl, hb2⟩
              have HM2 := Lib.hid ((HM.out.below ((Below.refl _ _).alloc (Nat.le_refl _) _)).below hb2)
              obtain ⟨r0, r1, r2, r3, e0, e1', e2', e3'⟩ := (tc_new wa (.int .i64 1) (.int .i64 (k : Int)) (.int .i64 0) (.string (bstr s)) 163).below hb2
              obtain ⟨c0, c1, c2, c3, f0, f1, f2, f3⟩ := HM2.out.tc
              have n1 : ¬ wa.heap.size = w.heap.size := by have := HM.out.lt; omega
              have n2 : ¬ w.heap.size = wa.heap.size := by have := HM.out.lt; omega
              clear hb2 hwb hn
              by_cases h20 : 20 < s.length
              · have h20i : (20 : Int) < ((k + s.length : Nat) : Int) - (k : Int) := by omega
                have HMS := Lib.hid (HM2.out.setO HM.out.lt 0 (.int .i64 3))
                have HM3 := Lib.hid (HMS.out.set (.int .i64 0) (.int .i64 0) (.int .i64 0) (.string ⟨#[]⟩))
                go_wp2_with fail
                obtain ⟨q0, q1, q2, q3, _, _, _, _⟩ := HM3.out.tc
                unfold set4 at q0 q1 q2 q3
                refine bodyPost_ret (v := .tuple #[.agg #[.int .i64 0, .int .i64 0, .int .i64 0, .string ⟨#[]⟩], .int .i64 ((k + s.length : Nat) : Int), .int .i64 (k : Int)]) (by simp [results, Tryz.results119, go_sem, q0, q1, q2, q3]) rfl ?_
                have hx := HN.out
                rw [if_pos h20] at hx
                rw [hx]
                exact ⟨0, 0, 0, ⟨#[]⟩, _, rfl, HM3.out.b⟩
              · have h20i : ¬ (20 : Int) < ((k + s.length : Nat) : Int) - (k : Int) := by omega
                have HMS := Lib.hid (HM2.out.setO HM.out.lt 0 (.int .i64 3))
                have HM3 := Lib.hid (HMS.out.set (.int .i64 3) (.int .i64 (k : Int)) (.int .i64 0) (.string (bstr s)))
                go_wp2_with fail
                obtain ⟨q0, q1, q2, q3, _, _, _, _⟩ := HM3.out.tc
                unfold set4 at q0 q1 q2 q3
                refine bodyPost_ret (v := .tuple #[tokV ⟨3, k, 0, s⟩, .int .i64 ((k + s.length : Nat) : Int), .int .i64 (-1)]) (by simp [results, Tryz.results119, go_sem, q0, q1, q2, q3, tokV]) rfl ?_
                have hx := HN.out
                rw [if_neg h20] at hx
                rw [hx]
                exact ⟨rfl, HM3.out.b⟩
            | false =>
              have hn : nameR 3 s = if 20 < s.length then .bad 0 else .ok ⟨3, 0, s⟩ s.length := by unfold nameR; rw [hwb]; simp
              rw [HRR.out] at hn
              have HN := Lib.hid hn
              rintro e w2 ⟨rfl, hb2⟩
              have HM2 := Lib.hid ((HM.out.below ((Below.refl _ _).alloc (Nat.le_refl _) _)).below hb2)
              obtain ⟨r0, r1, r2, r3, e0, e1', e2', e3'⟩ := (tc_new wa (.int .i64 1) (.int .i64 (k : Int)) (.int .i64 0) (.string (bstr s)) 163).below hb2
              obtain ⟨c0, c1, c2, c3, f0, f1, f2, f3⟩ := HM2.out.tc
              have n1 : ¬ wa.heap.size = w.heap.size := by have := HM.out.lt; omega
              have n2 : ¬ w.heap.size = wa.heap.size := by have := HM.out.lt; omega
              clear hb2 hwb hn
              by_cases h20 : 20 < s.length
              · have h20i : (20 : Int) < ((k + s.length : Nat) : Int) - (k : Int) := by omega
                have HMS := Lib.hid (HM2.out.setO HM.out.lt 0 (.int .i64 3))
                have HM3 := Lib.hid (HMS.out.set (.int .i64 0) (.int .i64 0) (.int .i64 0) (.string ⟨#[]⟩))
                go_wp2_with fail
                obtain ⟨q0, q1, q2, q3, _, _, _, _⟩ := HM3.out.tc
                unfold set4 at q0 q1 q2 q3
                refine bodyPost_ret (v := .tuple #[.agg #[.int .i64 0, .int .i64 0, .int .i64 0, .string ⟨#[]⟩], .int .i64 ((k + s.length : Nat) : Int), .int .i64 (k : Int)]) (by simp [results, Tryz.results119, go_sem, q0, q1, q2, q3]) rfl ?_
                have hx := HN.out
                rw [if_pos h20] at hx
                rw [hx]
                exact ⟨0, 0, 0, ⟨#[]⟩, _, rfl, HM3.out.b⟩
              · have h20i : ¬ (20 : Int) < ((k + s.length : Nat) : Int) - (k : Int) := by omega
                have HMS := Lib.hid (HM2.out.setO HM.out.lt 0 (.int .i64 3))
                have HM3 := Lib.hid (HMS.out.set (.int .i64 3) (.int .i64 (k : Int)) (.int .i64 0) (.string (bstr s)))
                go_wp2_with fail
                obtain ⟨q0, q1, q2, q3, _, _, _, _⟩ := HM3.out.tc
                unfold set4 at q0 q1 q2 q3
                refine bodyPost_ret (v := .tuple #[tokV ⟨3, k, 0, s⟩, .int .i64 ((k + s.length : Nat) : Int), .int .i64 (-1)]) (by simp [results, Tryz.results119, go_sem, q0, q1, q2, q3, tokV]) rfl ?_
                have hx := HN.out
                rw [if_neg h20] at hx
                rw [hx]
                exact ⟨rfl, HM3.out.b⟩
    · have z1 : ¬ (q : Int) < (l.length : Int) := by omega
      have hno := endB_end tagB l q (by omega)
      rw [HE.out] at hno
      obtain rfl : q = k + s.length := by omega
      clear hno
      go_wp2_with fail
      refine (refIsWord_any s _).mono ?_
      cases hwb : isWordB s with
      | true =>
        have hn : nameR 3 s = if 20 < s.length then .bad 0 else .ok ⟨3, 0, s⟩ s.length := by unfold nameR; rw [hwb]; simp
        rw [HRR.out] at hn
        have HN := Lib.hid hn
        rintro e w2 ⟨rfl, hb2⟩
        have HM2 := Lib.hid ((HM.out.below ((Below.refl _ _).alloc (Nat.le_refl _) _)).below hb2)
        obtain ⟨r0, r1, r2, r3, e0, e1', e2', e3'⟩ := (tc_new wa (.int .i64 1) (.int .i64 (k : Int)) (.int .i64 0) (.string (bstr s)) 163).below hb2
        obtain ⟨c0, c1, c2, c3, f0, f1, f2, f3⟩ := HM2.out.tc
        have n1 : ¬ wa.heap.size = w.heap.size := by have := HM.out.lt; omega
        have n2 : ¬ w.heap.size = wa.heap.size := by have := HM.out.lt; omega
        clear hb2 hwb hn
        by_cases h20 : 20 < s.length
        · have h20i : (20 : Int) < ((k + s.length : Nat) : Int) - (k : Int) := by omega
          have HMS := Lib.hid (HM2.out.setO HM.out.lt 0 (.int .i64 3))
          have HM3 := Lib.hid (HMS.out.set (.int .i64 0) (.int .i64 0) (.int .i64 0) (.string ⟨#[]⟩))
          go_wp2_with fail
          obtain ⟨q0, q1, q2, q3, _, _, _, _⟩ := HM3.out.tc
          unfold set4 at q0 q1 q2 q3
          refine bodyPost_ret (v := .tuple #[.agg #[.int .i64 0, .int .i64 0, .int .i64 0, .string ⟨#[]⟩], .int .i64 ((k + s.length : Nat) : Int), .int .i64 (k : Int)]) (by simp [results, Tryz.results119, go_sem, q0, q1, q2, q3]) rfl ?_
          have hx := HN.out
          rw [if_pos h20] at hx
          rw [hx]
          exact ⟨0, 0, 0, ⟨#[]⟩, _, rfl, HM3.out.b⟩
        · have h20i : ¬ (20 : Int) < ((k + s.length : Nat) : Int) - (k : Int) := by omega
          have HMS := Lib.hid (HM2.out.setO HM.out.lt 0 (.int .i64 3))
          have HM3 := Lib.hid (HMS.out.set (.int .i64 3) (.int .i64 (k : Int)) (.int .i64 0) (.string (bstr s)))
          go_wp2_with fail
          obtain ⟨q0, q1, q2, q3, _, _, _, _⟩ := HM3.out.tc
          unfold set4 at q0 q1 q2 q3
          refine bodyPost_ret (v := .tuple #[tokV ⟨3, k, 0, s⟩, .int .i64 ((k + s.length : Nat) : Int), .int .i64 (-1)]) (by simp [results, Tryz.results119, go_sem, q0, q1, q2, q3, tokV]) rfl ?_
          have hx := HN.out
          rw [if_neg h20] at hx
          rw [hx]
          exact ⟨rfl, HM3.out.b⟩
      | false =>
        have hn : nameR 3 s = if 20 < s.length then .bad 0 else .ok ⟨3, 0, s⟩ s.length := by unfold nameR; rw [hwb]; simp
        rw [HRR.out] at hn
        have HN := Lib.hid hn
        rintro e w2 ⟨rfl, hb2⟩
        have HM2 := Lib.hid ((HM.out.below ((Below.refl _ _).alloc (Nat.le_refl _) _)).below hb2)
        obtain ⟨r0, r1, r2, r3, e0, e1', e2', e3'⟩ := (tc_new wa (.int .i64 1) (.int .i64 (k : Int)) (.int .i64 0) (.string (bstr s)) 163).below hb2
        obtain ⟨c0, c1, c2, c3, f0, f1, f2, f3⟩ := HM2.out.tc
        have n1 : ¬ wa.heap.size = w.heap.size := by have := HM.out.lt; omega
        have n2 : ¬ w.heap.size = wa.heap.size := by have := HM.out.lt; omega
        clear hb2 hwb hn
        by_cases h20 : 20 < s.length
        · have h20i : (20 : Int) < ((k + s.length : Nat) : Int) - (k : Int) := by omega
          have HMS := Lib.hid (HM2.out.setO HM.out.lt 0 (.int .i64 3))
          have HM3 := Lib.hid (HMS.out.set (.int .i64 0) (.int .i64 0) (.int .i64 0) (.string ⟨#[]⟩))
          go_wp2_with fail
          obtain ⟨q0, q1, q2, q3, _, _, _, _⟩ := HM3.out.tc
          unfold set4 at q0 q1 q2 q3
          refine bodyPost_ret (v := .tuple #[.agg #[.int .i64 0, .int .i64 0, .int .i64 0, .string ⟨#[]⟩], .int .i64 ((k + s.length : Nat) : Int), .int .i64 (k : Int)]) (by simp [results, Tryz.results119, go_sem, q0, q1, q2, q3]) rfl ?_
          have hx := HN.out
          rw [if_pos h20] at hx
          rw [hx]
          exact ⟨0, 0, 0, ⟨#[]⟩, _, rfl, HM3.out.b⟩
        · have h20i : ¬ (20 : Int) < ((k + s.length : Nat) : Int) - (k : Int) := by omega
          have HMS := Lib.hid (HM2.out.setO HM.out.lt 0 (.int .i64 3))
          have HM3 := Lib.hid (HMS.out.set (.int .i64 3) (.int .i64 (k : Int)) (.int .i64 0) (.string (bstr s)))
          go_wp2_with fail
          obtain ⟨q0, q1, q2, q3, _, _, _, _⟩ := HM3.out.tc
          unfold set4 at q0 q1 q2 q3
          refine bodyPost_ret (v := .tuple #[tokV ⟨3, k, 0, s⟩, .int .i64 ((k + s.length : Nat) : Int), .int .i64 (-1)]) (by simp [results, Tryz.results119, go_sem, q0, q1, q2, q3, tokV]) rfl ?_
          have hx := HN.out
          rw [if_neg h20] at hx
          rw [hx]
          exact ⟨rfl, HM3.out.b⟩

end Go.Proofs.YtaglmmcjhlehjaaGreatDoor
