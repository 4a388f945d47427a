/-
  Names, words, tags.
-/
import Derived.Test.YtaglmmcjhlehjaaDoorLexB
namespace Go.Proofs.YtaglmmcjhlehjaaDoor
open Go.ChangeShapes Go.WideShapes Go.ChangeAt Go.RowKit
set_option linter.unusedVariables false
set_option linter.unusedSimpArgs false

abbrev zeroTok : Obj := .cells #[.int .i64 0, .int .i64 0, .int .i64 0, .string ⟨#[]⟩] 83
/-- What holds of the world while a token is made: its own block lies behind what was there. -/
structure Mk (w0 w : World) (u0 u1 u2 u3 : Value) : Prop where
  tc : TC w w0.heap.size u0 u1 u2 u3
  b : Below w0.heap.size w0 w
  lt : w0.heap.size < w.heap.size
abbrev Mk0 (w0 w : World) : Prop := Mk w0 w (.int .i64 0) (.int .i64 0) (.int .i64 0) (.string ⟨#[]⟩)
theorem mk_new (w : World) : Mk0 w (w.alloc zeroTok) := ⟨tc_new w _ _ _ _ _, (Below.refl _ _).alloc (Nat.le_refl _) _, by rw [World.size_alloc]; omega⟩
theorem Mk.below {w0 w w' : World} {u0 u1 u2 u3 : Value} (h : Mk w0 w u0 u1 u2 u3) (hb : Below w.heap.size w w') : Mk w0 w' u0 u1 u2 u3 := ⟨h.tc.below hb, below_then h.b hb, Nat.lt_of_lt_of_le h.lt hb.size⟩
theorem Mk.set {w0 w : World} {u0 u1 u2 u3 : Value} (h : Mk w0 w u0 u1 u2 u3) (v0 v1 v2 v3 : Value) : Mk w0 (set4 w w0.heap.size v0 v1 v2 v3) v0 v1 v2 v3 :=
  ⟨h.tc.set _ _ _ _, set4_below h.b (Nat.le_refl _) _ _ _ _, by unfold set4; simpa [World.setCell] using h.lt⟩

set_option maxRecDepth 100000 in
set_option maxHeartbeats 400000 in
theorem namedName_any (A : Option Addr) (l : Str) (cp k : Nat) (w : World) (hr : Rd w 1 A l.length (u8s l)) (hk : k < l.length) (hp : nameB l[k] = true) (hcap : l.length ≤ cp) (hm : l.length ≤ 1048576) :
    Calls Tryd.prog 55 #[.slice A l.length cp, .int .i64 (k : Int), .func (.func 56) #[] #[], .int .i64 1] w fun e w' => OneRes (nameR 1 ((l.drop k).takeWhile nameB)) k w e w' := by
  obtain ⟨b, o, rfl, hb, _⟩ := hr.byte (k := k) hk
  obtain ⟨s, hs⟩ : ∃ s, (l.drop k).takeWhile nameB = s := ⟨_, rfl⟩
  have hpos : 0 < s.length := by
    rw [← hs, List.drop_eq_getElem_cons hk]; exact tw_pos hp
  have he2 := endB_le nameB l k (by omega)
  have hks : endB nameB l k = k + s.length := by unfold endB; rw [hs]
  have htk : (l.drop k).take s.length = s := by
    have := tw_take (p := nameB) (l.drop k)
    rwa [hs] at this
  have hcv : ∀ w' c', Below w.heap.size w w' → (convert 36 9 (.slice (some ⟨b, o + k, none⟩) s.length c')).run Tryd.prog w' = .ok (.string (bstr s)) w' := fun w' c' hb' => by
    have := conv_part (hr.below hb') k s.length c' (by omega)
    rwa [htk] at this
  have HAF := Lib.hid (afterName_any (some ⟨b, o, none⟩) l cp k (w.alloc zeroTok) (hr.alloc _) (by omega) hm)
  have HCV := Lib.hid hcv
  have HM := Lib.hid (mk_new w)
  rw [hs]
  have hle : k + s.length ≤ l.length := by omega
  rw [hks] at HAF
  clear hs he2 hks htk hcv hr hp
  by_cases h20 : 20 < s.length
  · have hres : nameR 1 s = .bad 0 := by unfold nameR; rw [if_pos h20]
    rw [hres]
    have h20i : (20 : Int) < ((k + s.length : Nat) : Int) - (k : Int) := by omega
    clear hres
    go_enter Tryd.func55, Tryd.ntmps55
    go_wp2_with fail
    generalize w.alloc zeroTok = wa at *
    refine HAF.out.mono ?_
    rintro e w1 ⟨rfl, rfl⟩
    go_wp2_with fail
    refine (bad_any k wa).mono ?_
    rintro e w2 ⟨v, rfl, hv, hb2⟩
    have HV := Lib.hid hv
    have HM2 := Lib.hid (HM.out.below hb2)
    clear hv hb2
    obtain ⟨c0, c1, c2, c3, f0, f1, f2, f3⟩ := HM2.out.tc
    unfold tok0
    go_wp2_with fail
    have HM3 := Lib.hid (HM2.out.set (.int .i64 0) (.int .i64 0) (.int .i64 0) (.string ⟨#[]⟩))
    obtain ⟨q0, q1, q2, q3, _, _, _, _⟩ := HM3.out.tc
    unfold set4 at q0 q1 q2 q3
    refine bodyPost_ret (v := .tuple #[tok0, .int .i64 0, v]) (by simp [results, Tryd.results55, go_sem, q0, q1, q2, q3]; rfl) rfl ?_
    exact ⟨v, rfl, (HV.out.set4 HM.out.lt _ _ _ _).mono (Nat.le_of_lt HM.out.lt), HM3.out.b⟩
  · have h20i : ¬ (20 : Int) < ((k + s.length : Nat) : Int) - (k : Int) := by omega
    have e1 : (k : Int) ≤ ((k + s.length : Nat) : Int) := by omega
    have e2 : ((k + s.length : Nat) : Int) ≤ (l.length : Int) := by omega
    have e3 : ¬ cp = k := by omega
    have cv := HCV.out _ (cp - k) HM.out.b
    have hw : nameR 1 s = .ok ⟨if isWordB s = true then 2 else 1, 0, s⟩ s.length := by unfold nameR; rw [if_neg h20]; simp
    clear h20 hpos hle
    cases hb2 : isWordB s with
    | true =>
      rw [hb2, if_pos rfl] at hw
      rw [hw]
      have HWB := Lib.hid hb2
      clear hw hb2
      go_enter Tryd.func55, Tryd.ntmps55
      go_wp2_with fail
      generalize w.alloc zeroTok = wa at *
      refine HAF.out.mono ?_
      rintro e w1 ⟨rfl, rfl⟩
      go_wp2_with fail
      refine (isWord_any s wa).mono ?_
      rw [HWB.out]
      rintro e w1 ⟨rfl, rfl⟩
      have HM3 := Lib.hid (HM.out.set (.int .i64 2) (.int .i64 (k : Int)) (.int .i64 0) (.string (bstr s)))
      obtain ⟨c0, c1, c2, c3, f0, f1, f2, f3⟩ := HM.out.tc
      go_wp2_with fail
      obtain ⟨q0, q1, q2, q3, _, _, _, _⟩ := HM3.out.tc
      unfold set4 at q0 q1 q2 q3
      refine bodyPost_ret (v := .tuple #[tokV ⟨2, k, 0, s⟩, .int .i64 ((k + s.length : Nat) : Int), .nilIface]) (by simp [results, Tryd.results55, go_sem, q0, q1, q2, q3, tokV]) rfl ?_
      exact ⟨rfl, HM3.out.b⟩
    | false =>
      rw [hb2, if_neg (by simp)] at hw
      rw [hw]
      have HWB := Lib.hid hb2
      clear hw hb2
      go_enter Tryd.func55, Tryd.ntmps55
      go_wp2_with fail
      generalize w.alloc zeroTok = wa at *
      refine HAF.out.mono ?_
      rintro e w1 ⟨rfl, rfl⟩
      go_wp2_with fail
      refine (isWord_any s wa).mono ?_
      rw [HWB.out]
      rintro e w1 ⟨rfl, rfl⟩
      have HM3 := Lib.hid (HM.out.set (.int .i64 1) (.int .i64 (k : Int)) (.int .i64 0) (.string (bstr s)))
      obtain ⟨c0, c1, c2, c3, f0, f1, f2, f3⟩ := HM.out.tc
      go_wp2_with fail
      obtain ⟨q0, q1, q2, q3, _, _, _, _⟩ := HM3.out.tc
      unfold set4 at q0 q1 q2 q3
      refine bodyPost_ret (v := .tuple #[tokV ⟨1, k, 0, s⟩, .int .i64 ((k + s.length : Nat) : Int), .nilIface]) (by simp [results, Tryd.results55, go_sem, q0, q1, q2, q3, tokV]) rfl ?_
      exact ⟨rfl, HM3.out.b⟩
set_option maxRecDepth 100000 in
set_option maxHeartbeats 400000 in
theorem namedTag_any (A : Option Addr) (l : Str) (cp k : Nat) (w : World) (hr : Rd w 1 A l.length (u8s l)) (hk : k < l.length) (hp : tagB l[k] = true) (hcap : l.length ≤ cp) (hm : l.length ≤ 1048576) :
    Calls Tryd.prog 55 #[.slice A l.length cp, .int .i64 (k : Int), .func (.func 58) #[] #[], .int .i64 3] w fun e w' => OneRes (nameR 3 ((l.drop k).takeWhile tagB)) k w e w' := by
  obtain ⟨b, o, rfl, hb, _⟩ := hr.byte (k := k) hk
  obtain ⟨s, hs⟩ : ∃ s, (l.drop k).takeWhile tagB = s := ⟨_, rfl⟩
  have hpos : 0 < s.length := by
    rw [← hs, List.drop_eq_getElem_cons hk]; exact tw_pos hp
  have he2 := endB_le tagB l k (by omega)
  have hks : endB tagB l k = k + s.length := by unfold endB; rw [hs]
  have htk : (l.drop k).take s.length = s := by
    have := tw_take (p := tagB) (l.drop k)
    rwa [hs] at this
  have hcv : ∀ w' c', Below w.heap.size w w' → (convert 36 9 (.slice (some ⟨b, o + k, none⟩) s.length c')).run Tryd.prog w' = .ok (.string (bstr s)) w' := fun w' c' hb' => by
    have := conv_part (hr.below hb') k s.length c' (by omega)
    rwa [htk] at this
  have HAF := Lib.hid (afterTag_any (some ⟨b, o, none⟩) l cp k (w.alloc zeroTok) (hr.alloc _) (by omega) hm)
  have HCV := Lib.hid hcv
  have HM := Lib.hid (mk_new w)
  rw [hs]
  have hle : k + s.length ≤ l.length := by omega
  rw [hks] at HAF
  clear hs he2 hks htk hcv hr hp
  by_cases h20 : 20 < s.length
  · have hres : nameR 3 s = .bad 0 := by unfold nameR; rw [if_pos h20]
    rw [hres]
    have h20i : (20 : Int) < ((k + s.length : Nat) : Int) - (k : Int) := by omega
    clear hres
    go_enter Tryd.func55, Tryd.ntmps55
    go_wp2_with fail
    generalize w.alloc zeroTok = wa at *
    refine HAF.out.mono ?_
    rintro e w1 ⟨rfl, rfl⟩
    go_wp2_with fail
    refine (bad_any k wa).mono ?_
    rintro e w2 ⟨v, rfl, hv, hb2⟩
    have HV := Lib.hid hv
    have HM2 := Lib.hid (HM.out.below hb2)
    clear hv hb2
    obtain ⟨c0, c1, c2, c3, f0, f1, f2, f3⟩ := HM2.out.tc
    unfold tok0
    go_wp2_with fail
    have HM3 := Lib.hid (HM2.out.set (.int .i64 0) (.int .i64 0) (.int .i64 0) (.string ⟨#[]⟩))
    obtain ⟨q0, q1, q2, q3, _, _, _, _⟩ := HM3.out.tc
    unfold set4 at q0 q1 q2 q3
    refine bodyPost_ret (v := .tuple #[tok0, .int .i64 0, v]) (by simp [results, Tryd.results55, go_sem, q0, q1, q2, q3]; rfl) rfl ?_
    exact ⟨v, rfl, (HV.out.set4 HM.out.lt _ _ _ _).mono (Nat.le_of_lt HM.out.lt), HM3.out.b⟩
  · have h20i : ¬ (20 : Int) < ((k + s.length : Nat) : Int) - (k : Int) := by omega
    have e1 : (k : Int) ≤ ((k + s.length : Nat) : Int) := by omega
    have e2 : ((k + s.length : Nat) : Int) ≤ (l.length : Int) := by omega
    have e3 : ¬ cp = k := by omega
    have cv := HCV.out _ (cp - k) HM.out.b
    have hw : nameR 3 s = .ok ⟨3, 0, s⟩ s.length := by unfold nameR; rw [if_neg h20]; simp
    clear h20 hpos hle
    rw [hw]
    clear hw
    go_enter Tryd.func55, Tryd.ntmps55
    go_wp2_with fail
    generalize w.alloc zeroTok = wa at *
    refine HAF.out.mono ?_
    rintro e w1 ⟨rfl, rfl⟩
    have HM3 := Lib.hid (HM.out.set (.int .i64 3) (.int .i64 (k : Int)) (.int .i64 0) (.string (bstr s)))
    obtain ⟨c0, c1, c2, c3, f0, f1, f2, f3⟩ := HM.out.tc
    go_wp2_with fail
    obtain ⟨q0, q1, q2, q3, _, _, _, _⟩ := HM3.out.tc
    unfold set4 at q0 q1 q2 q3
    refine bodyPost_ret (v := .tuple #[tokV ⟨3, k, 0, s⟩, .int .i64 ((k + s.length : Nat) : Int), .nilIface]) (by simp [results, Tryd.results55, go_sem, q0, q1, q2, q3, tokV]) rfl ?_
    exact ⟨rfl, HM3.out.b⟩
end Go.Proofs.YtaglmmcjhlehjaaDoor
