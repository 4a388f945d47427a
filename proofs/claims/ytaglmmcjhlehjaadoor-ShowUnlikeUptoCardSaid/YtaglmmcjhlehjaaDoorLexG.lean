/-
  One token, and all tokens, by the code.
-/
import Derived.Test.YtaglmmcjhlehjaaDoorLexF
namespace Go.Proofs.YtaglmmcjhlehjaaDoor
open Go.ChangeShapes Go.WideShapes Go.ChangeAt Go.RowKit
set_option linter.unusedVariables false
set_option linter.unusedSimpArgs false

theorem OneRes.up {w wa w2 : World} {r : OneR} {k : Nat} {e : Ending} (h : OneRes r k wa e w2) (hm : Mk0 w wa) :
    ∃ v0 v1 v2 v3 n ev, e = .returned (.tuple #[.agg #[.int .i64 v0, .int .i64 v1, .int .i64 v2, .string v3], .int .i64 n, ev]) ∧ Mk0 w w2 ∧ OneRes r k w (.returned (.tuple #[.agg #[.int .i64 v0, .int .i64 v1, .int .i64 v2, .string v3], .int .i64 n, ev])) (set4 w2 w.heap.size (.int .i64 v0) (.int .i64 v1) (.int .i64 v2) (.string v3)) := by
  cases r with
  | ok t n =>
    obtain ⟨rfl, hb⟩ := h
    have hm2 := hm.below hb
    exact ⟨_, _, _, _, _, _, rfl, hm2, rfl, (hm2.set _ _ _ _).b⟩
  | bad o =>
    obtain ⟨v, rfl, hv, hb⟩ := h
    have hm2 := hm.below hb
    exact ⟨_, _, _, _, _, _, rfl, hm2, v, rfl, (hv.set4 hm.lt _ _ _ _).mono (Nat.le_of_lt hm.lt), (hm2.set _ _ _ _).b⟩

set_option maxRecDepth 100000 in
set_option maxHeartbeats 3000000 in
theorem next_any (A : Option Addr) (l : Str) (cp k : Nat) (w : World) (hL : Lay w) (hr : Rd w 1 A l.length (u8s l)) (hk : k < l.length) (hcap : l.length ≤ cp) (hm : l.length ≤ 1048576) :
    Calls Tryd.prog 51 #[.slice A l.length cp, .int .i64 (k : Int)] w fun e w' => OneRes (one (l.drop k)) k w e w' := by
  obtain ⟨c, hck⟩ : ∃ c, l[k] = c := ⟨_, rfl⟩
  obtain ⟨b, o, rfl, hb, hcl⟩ := hr.byte (k := k) hk
  have HM := Lib.hid (mk_new w)
  have g0 := cell_alloc (o := zeroTok) (hcl k hk)
  rw [hck] at g0
  have hd : l.drop k = c :: l.drop (k + 1) := by rw [List.drop_eq_getElem_cons hk, hck]
  have HN := Lib.hid (fun hp => namedName_any (some ⟨b, o, none⟩) l cp k (w.alloc zeroTok) (hr.alloc _) hk (by rw [hck]; exact hp) hcap hm)
  have HT := Lib.hid (fun hp => namedTag_any (some ⟨b, o, none⟩) l cp k (w.alloc zeroTok) (hr.alloc _) hk (by rw [hck]; exact hp) hcap hm)
  have HU := Lib.hid (fun hp => number_any (some ⟨b, o, none⟩) l cp k (w.alloc zeroTok) (hL.below (mk_new w).b) (hr.alloc _) hk c hck hp hcap hm)
  have HX := Lib.hid (text_any (some ⟨b, o, none⟩) l cp k (w.alloc zeroTok) (hr.alloc _) hk hcap hm)
  have HS := Lib.hid (sign_any (some ⟨b, o, none⟩) l cp k (w.alloc zeroTok) (hr.alloc _) hk c hck hcap hm)
  rw [hd] at HN HT HU HS ⊢
  rw [one_cons]
  have e0 : (0 : Int) ≤ (k : Int) := by omega
  have e1 : (k : Int) < (l.length : Int) := by omega
  have hnm : lowB c = true → nameB c = true := fun h => by unfold nameB; rw [h]; rfl
  have htg : highB c = true → tagB c = true := fun h => by unfold tagB; rw [h]; simp
  clear hcl hr hck hd hL
  cases h1 : lowB c with
  | true =>
    rw [if_pos rfl]
    have HC := Lib.hid (HN.out (hnm h1))
    have H1 := Lib.hid h1
    clear HN HT HU HX HS hnm htg h1
    obtain ⟨r, hrr⟩ : ∃ r, nameR 1 ((c :: l.drop (k + 1)).takeWhile nameB) = r := ⟨_, rfl⟩
    rw [hrr] at HC ⊢
    clear hrr
    go_enter Tryd.func51, Tryd.ntmps51
    go_wp2_with fail
    generalize w.alloc zeroTok = wa at *
    refine (isLower_any c wa).mono ?_
    rw [H1.out]
    rintro e w1 ⟨rfl, rfl⟩
    go_wp2_with fail
    refine HC.out.mono ?_
    rintro e w2 ho
    obtain ⟨v0, v1, v2, v3, n, ev, rfl, hm2, hres⟩ := ho.up HM.out
    have HRES := Lib.hid hres
    have HM3 := Lib.hid (hm2.set (.int .i64 v0) (.int .i64 v1) (.int .i64 v2) (.string v3))
    obtain ⟨c0, c1, c2, c3, f0, f1, f2, f3⟩ := hm2.tc
    clear ho hm2 hres
    go_wp2_with fail
    obtain ⟨q0, q1, q2, q3, _, _, _, _⟩ := HM3.out.tc
    unfold set4 at q0 q1 q2 q3
    refine bodyPost_ret (v := .tuple #[.agg #[.int .i64 v0, .int .i64 v1, .int .i64 v2, .string v3], .int .i64 n, ev]) (by simp [results, Tryd.results51, go_sem, q0, q1, q2, q3]) rfl ?_
    exact HRES.out
  | false =>
    rw [if_neg (by simp)]
    have H1 := Lib.hid h1
    clear h1 hnm HN
    cases h2 : highB c with
    | true =>
      rw [if_pos rfl]
      have HC := Lib.hid (HT.out (htg h2))
      have H2 := Lib.hid h2
      clear HT HU HX HS htg h2
      obtain ⟨r, hrr⟩ : ∃ r, nameR 3 ((c :: l.drop (k + 1)).takeWhile tagB) = r := ⟨_, rfl⟩
      rw [hrr] at HC ⊢
      clear hrr
      go_enter Tryd.func51, Tryd.ntmps51
      go_wp2_with fail
      generalize w.alloc zeroTok = wa at *
      refine (isLower_any c wa).mono ?_
      rw [H1.out]
      rintro e w1 ⟨rfl, rfl⟩
      go_wp2_with fail
      refine (isUpper_any c wa).mono ?_
      rw [H2.out]
      rintro e w1 ⟨rfl, rfl⟩
      go_wp2_with fail
      refine HC.out.mono ?_
      rintro e w2 ho
      obtain ⟨v0, v1, v2, v3, n, ev, rfl, hm2, hres⟩ := ho.up HM.out
      have HRES := Lib.hid hres
      have HM3 := Lib.hid (hm2.set (.int .i64 v0) (.int .i64 v1) (.int .i64 v2) (.string v3))
      obtain ⟨c0, c1, c2, c3, f0, f1, f2, f3⟩ := hm2.tc
      clear ho hm2 hres
      go_wp2_with fail
      obtain ⟨q0, q1, q2, q3, _, _, _, _⟩ := HM3.out.tc
      unfold set4 at q0 q1 q2 q3
      refine bodyPost_ret (v := .tuple #[.agg #[.int .i64 v0, .int .i64 v1, .int .i64 v2, .string v3], .int .i64 n, ev]) (by simp [results, Tryd.results51, go_sem, q0, q1, q2, q3]) rfl ?_
      exact HRES.out
    | false =>
      rw [if_neg (by simp)]
      have H2 := Lib.hid h2
      clear h2 htg HT
      cases h3 : digB c with
      | true =>
        rw [if_pos rfl]
        have HC := Lib.hid (HU.out h3)
        have H3 := Lib.hid h3
        clear HU HX HS h3
        obtain ⟨r, hrr⟩ : ∃ r, numR ((c :: l.drop (k + 1)).takeWhile digB) = r := ⟨_, rfl⟩
        rw [hrr] at HC ⊢
        clear hrr
        go_enter Tryd.func51, Tryd.ntmps51
        go_wp2_with fail
        generalize w.alloc zeroTok = wa at *
        refine (isLower_any c wa).mono ?_
        rw [H1.out]
        rintro e w1 ⟨rfl, rfl⟩
        go_wp2_with fail
        refine (isUpper_any c wa).mono ?_
        rw [H2.out]
        rintro e w1 ⟨rfl, rfl⟩
        go_wp2_with fail
        refine (isDigit_any c wa).mono ?_
        rw [H3.out]
        rintro e w1 ⟨rfl, rfl⟩
        go_wp2_with fail
        refine HC.out.mono ?_
        rintro e w2 ho
        obtain ⟨v0, v1, v2, v3, n, ev, rfl, hm2, hres⟩ := ho.up HM.out
        have HRES := Lib.hid hres
        have HM3 := Lib.hid (hm2.set (.int .i64 v0) (.int .i64 v1) (.int .i64 v2) (.string v3))
        obtain ⟨c0, c1, c2, c3, f0, f1, f2, f3⟩ := hm2.tc
        clear ho hm2 hres
        go_wp2_with fail
        obtain ⟨q0, q1, q2, q3, _, _, _, _⟩ := HM3.out.tc
        unfold set4 at q0 q1 q2 q3
        refine bodyPost_ret (v := .tuple #[.agg #[.int .i64 v0, .int .i64 v1, .int .i64 v2, .string v3], .int .i64 n, ev]) (by simp [results, Tryd.results51, go_sem, q0, q1, q2, q3]) rfl ?_
        exact HRES.out
      | false =>
        rw [if_neg (by simp)]
        have H3 := Lib.hid h3
        clear h3 HU
        by_cases h4 : c.toNat = 34
        · rw [if_pos h4]
          have HC := Lib.hid HX.out
          have z4 : ((c.toNat : Int) == 34) = true := by rw [beq_iff_eq]; omega
          clear HX HS h4
          obtain ⟨r, hrr⟩ : ∃ r, textR (txt (l.drop (k + 1))) = r := ⟨_, rfl⟩
          rw [hrr] at HC ⊢
          clear hrr
          go_enter Tryd.func51, Tryd.ntmps51
          go_wp2_with fail
          generalize w.alloc zeroTok = wa at *
          refine (isLower_any c wa).mono ?_
          rw [H1.out]
          rintro e w1 ⟨rfl, rfl⟩
          go_wp2_with fail
          refine (isUpper_any c wa).mono ?_
          rw [H2.out]
          rintro e w1 ⟨rfl, rfl⟩
          go_wp2_with fail
          refine (isDigit_any c wa).mono ?_
          rw [H3.out]
          rintro e w1 ⟨rfl, rfl⟩
          go_wp2_with fail
          refine HC.out.mono ?_
          rintro e w2 ho
          obtain ⟨v0, v1, v2, v3, n, ev, rfl, hm2, hres⟩ := ho.up HM.out
          have HRES := Lib.hid hres
          have HM3 := Lib.hid (hm2.set (.int .i64 v0) (.int .i64 v1) (.int .i64 v2) (.string v3))
          obtain ⟨c0, c1, c2, c3, f0, f1, f2, f3⟩ := hm2.tc
          clear ho hm2 hres
          go_wp2_with fail
          obtain ⟨q0, q1, q2, q3, _, _, _, _⟩ := HM3.out.tc
          unfold set4 at q0 q1 q2 q3
          refine bodyPost_ret (v := .tuple #[.agg #[.int .i64 v0, .int .i64 v1, .int .i64 v2, .string v3], .int .i64 n, ev]) (by simp [results, Tryd.results51, go_sem, q0, q1, q2, q3]) rfl ?_
          exact HRES.out
        · rw [if_neg h4]
          have HC := Lib.hid HS.out
          have z4 : ((c.toNat : Int) == 34) = false := by rw [beq_eq_false_iff_ne]; omega
          clear HX HS h4
          obtain ⟨r, hrr⟩ : ∃ r, signR c (c :: l.drop (k + 1)) = r := ⟨_, rfl⟩
          rw [hrr] at HC ⊢
          clear hrr
          go_enter Tryd.func51, Tryd.ntmps51
          go_wp2_with fail
          generalize w.alloc zeroTok = wa at *
          refine (isLower_any c wa).mono ?_
          rw [H1.out]
          rintro e w1 ⟨rfl, rfl⟩
          go_wp2_with fail
          refine (isUpper_any c wa).mono ?_
          rw [H2.out]
          rintro e w1 ⟨rfl, rfl⟩
          go_wp2_with fail
          refine (isDigit_any c wa).mono ?_
          rw [H3.out]
          rintro e w1 ⟨rfl, rfl⟩
          go_wp2_with fail
          refine HC.out.mono ?_
          rintro e w2 ho
          obtain ⟨v0, v1, v2, v3, n, ev, rfl, hm2, hres⟩ := ho.up HM.out
          have HRES := Lib.hid hres
          have HM3 := Lib.hid (hm2.set (.int .i64 v0) (.int .i64 v1) (.int .i64 v2) (.string v3))
          obtain ⟨c0, c1, c2, c3, f0, f1, f2, f3⟩ := hm2.tc
          clear ho hm2 hres
          go_wp2_with fail
          obtain ⟨q0, q1, q2, q3, _, _, _, _⟩ := HM3.out.tc
          unfold set4 at q0 q1 q2 q3
          refine bodyPost_ret (v := .tuple #[.agg #[.int .i64 v0, .int .i64 v1, .int .i64 v2, .string v3], .int .i64 n, ev]) (by simp [results, Tryd.results51, go_sem, q0, q1, q2, q3]) rfl ?_
          exact HRES.out
end Go.Proofs.YtaglmmcjhlehjaaDoor
