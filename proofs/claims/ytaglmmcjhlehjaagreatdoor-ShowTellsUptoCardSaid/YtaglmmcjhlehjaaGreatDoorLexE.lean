/-
  Numbers.
-/
import Derived.Test.YtaglmmcjhlehjaaGreatDoorLexD
namespace Go.Proofs.YtaglmmcjhlehjaaGreatDoor
open Go.ChangeShapes Go.WideShapes Go.ChangeAt Go.RowKit
set_option linter.unusedVariables false
set_option linter.unusedSimpArgs false

theorem parseM_digits (M : Nat) : ∀ (ds : Str) (acc : Nat), (∀ c ∈ ds, digB c = true) → Lib.parseUintM M acc ds = .range ∨ ∃ u, Lib.parseUintM M acc ds = .ok u
  | [], acc, h => .inr ⟨_, by rw [Lib.parseUintM]⟩
  | c :: r, acc, h => by
    have hc := of_decide_eq_true (h c (by simp))
    unfold Lib.parseUintM
    rw [if_pos hc]
    split
    · exact .inl rfl
    · split
      · exact .inl rfl
      · exact parseM_digits M r _ (fun d hd => h d (by simp [hd]))
theorem parse_digits (ds : Str) (h : ∀ c ∈ ds, digB c = true) (h0 : ds ≠ []) : (∃ v, Lib.parseIntB 64 ds = .ok v) ∨ Lib.parseIntB 64 ds = .range := by
  cases ds with
  | nil => exact absurd rfl h0
  | cons c r =>
    have hc := of_decide_eq_true (h c (by simp))
    have hn : ¬ (c.toNat = 43 ∨ c.toNat = 45) := by omega
    have hs := parseM_digits (2 ^ 64 - 1) (c :: r) 0 h
    unfold Lib.parseIntB
    simp only
    rw [if_neg hn]
    unfold Lib.parseUintB
    rw [if_neg (by simp)]
    rcases hs with hp | ⟨u, hp⟩
    · rw [hp]; exact .inr rfl
    · rw [hp]
      simp only
      split
      · exact .inr rfl
      · split
        · exact .inr rfl
        · exact .inl ⟨_, rfl⟩
theorem tw_all {p : UInt8 → Bool} : ∀ (l : Str), ∀ c ∈ l.takeWhile p, p c = true
  | [], c, h => by cases h
  | d :: r, c, h => by
    cases hd : p d with
    | false => simp [List.takeWhile_cons, hd] at h
    | true =>
      simp only [List.takeWhile_cons, hd, if_true] at h
      rcases List.mem_cons.1 h with rfl | h
      · exact hd
      · exact tw_all r c h

/-- What the package-level variables hold. -/
structure Lay (w : World) : Prop where
  er : ∃ te pe, w.cell? ⟨5, 0, none⟩ = some (.iface te pe)
theorem Lay.below {w w' : World} (h : Lay w) (hb : Below w.heap.size w w') : Lay w' := by
  obtain ⟨⟨te, pe, h1⟩⟩ := h
  exact ⟨⟨te, pe, cell_below hb h1⟩⟩

theorem parse_ok (ds : Str) (hl : ds.length ≤ 1048576) (v : Int) (h : Lib.parseIntB 64 ds = .ok v) (w : World) :
    Calls Tryz.prog 156 #[.string (bstr ds), .int .i64 10, .int .i64 64] w fun e w' => e = .returned (.tuple #[.int .i64 v, .nilIface]) ∧ Below w.heap.size w w' := by
  refine (Tryz.strconv_ParseInt_10_at64_ok (bstr ds) (by rw [bstr_size]; omega) v (by rw [bstr_data]; exact h) w).mono ?_
  rintro e w' ⟨rfl, hw⟩
  refine ⟨rfl, ?_⟩
  rcases hw with rfl | ⟨t, rfl⟩
  · exact Below.refl _ _
  · exact Joins.below_bytesWorld _ w _ t (Nat.le_refl _)
theorem parse_range (ds : Str) (hl : ds.length ≤ 1048576) (h : Lib.parseIntB 64 ds = .range) (w : World) (hL : Lay w) :
    Calls Tryz.prog 156 #[.string (bstr ds), .int .i64 10, .int .i64 64] w fun e w' => ∃ x t p, e = .returned (.tuple #[.int .i64 x, .iface t (.pointer (some p))]) ∧ Below w.heap.size w w' := by
  obtain ⟨te, pe, hv⟩ := hL.er
  refine (Tryz.strconv_ParseInt_10_at64_range (bstr ds) (by rw [bstr_size]; omega) (by rw [bstr_data]; exact h) _ w hv (.inr ⟨te, pe, rfl⟩)).mono ?_
  rintro e w' ⟨N, rfl, _, _, hb⟩
  exact ⟨_, _, _, rfl, hb⟩

set_option maxRecDepth 100000 in
set_option maxHeartbeats 1500000 in
theorem number_any (A : Option Addr) (l : Str) (cp k : Nat) (w : World) (hL : Lay w) (hr : Rd w 1 A l.length (u8s l)) (hk : k < l.length) (c : UInt8) (hck : l[k] = c) (hp : digB c = true) (hcap : l.length ≤ cp) (hm : l.length ≤ 1048576) :
    Calls Tryz.prog 151 #[.slice A l.length cp, .int .i64 (k : Int)] w fun e w' => OneRes (numR ((l.drop k).takeWhile digB)) k w e w' := by
  obtain ⟨b, o, rfl, hb, hcl⟩ := hr.byte (k := k) hk
  obtain ⟨s, hs⟩ : ∃ s, (l.drop k).takeWhile digB = s := ⟨_, rfl⟩
  have hd : l.drop k = c :: l.drop (k + 1) := by rw [List.drop_eq_getElem_cons hk, hck]
  have hpos : 0 < s.length := by rw [← hs, hd]; exact tw_pos hp
  have hhead : s.head? = some c := by rw [← hs, hd, List.takeWhile_cons, hp]; rfl
  have hall : ∀ d ∈ s, digB d = true := by rw [← hs]; exact tw_all _
  have he2 := endB_le digB l k (by omega)
  have hks : endB digB l k = k + s.length := by unfold endB; rw [hs]
  have htk : (l.drop k).take s.length = s := by
    have := tw_take (p := digB) (l.drop k)
    rwa [hs] at this
  have hcv : ∀ w' c', Below w.heap.size w w' → (convert 61 9 (.slice (some ⟨b, o + k, none⟩) s.length c')).run Tryz.prog w' = .ok (.string (bstr s)) w' := fun w' c' hb' => by
    have := conv_part (hr.below hb') k s.length c' (by omega)
    rwa [htk] at this
  have HAF := Lib.hid (afterDigit_any (some ⟨b, o, none⟩) l cp k (w.alloc zeroTok) (hr.alloc _) (by omega) hm)
  have HCV := Lib.hid hcv
  have HM := Lib.hid (mk_new w)
  have HLY := Lib.hid (hL.below HM.out.b)
  have HG := Lib.hid (show ∀ w', Below w.heap.size w w' → w'.cell? ⟨b, o + k, none⟩ = some (.int .u8 (c.toNat : Int)) from fun w' hb' => by have := cell_below hb' (hcl k hk); rwa [hck] at this)
  rw [hs]
  have hle : k + s.length ≤ l.length := by omega
  rw [hks] at HAF
  have hne : s ≠ [] := fun e => by rw [e] at hpos; simp at hpos
  have HP := Lib.hid (parse_digits s hall hne)
  have HHD := Lib.hid hhead
  have cv := HCV.out _ (cp - k) HM.out.b
  have e1 : (k : Int) ≤ ((k + s.length : Nat) : Int) := by omega
  have e2 : ((k + s.length : Nat) : Int) ≤ (l.length : Int) := by omega
  have e3 : ¬ cp = k := by omega
  have e4 : (0 : Int) ≤ (k : Int) := by omega
  have e5 : (k : Int) < (l.length : Int) := by omega
  have HSL := Lib.hid (And.intro hpos hle)
  clear hs he2 hks htk hcv hr hp hcl hd hhead hall hne hL hck
  rcases HP.out with ⟨v, hv⟩ | hrg
  · have HPK := Lib.hid (parse_ok s (by omega) v hv)
    by_cases h48 : c.toNat = 48 ∧ 1 < s.length
    · have hres : numR s = .bad 0 := by
        unfold numR; rw [hv]; simp only
        rw [if_pos ⟨by rw [HHD.out]; congr 1; exact nat_u8 h48.1, h48.2⟩]
      rw [hres]
      have z0 : ((c.toNat : Int) == 48) = true := by rw [beq_iff_eq]; omega
      have z1 : (1 : Int) < ((k + s.length : Nat) : Int) - (k : Int) := by omega
      clear hres hv h48 hpos hle
      go_enter Tryz.func151, Tryz.ntmps151
      go_wp2_with fail
      generalize w.alloc zeroTok = wa at *
      refine HAF.out.mono ?_
      rintro e w1 ⟨rfl, rfl⟩
      go_wp2_with fail
      refine (HPK.out wa).mono ?_
      rintro e wp ⟨rfl, hbp⟩
      have HMP := Lib.hid (HM.out.below hbp)
      have g0 := HG.out _ HMP.out.b
      clear hbp
      go_wp2_with fail
      clear g0
      refine (bad_any k wp).mono ?_
      rintro e w2 ⟨v, rfl, hv, hb2⟩
      have HV := Lib.hid hv
      have HM2 := Lib.hid (HMP.out.below hb2)
      clear hv hb2
      obtain ⟨c0, c1, c2, c3, f0, f1, f2, f3⟩ := HM2.out.tc
      unfold tok0
      go_wp2_with fail
      have HM3 := Lib.hid (HM2.out.set (.int .i64 0) (.int .i64 0) (.int .i64 0) (.string ⟨#[]⟩))
      obtain ⟨q0, q1, q2, q3, _, _, _, _⟩ := HM3.out.tc
      unfold set4 at q0 q1 q2 q3
      refine bodyPost_ret (v := .tuple #[tok0, .int .i64 0, v]) (by simp [results, Tryz.results151, go_sem, q0, q1, q2, q3]; rfl) rfl ?_
      exact ⟨v, rfl, (HV.out.set4 HMP.out.lt _ _ _ _).mono (Nat.le_of_lt HMP.out.lt), HM3.out.b⟩
    · have hres : numR s = .ok ⟨4, v, []⟩ s.length := by
        unfold numR; rw [hv]; simp only
        rw [if_neg (fun h => h48 ⟨by have := HHD.out; rw [h.1] at this; injection this with this; rw [← this]; rfl, h.2⟩)]
      rw [hres]
      have HPQ := Lib.hid h48
      clear hres hv h48 hpos hle
      by_cases h0 : c.toNat = 48
      · have z0 : ((c.toNat : Int) == 48) = true := by rw [beq_iff_eq]; omega
        have z1 : ¬ (1 : Int) < ((k + s.length : Nat) : Int) - (k : Int) := by have := HPQ.out; omega
        clear h0
        go_enter Tryz.func151, Tryz.ntmps151
        go_wp2_with fail
        generalize w.alloc zeroTok = wa at *
        refine HAF.out.mono ?_
        rintro e w1 ⟨rfl, rfl⟩
        go_wp2_with fail
        refine (HPK.out wa).mono ?_
        rintro e wp ⟨rfl, hbp⟩
        have HMP := Lib.hid (HM.out.below hbp)
        have g0 := HG.out _ HMP.out.b
        clear hbp
        obtain ⟨c0, c1, c2, c3, f0, f1, f2, f3⟩ := HMP.out.tc
        have HM3 := Lib.hid (HMP.out.set (.int .i64 4) (.int .i64 (k : Int)) (.int .i64 v) (.string ⟨#[]⟩))
        go_wp2_with fail
        obtain ⟨q0, q1, q2, q3, _, _, _, _⟩ := HM3.out.tc
        unfold set4 at q0 q1 q2 q3
        refine bodyPost_ret (v := .tuple #[tokV ⟨4, k, v, []⟩, .int .i64 ((k + s.length : Nat) : Int), .nilIface]) (by simp [results, Tryz.results151, go_sem, q0, q1, q2, q3, tokV]; try rfl) rfl ?_
        exact ⟨rfl, HM3.out.b⟩
      · have z0 : ((c.toNat : Int) == 48) = false := by rw [beq_eq_false_iff_ne]; omega
        clear h0
        go_enter Tryz.func151, Tryz.ntmps151
        go_wp2_with fail
        generalize w.alloc zeroTok = wa at *
        refine HAF.out.mono ?_
        rintro e w1 ⟨rfl, rfl⟩
        go_wp2_with fail
        refine (HPK.out wa).mono ?_
        rintro e wp ⟨rfl, hbp⟩
        have HMP := Lib.hid (HM.out.below hbp)
        have g0 := HG.out _ HMP.out.b
        clear hbp
        obtain ⟨c0, c1, c2, c3, f0, f1, f2, f3⟩ := HMP.out.tc
        have HM3 := Lib.hid (HMP.out.set (.int .i64 4) (.int .i64 (k : Int)) (.int .i64 v) (.string ⟨#[]⟩))
        go_wp2_with fail
        obtain ⟨q0, q1, q2, q3, _, _, _, _⟩ := HM3.out.tc
        unfold set4 at q0 q1 q2 q3
        refine bodyPost_ret (v := .tuple #[tokV ⟨4, k, v, []⟩, .int .i64 ((k + s.length : Nat) : Int), .nilIface]) (by simp [results, Tryz.results151, go_sem, q0, q1, q2, q3, tokV]; try rfl) rfl ?_
        exact ⟨rfl, HM3.out.b⟩
  · have HPR := Lib.hid (parse_range s (by omega) hrg)
    have hres : numR s = .bad 0 := by unfold numR; rw [hrg]
    rw [hres]
    clear hres hrg hpos hle
    go_enter Tryz.func151, Tryz.ntmps151
    go_wp2_with fail
    generalize w.alloc zeroTok = wa at *
    refine HAF.out.mono ?_
    rintro e w1 ⟨rfl, rfl⟩
    go_wp2_with fail
    refine (HPR.out wa HLY.out).mono ?_
    rintro e wp ⟨x, t, p, rfl, hbp⟩
    have HMP := Lib.hid (HM.out.below hbp)
    clear hbp
    go_wp2_with fail
    refine (bad_any k wp).mono ?_
    rintro e w2 ⟨v, rfl, hv, hb2⟩
    have HV := Lib.hid hv
    have HM2 := Lib.hid (HMP.out.below hb2)
    clear hv hb2
    obtain ⟨c0, c1, c2, c3, f0, f1, f2, f3⟩ := HM2.out.tc
    unfold tok0
    go_wp2_with fail
    have HM3 := Lib.hid (HM2.out.set (.int .i64 0) (.int .i64 0) (.int .i64 0) (.string ⟨#[]⟩))
    obtain ⟨q0, q1, q2, q3, _, _, _, _⟩ := HM3.out.tc
    unfold set4 at q0 q1 q2 q3
    refine bodyPost_ret (v := .tuple #[tok0, .int .i64 0, v]) (by simp [results, Tryz.results151, go_sem, q0, q1, q2, q3]; rfl) rfl ?_
    exact ⟨v, rfl, (HV.out.set4 HMP.out.lt _ _ _ _).mono (Nat.le_of_lt HMP.out.lt), HM3.out.b⟩
end Go.Proofs.YtaglmmcjhlehjaaGreatDoor
