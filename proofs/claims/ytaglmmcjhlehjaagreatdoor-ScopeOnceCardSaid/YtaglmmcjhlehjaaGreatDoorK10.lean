/-
  Numbers, by the document's answer.
-/
import Derived.Test.YtaglmmcjhlehjaaGreatDoorK08
import Derived.Test.YtaglmmcjhlehjaaGreatDoorK09
namespace Go.Proofs.YtaglmmcjhlehjaaGreatDoor
open Go.ChangeShapes Go.WideShapes Go.ChangeAt Go.RowKit
set_option linter.unusedVariables false
set_option linter.unusedSimpArgs false

set_option maxRecDepth 100000 in
set_option maxHeartbeats 6000000 in
theorem refNum_any (A : Option Addr) (l : Str) (cp k : Nat) (w : World) (hr : Rd w 1 A l.length (u8s l)) (hk : k < l.length) (c : UInt8) (hck : l[k] = c) (hp : digB c = true) (hm : l.length ≤ 1048576) :
    Calls Tryz.prog 119 #[.slice A l.length cp, .int .i64 (k : Int)] w fun e w' => RefOneRes (numR ((l.drop k).takeWhile digB)) k w e w' := by
  obtain ⟨b, o, rfl, hb, hcl⟩ := hr.byte (k := k) hk
  obtain ⟨s, hs⟩ : ∃ s, (l.drop k).takeWhile digB = s := ⟨_, rfl⟩
  have HSS := Lib.hid hs
  have hd : l.drop k = c :: l.drop (k + 1) := by rw [List.drop_eq_getElem_cons hk, hck]
  have hpos : 0 < s.length := by rw [← hs, hd]; exact tw_pos hp
  have hhead : s.head? = some c := by rw [← hs, hd, List.takeWhile_cons, hp]; rfl
  have hall : ∀ d ∈ s, digB d = true := by rw [← hs]; exact tw_all _
  have hne : s ≠ [] := fun e => by rw [e] at hpos; simp at hpos
  have HNV := Lib.hid (numR_val s hall hne)
  have HHD := Lib.hid hhead
  have HM := Lib.hid (mk_newR w)
  have HG := Lib.hid (show ∀ (q : Nat) (hq : q < l.length) w', Below w.heap.size w w' → w'.cell? ⟨b, o + q, none⟩ = some (.int .u8 (l[q].toNat : Int)) from fun q hq w' hb' => cell_below hb' (hcl q hq))
  rw [hs]
  obtain ⟨r, hrr⟩ : ∃ r, numR s = r := ⟨_, rfl⟩
  have HRR := Lib.hid hrr
  rw [hrr]
  have g0 := HG.out k hk _ HM.out.b
  rw [hck] at g0
  have e0' : (0 : Int) ≤ (k : Int) := by omega
  have e1 : (k : Int) < (l.length : Int) := by omega
  have HLO := Lib.hid (show lowB c = false by unfold digB at hp; have := of_decide_eq_true hp; unfold lowB; rw [decide_eq_false_iff_not]; omega)
  have HHI := Lib.hid (show highB c = false by unfold digB at hp; have := of_decide_eq_true hp; unfold highB; rw [decide_eq_false_iff_not]; omega)
  have HDI := Lib.hid hp
  clear hs hd hpos hhead hall hne hcl hr hck hp hrr
  go_enter Tryz.func119, Tryz.ntmps119
  go_wp2_with fail
  generalize w.alloc zeroTokR = wa at *
  refine (refLow_any c wa).mono ?_
  rw [HLO.out]
  rintro e w1 ⟨rfl, rfl⟩
  go_wp2_with fail
  refine (refHigh_any c wa).mono ?_
  rw [HHI.out]
  rintro e w1 ⟨rfl, rfl⟩
  go_wp2_with fail
  refine (refDigit_any c wa).mono ?_
  rw [HDI.out]
  rintro e w1 ⟨rfl, rfl⟩
  go_wp2_with fail
  go_loop [8, 14, 15] (fun i n bb => ∃ (q nn : Nat) (big : Bool), i = .int .i64 q ∧ n = .int .u64 (nn : Int) ∧ bb = .bool big ∧ NL l k q nn big ∧ nn ≤ 9223372036854775807) (fun i _ _ => l.length - (intOf i).toNat)
  case atStart => exact ⟨k, 0, false, rfl, rfl, rfl, ⟨Nat.le_refl _, by omega, rfl, fun _ => ⟨by rw [Nat.sub_self]; rfl, by omega⟩, fun h => by cases h⟩, by omega⟩
  case round =>
    obtain ⟨q, nn, big, rfl, rfl, rfl, hnl, hnb⟩ := hrel
    have HNL := Lib.hid hnl
    have hkq := hnl.lo
    have hql := hnl.hi
    clear hnl g0
    have z0 : (0 : Int) ≤ (q : Int) := by omega
    by_cases hlt : q < l.length
    · have z1 : (q : Int) < (l.length : Int) := by omega
      obtain ⟨d, hdk⟩ : ∃ d, l[q] = d := ⟨_, rfl⟩
      have gq := HG.out q hlt _ HM.out.b
      rw [hdk] at gq
      have HDK := Lib.hid hdk
      clear hdk
      cases h1 : digB d with
      | true =>
        have hd2 := of_decide_eq_true h1
        have d1 : (48 : Int) ≤ (d.toNat : Int) := by omega
        have d2 : (d.toNat : Int) ≤ 57 := by omega
        have H1 := Lib.hid h1
        clear h1
        cases big with
        | true =>
          go_wp2_with fail
          refine (refDigit_any d wa).mono ?_
          rw [H1.out]
          rintro e w1 ⟨rfl, rfl⟩
          have HST := Lib.hid (HNL.out.step hlt d HDK.out H1.out 0 true (fun h => by cases h) (fun _ => .inl rfl))
          clear hd2
          go_wp2_with fail
          go_round
          case rel => exact ⟨q + 1, 0, true, by go_num, by first | rfl | (congr 1; omega) | (go_num), by first | rfl | exact congrArg Value.bool (decide_eq_false (by omega)) | exact congrArg Value.bool (decide_eq_true (by omega)), HST.out, by omega⟩
          case measure => simp [intOf] <;> omega
        | false =>
          by_cases hK : 922337203685477580 < nn
          · have k1 : (922337203685477580 : Int) < (nn : Int) := by omega
            go_wp2_with fail
            refine (refDigit_any d wa).mono ?_
            rw [H1.out]
            rintro e w1 ⟨rfl, rfl⟩
            have HST := Lib.hid (HNL.out.step hlt d HDK.out H1.out 0 true (fun h => by cases h) (fun _ => .inr (by omega)))
            clear hd2
            go_wp2_with fail
            go_round
            case rel => exact ⟨q + 1, 0, true, by go_num, by first | rfl | (congr 1; omega) | (go_num), by first | rfl | exact congrArg Value.bool (decide_eq_false (by omega)) | exact congrArg Value.bool (decide_eq_true (by omega)), HST.out, by omega⟩
            case measure => simp [intOf] <;> omega
          · have k1 : ¬ (922337203685477580 : Int) < (nn : Int) := by omega
            have k4 : (nn : Int) ≤ 922337203685477580 := by omega
            have k5 : (0 : Int) ≤ (nn : Int) := by omega
            by_cases hE : nn = 922337203685477580
            · have k2 : ((nn : Int) == 922337203685477580) = true := by rw [beq_iff_eq]; omega
              by_cases h55 : 55 < d.toNat
              · have k3 : (55 : Int) < (d.toNat : Int) := by omega
                go_wp2_with fail
                refine (refDigit_any d wa).mono ?_
                rw [H1.out]
                rintro e w1 ⟨rfl, rfl⟩
                have HST := Lib.hid (HNL.out.step hlt d HDK.out H1.out 0 true (fun h => by cases h) (fun _ => .inr (by omega)))
                clear hd2 hE
                go_wp2_with fail
                go_round
                case rel => exact ⟨q + 1, 0, true, by go_num, by first | rfl | (congr 1; omega) | (go_num), by first | rfl | exact congrArg Value.bool (decide_eq_false (by omega)) | exact congrArg Value.bool (decide_eq_true (by omega)), HST.out, by omega⟩
                case measure => simp [intOf] <;> omega
              · have k3 : ¬ (55 : Int) < (d.toNat : Int) := by omega
                go_wp2_with fail
                refine (refDigit_any d wa).mono ?_
                rw [H1.out]
                rintro e w1 ⟨rfl, rfl⟩
                have HST := Lib.hid (HNL.out.step hlt d HDK.out H1.out (nn * 10 + (d.toNat - 48)) false (fun _ => ⟨rfl, rfl, by omega⟩) (fun h => by cases h))
                clear k5
                go_wp2_with fail
                go_round
                case rel => exact ⟨q + 1, (nn * 10 + (d.toNat - 48)), false, by go_num, by first | rfl | (congr 1; omega) | (go_num), by first | rfl | exact congrArg Value.bool (decide_eq_false (by omega)) | exact congrArg Value.bool (decide_eq_true (by omega)), HST.out, by omega⟩
                case measure => simp [intOf] <;> omega
            · have k2 : ((nn : Int) == 922337203685477580) = false := by rw [beq_eq_false_iff_ne]; omega
              have k6 : nn ≤ 922337203685477579 := by omega
              go_wp2_with fail
              refine (refDigit_any d wa).mono ?_
              rw [H1.out]
              rintro e w1 ⟨rfl, rfl⟩
              have HST := Lib.hid (HNL.out.step hlt d HDK.out H1.out (nn * 10 + (d.toNat - 48)) false (fun _ => ⟨rfl, rfl, by omega⟩) (fun h => by cases h))
              clear hE
              go_wp2_with fail
              go_round
              case rel => exact ⟨q + 1, (nn * 10 + (d.toNat - 48)), false, by go_num, by first | rfl | (congr 1; omega) | (go_num), by first | rfl | exact congrArg Value.bool (decide_eq_false (by omega)) | exact congrArg Value.bool (decide_eq_true (by omega)), HST.out, by omega⟩
              case measure => simp [intOf] <;> omega
      | false =>
        have H1 := Lib.hid h1
        clear h1
        go_wp2_with fail
        refine (refDigit_any d wa).mono ?_
        rw [H1.out]
        rintro e w1 ⟨rfl, rfl⟩
        have hdn := HNL.out.done s HSS.out (endB_no digB l q hlt (by rw [HDK.out]; exact H1.out))
        obtain ⟨rfl, hsm, hgr⟩ := hdn
        cases big with
        | true =>
          have hres := HNV.out
          rw [if_neg (by have := hgr rfl; omega), HRR.out] at hres
          have HRES := Lib.hid hres
          clear hsm hgr hres
          have HM3 := Lib.hid (HM.out.set (.int .i64 0) (.int .i64 0) (.int .i64 0) (.string ⟨#[]⟩))
          obtain ⟨c0, c1, c2, c3, f0, f1, f2, f3⟩ := HM.out.tc
          go_wp2_with fail
          obtain ⟨q0, q1, q2, q3, _, _, _, _⟩ := HM3.out.tc
          unfold set4 at q0 q1 q2 q3
          refine bodyPost_ret (v := .tuple #[.agg #[.int .i64 0, .int .i64 0, .int .i64 0, .string ⟨#[]⟩], .int .i64 ((k + s.length : Nat) : Int), .int .i64 (k : Int)]) (by simp [results, Tryz.results119, go_sem, q0, q1, q2, q3]) rfl ?_
          rw [HRES.out]
          exact ⟨0, 0, 0, ⟨#[]⟩, _, rfl, HM3.out.b⟩
        | false =>
          obtain ⟨hval, hlt⟩ := hsm rfl
          have hres := HNV.out
          rw [← hval, if_pos hlt, HRR.out] at hres
          clear hsm hgr hval
          by_cases h48 : s.head? = some 48 ∧ 1 < s.length
          · rw [if_pos h48] at hres
            have HRES := Lib.hid hres
            have z3 : (1 : Int) < ((k + s.length : Nat) : Int) - (k : Int) := by have := h48.2; omega
            have z4 : ((c.toNat : Int) == 48) = true := by
              have := h48.1
              rw [HHD.out] at this
              injection this with this
              rw [this]; rfl
            clear hres h48
            have HM3 := Lib.hid (HM.out.set (.int .i64 0) (.int .i64 0) (.int .i64 0) (.string ⟨#[]⟩))
            obtain ⟨c0, c1, c2, c3, f0, f1, f2, f3⟩ := HM.out.tc
            go_wp2_with fail
            obtain ⟨q0, q1, q2, q3, _, _, _, _⟩ := HM3.out.tc
            unfold set4 at q0 q1 q2 q3
            refine bodyPost_ret (v := .tuple #[.agg #[.int .i64 0, .int .i64 0, .int .i64 0, .string ⟨#[]⟩], .int .i64 ((k + s.length : Nat) : Int), .int .i64 (k : Int)]) (by simp [results, Tryz.results119, go_sem, q0, q1, q2, q3]) rfl ?_
            rw [HRES.out]
            exact ⟨0, 0, 0, ⟨#[]⟩, _, rfl, HM3.out.b⟩
          · rw [if_neg h48] at hres
            have HRES := Lib.hid hres
            have h48' : ¬ (c.toNat = 48 ∧ 1 < s.length) := fun h => h48 ⟨by rw [HHD.out]; congr 1; exact nat_u8 h.1, h.2⟩
            clear hres h48
            have HM3 := Lib.hid (HM.out.set (.int .i64 4) (.int .i64 (k : Int)) (.int .i64 (nn : Int)) (.string ⟨#[]⟩))
            obtain ⟨c0, c1, c2, c3, f0, f1, f2, f3⟩ := HM.out.tc
            by_cases h1s : 1 < s.length
            · have z3 : (1 : Int) < ((k + s.length : Nat) : Int) - (k : Int) := by omega
              have z4 : ((c.toNat : Int) == 48) = false := by rw [beq_eq_false_iff_ne]; omega
              clear h48'
              go_wp2_with fail
              obtain ⟨q0, q1, q2, q3, _, _, _, _⟩ := HM3.out.tc
              unfold set4 at q0 q1 q2 q3
              refine bodyPost_ret (v := .tuple #[tokV ⟨4, k, (nn : Int), []⟩, .int .i64 ((k + s.length : Nat) : Int), .int .i64 (-1)]) (by simp [results, Tryz.results119, go_sem, q0, q1, q2, q3, tokV]; try rfl) rfl ?_
              rw [HRES.out]
              exact ⟨rfl, HM3.out.b⟩
            · have z3 : ¬ (1 : Int) < ((k + s.length : Nat) : Int) - (k : Int) := by omega
              clear h48'
              go_wp2_with fail
              obtain ⟨q0, q1, q2, q3, _, _, _, _⟩ := HM3.out.tc
              unfold set4 at q0 q1 q2 q3
              refine bodyPost_ret (v := .tuple #[tokV ⟨4, k, (nn : Int), []⟩, .int .i64 ((k + s.length : Nat) : Int), .int .i64 (-1)]) (by simp [results, Tryz.results119, go_sem, q0, q1, q2, q3, tokV]; try rfl) rfl ?_
              rw [HRES.out]
              exact ⟨rfl, HM3.out.b⟩
    · have z1 : ¬ (q : Int) < (l.length : Int) := by omega
      have hdn := HNL.out.done s HSS.out (endB_end digB l q (by omega))
      obtain ⟨rfl, hsm, hgr⟩ := hdn
      cases big with
      | true =>
        have hres := HNV.out
        rw [if_neg (by have := hgr rfl; omega), HRR.out] at hres
        have HRES := Lib.hid hres
        clear hsm hgr hres
        have HM3 := Lib.hid (HM.out.set (.int .i64 0) (.int .i64 0) (.int .i64 0) (.string ⟨#[]⟩))
        obtain ⟨c0, c1, c2, c3, f0, f1, f2, f3⟩ := HM.out.tc
        go_wp2_with fail
        obtain ⟨q0, q1, q2, q3, _, _, _, _⟩ := HM3.out.tc
        unfold set4 at q0 q1 q2 q3
        refine bodyPost_ret (v := .tuple #[.agg #[.int .i64 0, .int .i64 0, .int .i64 0, .string ⟨#[]⟩], .int .i64 ((k + s.length : Nat) : Int), .int .i64 (k : Int)]) (by simp [results, Tryz.results119, go_sem, q0, q1, q2, q3]) rfl ?_
        rw [HRES.out]
        exact ⟨0, 0, 0, ⟨#[]⟩, _, rfl, HM3.out.b⟩
      | false =>
        obtain ⟨hval, hlt⟩ := hsm rfl
        have hres := HNV.out
        rw [← hval, if_pos hlt, HRR.out] at hres
        clear hsm hgr hval
        by_cases h48 : s.head? = some 48 ∧ 1 < s.length
        · rw [if_pos h48] at hres
          have HRES := Lib.hid hres
          have z3 : (1 : Int) < ((k + s.length : Nat) : Int) - (k : Int) := by have := h48.2; omega
          have z4 : ((c.toNat : Int) == 48) = true := by
            have := h48.1
            rw [HHD.out] at this
            injection this with this
            rw [this]; rfl
          clear hres h48
          have HM3 := Lib.hid (HM.out.set (.int .i64 0) (.int .i64 0) (.int .i64 0) (.string ⟨#[]⟩))
          obtain ⟨c0, c1, c2, c3, f0, f1, f2, f3⟩ := HM.out.tc
          go_wp2_with fail
          obtain ⟨q0, q1, q2, q3, _, _, _, _⟩ := HM3.out.tc
          unfold set4 at q0 q1 q2 q3
          refine bodyPost_ret (v := .tuple #[.agg #[.int .i64 0, .int .i64 0, .int .i64 0, .string ⟨#[]⟩], .int .i64 ((k + s.length : Nat) : Int), .int .i64 (k : Int)]) (by simp [results, Tryz.results119, go_sem, q0, q1, q2, q3]) rfl ?_
          rw [HRES.out]
          exact ⟨0, 0, 0, ⟨#[]⟩, _, rfl, HM3.out.b⟩
        · rw [if_neg h48] at hres
          have HRES := Lib.hid hres
          have h48' : ¬ (c.toNat = 48 ∧ 1 < s.length) := fun h => h48 ⟨by rw [HHD.out]; congr 1; exact nat_u8 h.1, h.2⟩
          clear hres h48
          have HM3 := Lib.hid (HM.out.set (.int .i64 4) (.int .i64 (k : Int)) (.int .i64 (nn : Int)) (.string ⟨#[]⟩))
          obtain ⟨c0, c1, c2, c3, f0, f1, f2, f3⟩ := HM.out.tc
          by_cases h1s : 1 < s.length
          · have z3 : (1 : Int) < ((k + s.length : Nat) : Int) - (k : Int) := by omega
            have z4 : ((c.toNat : Int) == 48) = false := by rw [beq_eq_false_iff_ne]; omega
            clear h48'
            go_wp2_with fail
            obtain ⟨q0, q1, q2, q3, _, _, _, _⟩ := HM3.out.tc
            unfold set4 at q0 q1 q2 q3
            refine bodyPost_ret (v := .tuple #[tokV ⟨4, k, (nn : Int), []⟩, .int .i64 ((k + s.length : Nat) : Int), .int .i64 (-1)]) (by simp [results, Tryz.results119, go_sem, q0, q1, q2, q3, tokV]; try rfl) rfl ?_
            rw [HRES.out]
            exact ⟨rfl, HM3.out.b⟩
          · have z3 : ¬ (1 : Int) < ((k + s.length : Nat) : Int) - (k : Int) := by omega
            clear h48'
            go_wp2_with fail
            obtain ⟨q0, q1, q2, q3, _, _, _, _⟩ := HM3.out.tc
            unfold set4 at q0 q1 q2 q3
            refine bodyPost_ret (v := .tuple #[tokV ⟨4, k, (nn : Int), []⟩, .int .i64 ((k + s.length : Nat) : Int), .int .i64 (-1)]) (by simp [results, Tryz.results119, go_sem, q0, q1, q2, q3, tokV]; try rfl) rfl ?_
            rw [HRES.out]
            exact ⟨rfl, HM3.out.b⟩
end Go.Proofs.YtaglmmcjhlehjaaGreatDoor
