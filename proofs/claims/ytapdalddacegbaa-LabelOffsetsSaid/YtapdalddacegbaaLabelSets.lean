/-
  LabelSets holds: for every input the law returns true, and each argument reads afterwards as it read before. No condition.
-/
import Derived.Test.YtapdalddacegbaaLabelH
namespace Go.Proofs.Ytapdalddacegbaa
open Go.ChangeShapes Go.WideShapes Go.ChangeAt Go.RowKit
set_option linter.unusedVariables false

theorem small_true {l : List Str} (h : smallL l = true) : l.length ≤ 200 := by
  unfold smallL at h
  rw [Bool.and_eq_true, decide_eq_true_eq] at h
  exact h.2

theorem sets_out (A B : Option Addr) (a b : List Str) (s : Str) (n c m d : Nat) (w : World) (hm : n ≤ maxLen) (hm2 : m ≤ maxLen)
    (hra : Rd w 1 A n (strs a)) (hrb : Rd w 1 B m (strs b)) (hbig : smallL a = false ∨ smallL b = false ∨ 100 < s.length) :
    Calls Try.prog 3 #[.slice A n c, .slice B m d, .string (bstr s)] w fun e w' => e = .returned (.bool true) ∧ Below w.heap.size w w' := by
  have HB := Lib.hid hbig
  clear hbig
  go_enter Try.func3, Try.ntmps3
  go_wp2_with fail
  refine (up_any _).mono ?_
  rintro e w1 ⟨rfl, hb1⟩
  go_wp2_with fail
  cases ha : smallL a with
  | false =>
    have HA := Lib.hid ha
    clear ha
    refine (small_any A a n c _ (hra.below hb1) hm).mono ?_
    rw [HA.out]
    rintro e w2 ⟨rfl, hb2⟩
    go_wp2_with fail
    go_returns
    exact ⟨rfl, below_then hb1 hb2⟩
  | true =>
    have HA := Lib.hid ha
    clear ha
    refine (small_any A a n c _ (hra.below hb1) hm).mono ?_
    rw [HA.out]
    rintro e w2 ⟨rfl, hb2⟩
    have b2 := below_then hb1 hb2
    clear hb1 hb2
    go_wp2_with fail
    cases hbb : smallL b with
    | false =>
      have HBB := Lib.hid hbb
      clear hbb
      refine (small_any B b m d _ (hrb.below b2) hm2).mono ?_
      rw [HBB.out]
      rintro e w3 ⟨rfl, hb3⟩
      go_wp2_with fail
      go_returns
      exact ⟨rfl, below_then b2 hb3⟩
    | true =>
      have HBB := Lib.hid hbb
      have hs : 100 < (bstr s).size := by
        rw [bstr_size]
        rcases HB.out with h | h | h
        · rw [HA.out] at h; cases h
        · rw [hbb] at h; cases h
        · exact h
      clear hbb
      refine (small_any B b m d _ (hrb.below b2) hm2).mono ?_
      rw [HBB.out]
      rintro e w3 ⟨rfl, hb3⟩
      go_wp2_with fail
      go_returns
      exact ⟨rfl, below_then b2 hb3⟩

theorem sets_in (A B : Option Addr) (a b : List Str) (s : Str) (n c m d : Nat) (w : World) (hm : n ≤ maxLen) (hm2 : m ≤ maxLen)
    (hra : Rd w 1 A n (strs a)) (hrb : Rd w 1 B m (strs b)) (ha : smallL a = true) (hb : smallL b = true) (hs : s.length ≤ 100) :
    Calls Try.prog 3 #[.slice A n c, .slice B m d, .string (bstr s)] w fun e w' => e = .returned (.bool true) ∧ Below w.heap.size w w' := by
  have ha2 := small_true ha
  have hb2 := small_true hb
  have hla := rd_len hra
  have hlb := rd_len hrb
  have hsz : (bstr s).size ≤ 100 := by rw [bstr_size]; exact hs
  have hx := Nat.le_trans (setOf_length_le a) ha2
  have hy := Nat.le_trans (setOf_length_le b) hb2
  have HA := Lib.hid ha
  have HB := Lib.hid hb
  have HLA := Lib.hid hla
  have HLB := Lib.hid hlb
  have hn : n ≤ 200 := by omega
  have hm' : m ≤ 200 := by omega
  have ox := setOf_order a
  have oy := setOf_order b
  have hnx : (setOf a).length ≤ maxLen := by unfold maxLen; omega
  have hny : (setOf b).length ≤ maxLen := by unfold maxLen; omega
  clear ha hb hla hlb hs
  generalize hX : setOf a = X at hx hnx ox
  generalize hY : setOf b = Y at hy hny oy
  have HX := Lib.hid hX
  have HY := Lib.hid hY
  clear hX hY
  go_enter Try.func3, Try.ntmps3
  go_wp2_with fail
  refine (up_any _).mono ?_
  rintro e w1 ⟨rfl, b1⟩
  go_wp2_with fail
  refine (small_any A a n c _ (hra.below b1) hm).mono ?_
  rw [HA.out]
  rintro e w2 ⟨rfl, k2⟩
  have b2 := below_then b1 k2
  clear b1 k2
  go_wp2_with fail
  refine (small_any B b m d _ (hrb.below b2) hm2).mono ?_
  rw [HB.out]
  rintro e w3 ⟨rfl, k3⟩
  have b3 := below_then b2 k3
  clear b2 k3
  go_wp2_with fail
  refine (refOf_any A a n c _ (hra.below b3) (by omega)).mono ?_
  rw [HX.out]
  rintro e w4 ⟨vx, rfl, hox, k4⟩
  have b4 := below_then b3 k4
  obtain ⟨AX, cx, rfl, hcx, _, _⟩ := own_cap hox
  have rx := Rd.of_own hox
  clear b3 k4 hox
  generalize hNX : X.length = nx at rx hcx hx hnx
  go_wp2_with fail
  refine (refOf_any B b m d _ (hrb.below b4) (by omega)).mono ?_
  rw [HY.out]
  rintro e w5 ⟨vy, rfl, hoy, k5⟩
  have b5 := below_then b4 k5
  obtain ⟨AY, cy, rfl, hcy, _, _⟩ := own_cap hoy
  have ry := Rd.of_own hoy
  replace rx := rx.below k5
  clear b4 k5 hoy
  generalize hNY : Y.length = ny at ry hcy hy hny
  clear hNX hNY
  go_wp2_with fail
  refine (is_any A a n c _ (hra.below b5) hm).mono ?_
  rintro e w6 ⟨rfl, k6⟩
  have b6 := below_then b5 k6
  replace rx := rx.below k6
  replace ry := ry.below k6
  clear b5 k6
  go_wp2_with fail
  refine (refIs_any A a n c _ (hra.below b6) hm).mono ?_
  rintro e w7 ⟨rfl, k7⟩
  have b7 := below_then b6 k7
  replace rx := rx.below k7
  replace ry := ry.below k7
  clear b6 k7
  go_wp2_with fail
  refine (of_any A a n c _ (hra.below b7) (by omega)).mono ?_
  rw [HX.out]
  rintro e w8 ⟨v8, rfl, h8o, k8⟩
  have b8 := below_then b7 k8
  replace rx := rx.below k8
  replace ry := ry.below k8
  generalize hN8 : X.length = n8 at h8o
  obtain rfl : n8 = nx := by have := rd_len rx; omega
  clear hN8
  obtain ⟨A8, c8, rfl, hc8, _, _⟩ := own_cap h8o
  have r8 := Rd.of_own h8o
  clear h8o
  clear b7 k8
  go_wp2_with fail
  refine (Texts_any A8 AX X X _ c8 _ cx _ r8 rx hnx hnx).mono ?_
  rw [decide_eq_true rfl]
  rintro e w9 ⟨rfl, k9⟩
  have b9 := below_then b8 k9
  replace rx := rx.below k9
  replace ry := ry.below k9
  replace r8 := r8.below k9
  clear b8 k9
  go_wp2_with fail
  refine (has_any AX X s _ cx _ rx (by omega) ox).mono ?_
  rintro e w10 ⟨rfl, k10⟩
  have b10 := below_then b9 k10
  replace rx := rx.below k10
  replace ry := ry.below k10
  clear b9 k10
  go_wp2_with fail
  refine (refHas_any AX X s _ cx _ rx hnx).mono ?_
  rintro e w11 ⟨rfl, k11⟩
  have b11 := below_then b10 k11
  replace rx := rx.below k11
  replace ry := ry.below k11
  clear b10 k11
  go_wp2_with fail
  refine (offset_any AX X s _ cx _ rx (by omega) ox).mono ?_
  rintro e w12 ⟨rfl, k12⟩
  have b12 := below_then b11 k12
  replace rx := rx.below k12
  replace ry := ry.below k12
  clear b11 k12
  go_wp2_with fail
  refine (refOffset_any AX X s _ cx _ rx hnx).mono ?_
  rintro e w13 ⟨rfl, k13⟩
  have b13 := below_then b12 k13
  replace rx := rx.below k13
  replace ry := ry.below k13
  clear b12 k13
  go_wp2_with fail
  refine (join_any AX AY X Y _ cx _ cy _ rx ry (by omega) (by omega)).mono ?_
  rintro e w14 ⟨v14, rfl, h14o, k14⟩
  have b14 := below_then b13 k14
  replace rx := rx.below k14
  replace ry := ry.below k14
  have hL14 : (setOf (X ++ Y)).length ≤ maxLen := by refine Nat.le_trans (setOf_length_le _) ?_; rw [List.length_append]; have := rd_len rx; have := rd_len ry; unfold maxLen; omega
  generalize hZ14 : setOf (X ++ Y) = Z14 at h14o hL14
  generalize hN14 : Z14.length = n14 at h14o hL14
  obtain ⟨A14, c14, rfl, hc14, _, _⟩ := own_cap h14o
  have r14 := Rd.of_own h14o
  clear h14o hc14
  clear b13 k14
  go_wp2_with fail
  refine (refJoin_any AX AY X Y _ cx _ cy _ rx ry (by omega) (by omega)).mono ?_
  rw [hZ14, hN14]
  rintro e w15 ⟨v15, rfl, h15o, k15⟩
  have b15 := below_then b14 k15
  replace rx := rx.below k15
  replace ry := ry.below k15
  replace r14 := r14.below k15
  obtain ⟨A15, c15, rfl, hc15, _, _⟩ := own_cap h15o
  have r15 := Rd.of_own h15o
  clear h15o hc15
  clear b14 k15
  go_wp2_with fail
  refine (Texts_any A14 A15 Z14 Z14 _ c14 _ c15 _ r14 r15 hL14 hL14).mono ?_
  rw [decide_eq_true rfl]
  rintro e w16 ⟨rfl, k16⟩
  have b16 := below_then b15 k16
  replace rx := rx.below k16
  replace ry := ry.below k16
  replace r14 := r14.below k16
  replace r15 := r15.below k16
  clear r14 r15 hZ14 hN14 hL14
  clear b15 k16
  go_wp2_with fail
  refine (less_any AX AY X Y _ cx _ cy _ rx ry (by omega) (by omega) oy).mono ?_
  rintro e w17 ⟨v17, rfl, h17o, k17⟩
  have b17 := below_then b16 k17
  replace rx := rx.below k17
  replace ry := ry.below k17
  have hL17 : (lessL X Y).length ≤ maxLen := by refine Nat.le_trans (List.length_filter_le _ _) ?_; have := rd_len rx; unfold maxLen; omega
  generalize hZ17 : lessL X Y = Z17 at h17o hL17
  generalize hN17 : Z17.length = n17 at h17o hL17
  obtain ⟨A17, c17, rfl, hc17, _, _⟩ := own_cap h17o
  have r17 := Rd.of_own h17o
  clear h17o hc17
  clear b16 k17
  go_wp2_with fail
  refine (refLess_any AX AY X Y _ cx _ cy _ rx ry (by omega) (by omega)).mono ?_
  rw [hZ17, hN17]
  rintro e w18 ⟨v18, rfl, h18o, k18⟩
  have b18 := below_then b17 k18
  replace rx := rx.below k18
  replace ry := ry.below k18
  replace r17 := r17.below k18
  obtain ⟨A18, c18, rfl, hc18, _, _⟩ := own_cap h18o
  have r18 := Rd.of_own h18o
  clear h18o hc18
  clear b17 k18
  go_wp2_with fail
  refine (Texts_any A17 A18 Z17 Z17 _ c17 _ c18 _ r17 r18 hL17 hL17).mono ?_
  rw [decide_eq_true rfl]
  rintro e w19 ⟨rfl, k19⟩
  have b19 := below_then b18 k19
  replace rx := rx.below k19
  replace ry := ry.below k19
  replace r17 := r17.below k19
  replace r18 := r18.below k19
  clear r17 r18 hZ17 hN17 hL17
  clear b18 k19
  go_wp2_with fail
  refine (meet_any AX AY X Y _ cx _ cy _ rx ry (by omega) (by omega) oy).mono ?_
  rintro e w20 ⟨v20, rfl, h20o, k20⟩
  have b20 := below_then b19 k20
  replace rx := rx.below k20
  replace ry := ry.below k20
  have hL20 : (meetL X Y).length ≤ maxLen := by refine Nat.le_trans (List.length_filter_le _ _) ?_; have := rd_len rx; unfold maxLen; omega
  generalize hZ20 : meetL X Y = Z20 at h20o hL20
  generalize hN20 : Z20.length = n20 at h20o hL20
  obtain ⟨A20, c20, rfl, hc20, _, _⟩ := own_cap h20o
  have r20 := Rd.of_own h20o
  clear h20o hc20
  clear b19 k20
  go_wp2_with fail
  refine (refMeet_any AX AY X Y _ cx _ cy _ rx ry (by omega) (by omega)).mono ?_
  rw [hZ20, hN20]
  rintro e w21 ⟨v21, rfl, h21o, k21⟩
  have b21 := below_then b20 k21
  replace rx := rx.below k21
  replace ry := ry.below k21
  replace r20 := r20.below k21
  obtain ⟨A21, c21, rfl, hc21, _, _⟩ := own_cap h21o
  have r21 := Rd.of_own h21o
  clear h21o hc21
  clear b20 k21
  go_wp2_with fail
  refine (Texts_any A20 A21 Z20 Z20 _ c20 _ c21 _ r20 r21 hL20 hL20).mono ?_
  rw [decide_eq_true rfl]
  rintro e w22 ⟨rfl, k22⟩
  have b22 := below_then b21 k22
  replace rx := rx.below k22
  replace ry := ry.below k22
  replace r20 := r20.below k22
  replace r21 := r21.below k22
  clear r20 r21 hZ20 hN20 hL20
  clear b21 k22
  go_wp2_with fail
  go_returns
  exact ⟨rfl, b22⟩
end Go.Proofs.Ytapdalddacegbaa
