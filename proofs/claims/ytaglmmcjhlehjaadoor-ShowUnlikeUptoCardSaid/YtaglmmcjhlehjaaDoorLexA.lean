/-
  What a byte is, by the code and by the document's answer; where bytes of a kind end.
-/
import Derived.Test.YtaglmmcjhlehjaaDoorLexMath
import Derived.Test.YtaglmmcjhlehjaaDoorBytes
namespace Go.Proofs.YtaglmmcjhlehjaaDoor
open Go.ChangeShapes Go.WideShapes Go.ChangeAt Go.RowKit
set_option linter.unusedVariables false

theorem isLower_any (c : UInt8) (w : World) : Calls Tryd.prog 54 #[.int .u8 (c.toNat : Int)] w fun e w' => e = .returned (.bool (lowB c)) ∧ w = w' := by
  go_enter Tryd.func54, Tryd.ntmps54
  go_wp2_with fail
  all_goals
    go_returns
    exact ⟨ret_eq (congrArg Value.bool (by unfold lowB; rw [Bool.eq_iff_iff]; simp <;> omega)), rfl⟩
theorem isUpper_any (c : UInt8) (w : World) : Calls Tryd.prog 57 #[.int .u8 (c.toNat : Int)] w fun e w' => e = .returned (.bool (highB c)) ∧ w = w' := by
  go_enter Tryd.func57, Tryd.ntmps57
  go_wp2_with fail
  all_goals
    go_returns
    exact ⟨ret_eq (congrArg Value.bool (by unfold highB; rw [Bool.eq_iff_iff]; simp <;> omega)), rfl⟩
theorem isDigit_any (c : UInt8) (w : World) : Calls Tryd.prog 59 #[.int .u8 (c.toNat : Int)] w fun e w' => e = .returned (.bool (digB c)) ∧ w = w' := by
  go_enter Tryd.func59, Tryd.ntmps59
  go_wp2_with fail
  all_goals
    go_returns
    exact ⟨ret_eq (congrArg Value.bool (by unfold digB; rw [Bool.eq_iff_iff]; simp <;> omega)), rfl⟩
theorem isPlain_any (c : UInt8) (w : World) : Calls Tryd.prog 23 #[.int .u8 (c.toNat : Int)] w fun e w' => e = .returned (.bool (plainB c)) ∧ w = w' := by
  go_enter Tryd.func23, Tryd.ntmps23
  go_wp2_with fail
  all_goals
    go_returns
    exact ⟨ret_eq (congrArg Value.bool (by unfold plainB; rw [Bool.eq_iff_iff]; simp <;> omega)), rfl⟩
theorem isSpc_any (c : UInt8) (w : World) : Calls Tryd.prog 53 #[.int .u8 (c.toNat : Int)] w fun e w' => e = .returned (.bool (spcB c)) ∧ w = w' := by
  go_enter Tryd.func53, Tryd.ntmps53
  go_wp2_with fail
  all_goals
    go_returns
    exact ⟨ret_eq (congrArg Value.bool (by unfold spcB; rw [Bool.eq_iff_iff]; simp <;> omega)), rfl⟩

theorem inName_any (c : UInt8) (w : World) : Calls Tryd.prog 56 #[.int .u8 (c.toNat : Int)] w fun e w' => e = .returned (.bool (nameB c)) ∧ w = w' := by
  cases h1 : lowB c with
  | false =>
    have e : nameB c = digB c := by unfold nameB; rw [h1]; rfl
    rw [e]
    have H1 := Lib.hid h1
    clear h1 e
    go_enter Tryd.func56, Tryd.ntmps56
    go_wp2_with fail
    refine (isLower_any c w).mono ?_
    rw [H1.out]
    rintro e w1 ⟨rfl, rfl⟩
    go_wp2_with fail
    refine (isDigit_any c w).mono ?_
    rintro e w1 ⟨rfl, rfl⟩
    go_wp2_with fail
    go_returns
    exact ⟨rfl, rfl⟩
  | true =>
    have e : nameB c = true := by unfold nameB; rw [h1]; rfl
    rw [e]
    have H1 := Lib.hid h1
    clear h1 e
    go_enter Tryd.func56, Tryd.ntmps56
    go_wp2_with fail
    refine (isLower_any c w).mono ?_
    rw [H1.out]
    rintro e w1 ⟨rfl, rfl⟩
    go_wp2_with fail
    go_returns
    exact ⟨rfl, rfl⟩
theorem inTag_any (c : UInt8) (w : World) : Calls Tryd.prog 58 #[.int .u8 (c.toNat : Int)] w fun e w' => e = .returned (.bool (tagB c)) ∧ w = w' := by
  cases h1 : lowB c with
  | false =>
    cases h2 : highB c with
    | false =>
      have e : tagB c = digB c := by unfold tagB; rw [h1, h2]; rfl
      rw [e]
      have H1 := Lib.hid h1
      have H2 := Lib.hid h2
      clear h1 h2 e
      go_enter Tryd.func58, Tryd.ntmps58
      go_wp2_with fail
      refine (isLower_any c w).mono ?_
      rw [H1.out]
      rintro e w1 ⟨rfl, rfl⟩
      go_wp2_with fail
      refine (isUpper_any c w).mono ?_
      rw [H2.out]
      rintro e w1 ⟨rfl, rfl⟩
      go_wp2_with fail
      refine (isDigit_any c w).mono ?_
      rintro e w1 ⟨rfl, rfl⟩
      go_wp2_with fail
      go_returns
      exact ⟨rfl, rfl⟩
    | true =>
      have e : tagB c = true := by unfold tagB; rw [h1, h2]; rfl
      rw [e]
      have H1 := Lib.hid h1
      have H2 := Lib.hid h2
      clear h1 h2 e
      go_enter Tryd.func58, Tryd.ntmps58
      go_wp2_with fail
      refine (isLower_any c w).mono ?_
      rw [H1.out]
      rintro e w1 ⟨rfl, rfl⟩
      go_wp2_with fail
      refine (isUpper_any c w).mono ?_
      rw [H2.out]
      rintro e w1 ⟨rfl, rfl⟩
      go_wp2_with fail
      go_returns
      exact ⟨rfl, rfl⟩
  | true =>
    have e : tagB c = true := by unfold tagB; rw [h1]; rfl
    rw [e]
    have H1 := Lib.hid h1
    clear h1 e
    go_enter Tryd.func58, Tryd.ntmps58
    go_wp2_with fail
    refine (isLower_any c w).mono ?_
    rw [H1.out]
    rintro e w1 ⟨rfl, rfl⟩
    go_wp2_with fail
    go_returns
    exact ⟨rfl, rfl⟩
theorem escaped_any (c : UInt8) (w : World) : Calls Tryd.prog 66 #[.int .u8 (c.toNat : Int)] w fun e w' => e = .returned (.tuple #[.int .u8 (if escB c then ((unesc c).toNat : Int) else 0), .bool (escB c)]) ∧ w = w' := by
  by_cases h1 : c.toNat = 34
  · have hc : c = 34 := nat_u8 h1
    subst hc
    go_enter Tryd.func66, Tryd.ntmps66
    go_wp2
    go_returns
    exact ⟨rfl, rfl⟩
  · by_cases h2 : c.toNat = 92
    · have hc : c = 92 := nat_u8 h2
      subst hc
      go_enter Tryd.func66, Tryd.ntmps66
      go_wp2
      go_returns
      exact ⟨rfl, rfl⟩
    · by_cases h3 : c.toNat = 110
      · have hc : c = 110 := nat_u8 h3
        subst hc
        go_enter Tryd.func66, Tryd.ntmps66
        go_wp2
        go_returns
        exact ⟨rfl, rfl⟩
      · have he : escB c = false := by unfold escB; rw [decide_eq_false_iff_not]; omega
        rw [he]
        have g1 : ((c.toNat : Int) == 34) = false := by rw [beq_eq_false_iff_ne]; omega
        have g2 : ((c.toNat : Int) == 92) = false := by rw [beq_eq_false_iff_ne]; omega
        have g3 : ((c.toNat : Int) == 110) = false := by rw [beq_eq_false_iff_ne]; omega
        clear he h1 h2 h3
        go_enter Tryd.func66, Tryd.ntmps66
        go_wp2
        go_returns
        exact ⟨rfl, rfl⟩

/-- Where bytes of a kind end. -/
def endB (p : UInt8 → Bool) (l : Str) (k : Nat) : Nat := k + ((l.drop k).takeWhile p).length
theorem endB_le (p : UInt8 → Bool) (l : Str) (k : Nat) (h : k ≤ l.length) : k ≤ endB p l k ∧ endB p l k ≤ l.length := by
  unfold endB
  have := tw_le (p := p) (l.drop k)
  rw [List.length_drop] at this; omega
theorem endB_yes (p : UInt8 → Bool) (l : Str) (k : Nat) (h : k < l.length) (hp : p l[k] = true) : endB p l (k + 1) = endB p l k := by
  unfold endB
  rw [List.drop_eq_getElem_cons h, List.takeWhile_cons, hp]
  simp; omega
theorem endB_no (p : UInt8 → Bool) (l : Str) (k : Nat) (h : k < l.length) (hp : p l[k] = false) : endB p l k = k := by
  unfold endB
  rw [List.drop_eq_getElem_cons h, List.takeWhile_cons, hp]
  simp
theorem endB_end (p : UInt8 → Bool) (l : Str) (k : Nat) (h : l.length ≤ k) : endB p l k = k := by
  unfold endB
  rw [List.drop_of_length_le h]
  simp

theorem afterSpc_any (A : Option Addr) (l : Str) (cp k : Nat) (w : World) (hr : Rd w 1 A l.length (u8s l)) (hk : k ≤ l.length) (hm : l.length ≤ 1048576) :
    Calls Tryd.prog 52 #[.slice A l.length cp, .int .i64 (k : Int), .func (.func 53) #[] #[]] w fun e w' => e = .returned (.int .i64 ((endB spcB l k : Nat) : Int)) ∧ w = w' := by
  go_enter Tryd.func52, Tryd.ntmps52
  go_wp2_with fail
  go_loop [1] (fun i => ∃ q : Nat, i = .int .i64 q ∧ q ≤ l.length ∧ endB spcB l q = endB spcB l k) (fun i => l.length - (intOf i).toNat)
  case atStart => exact ⟨k, rfl, hk, rfl⟩
  case round =>
    obtain ⟨q, rfl, hq, he⟩ := hrel
    have HE := Lib.hid he
    clear he
    by_cases hlt : q < l.length
    · obtain ⟨b, o, rfl, hb, hc⟩ := hr.byte (k := q) hlt
      have g0 := hc q hlt
      have HR := Lib.hid hr
      clear hc hr
      have e0 : (q : Int) < (l.length : Int) := by omega
      cases hp : spcB l[q] with
      | true =>
        have HP := Lib.hid (endB_yes spcB l q hlt hp)
        have HPP := Lib.hid hp
        clear hp
        go_wp2_with fail
        refine (isSpc_any l[q] w).mono ?_
        rw [HPP.out]
        rintro e w1 ⟨rfl, rfl⟩
        go_wp2_with fail
        go_round
        case rel => exact ⟨q + 1, by go_num, by omega, HP.out.trans HE.out⟩
        case measure => simp [intOf] <;> omega
      | false =>
        have HP := Lib.hid (endB_no spcB l q hlt hp)
        have HPP := Lib.hid hp
        clear hp
        go_wp2_with fail
        refine (isSpc_any l[q] w).mono ?_
        rw [HPP.out]
        rintro e w1 ⟨rfl, rfl⟩
        go_wp2_with fail
        go_returns
        exact ⟨by rw [← HE.out, HP.out]; rfl, rfl⟩
    · have e0 : ¬ (q : Int) < (l.length : Int) := by omega
      go_wp2_with fail
      go_returns
      exact ⟨by rw [← HE.out, endB_end spcB l q (by omega)]; rfl, rfl⟩

theorem afterName_any (A : Option Addr) (l : Str) (cp k : Nat) (w : World) (hr : Rd w 1 A l.length (u8s l)) (hk : k ≤ l.length) (hm : l.length ≤ 1048576) :
    Calls Tryd.prog 52 #[.slice A l.length cp, .int .i64 (k : Int), .func (.func 56) #[] #[]] w fun e w' => e = .returned (.int .i64 ((endB nameB l k : Nat) : Int)) ∧ w = w' := by
  go_enter Tryd.func52, Tryd.ntmps52
  go_wp2_with fail
  go_loop [1] (fun i => ∃ q : Nat, i = .int .i64 q ∧ q ≤ l.length ∧ endB nameB l q = endB nameB l k) (fun i => l.length - (intOf i).toNat)
  case atStart => exact ⟨k, rfl, hk, rfl⟩
  case round =>
    obtain ⟨q, rfl, hq, he⟩ := hrel
    have HE := Lib.hid he
    clear he
    by_cases hlt : q < l.length
    · obtain ⟨b, o, rfl, hb, hc⟩ := hr.byte (k := q) hlt
      have g0 := hc q hlt
      have HR := Lib.hid hr
      clear hc hr
      have e0 : (q : Int) < (l.length : Int) := by omega
      cases hp : nameB l[q] with
      | true =>
        have HP := Lib.hid (endB_yes nameB l q hlt hp)
        have HPP := Lib.hid hp
        clear hp
        go_wp2_with fail
        refine (inName_any l[q] w).mono ?_
        rw [HPP.out]
        rintro e w1 ⟨rfl, rfl⟩
        go_wp2_with fail
        go_round
        case rel => exact ⟨q + 1, by go_num, by omega, HP.out.trans HE.out⟩
        case measure => simp [intOf] <;> omega
      | false =>
        have HP := Lib.hid (endB_no nameB l q hlt hp)
        have HPP := Lib.hid hp
        clear hp
        go_wp2_with fail
        refine (inName_any l[q] w).mono ?_
        rw [HPP.out]
        rintro e w1 ⟨rfl, rfl⟩
        go_wp2_with fail
        go_returns
        exact ⟨by rw [← HE.out, HP.out]; rfl, rfl⟩
    · have e0 : ¬ (q : Int) < (l.length : Int) := by omega
      go_wp2_with fail
      go_returns
      exact ⟨by rw [← HE.out, endB_end nameB l q (by omega)]; rfl, rfl⟩

theorem afterTag_any (A : Option Addr) (l : Str) (cp k : Nat) (w : World) (hr : Rd w 1 A l.length (u8s l)) (hk : k ≤ l.length) (hm : l.length ≤ 1048576) :
    Calls Tryd.prog 52 #[.slice A l.length cp, .int .i64 (k : Int), .func (.func 58) #[] #[]] w fun e w' => e = .returned (.int .i64 ((endB tagB l k : Nat) : Int)) ∧ w = w' := by
  go_enter Tryd.func52, Tryd.ntmps52
  go_wp2_with fail
  go_loop [1] (fun i => ∃ q : Nat, i = .int .i64 q ∧ q ≤ l.length ∧ endB tagB l q = endB tagB l k) (fun i => l.length - (intOf i).toNat)
  case atStart => exact ⟨k, rfl, hk, rfl⟩
  case round =>
    obtain ⟨q, rfl, hq, he⟩ := hrel
    have HE := Lib.hid he
    clear he
    by_cases hlt : q < l.length
    · obtain ⟨b, o, rfl, hb, hc⟩ := hr.byte (k := q) hlt
      have g0 := hc q hlt
      have HR := Lib.hid hr
      clear hc hr
      have e0 : (q : Int) < (l.length : Int) := by omega
      cases hp : tagB l[q] with
      | true =>
        have HP := Lib.hid (endB_yes tagB l q hlt hp)
        have HPP := Lib.hid hp
        clear hp
        go_wp2_with fail
        refine (inTag_any l[q] w).mono ?_
        rw [HPP.out]
        rintro e w1 ⟨rfl, rfl⟩
        go_wp2_with fail
        go_round
        case rel => exact ⟨q + 1, by go_num, by omega, HP.out.trans HE.out⟩
        case measure => simp [intOf] <;> omega
      | false =>
        have HP := Lib.hid (endB_no tagB l q hlt hp)
        have HPP := Lib.hid hp
        clear hp
        go_wp2_with fail
        refine (inTag_any l[q] w).mono ?_
        rw [HPP.out]
        rintro e w1 ⟨rfl, rfl⟩
        go_wp2_with fail
        go_returns
        exact ⟨by rw [← HE.out, HP.out]; rfl, rfl⟩
    · have e0 : ¬ (q : Int) < (l.length : Int) := by omega
      go_wp2_with fail
      go_returns
      exact ⟨by rw [← HE.out, endB_end tagB l q (by omega)]; rfl, rfl⟩

theorem afterDigit_any (A : Option Addr) (l : Str) (cp k : Nat) (w : World) (hr : Rd w 1 A l.length (u8s l)) (hk : k ≤ l.length) (hm : l.length ≤ 1048576) :
    Calls Tryd.prog 52 #[.slice A l.length cp, .int .i64 (k : Int), .func (.func 59) #[] #[]] w fun e w' => e = .returned (.int .i64 ((endB digB l k : Nat) : Int)) ∧ w = w' := by
  go_enter Tryd.func52, Tryd.ntmps52
  go_wp2_with fail
  go_loop [1] (fun i => ∃ q : Nat, i = .int .i64 q ∧ q ≤ l.length ∧ endB digB l q = endB digB l k) (fun i => l.length - (intOf i).toNat)
  case atStart => exact ⟨k, rfl, hk, rfl⟩
  case round =>
    obtain ⟨q, rfl, hq, he⟩ := hrel
    have HE := Lib.hid he
    clear he
    by_cases hlt : q < l.length
    · obtain ⟨b, o, rfl, hb, hc⟩ := hr.byte (k := q) hlt
      have g0 := hc q hlt
      have HR := Lib.hid hr
      clear hc hr
      have e0 : (q : Int) < (l.length : Int) := by omega
      cases hp : digB l[q] with
      | true =>
        have HP := Lib.hid (endB_yes digB l q hlt hp)
        have HPP := Lib.hid hp
        clear hp
        go_wp2_with fail
        refine (isDigit_any l[q] w).mono ?_
        rw [HPP.out]
        rintro e w1 ⟨rfl, rfl⟩
        go_wp2_with fail
        go_round
        case rel => exact ⟨q + 1, by go_num, by omega, HP.out.trans HE.out⟩
        case measure => simp [intOf] <;> omega
      | false =>
        have HP := Lib.hid (endB_no digB l q hlt hp)
        have HPP := Lib.hid hp
        clear hp
        go_wp2_with fail
        refine (isDigit_any l[q] w).mono ?_
        rw [HPP.out]
        rintro e w1 ⟨rfl, rfl⟩
        go_wp2_with fail
        go_returns
        exact ⟨by rw [← HE.out, HP.out]; rfl, rfl⟩
    · have e0 : ¬ (q : Int) < (l.length : Int) := by omega
      go_wp2_with fail
      go_returns
      exact ⟨by rw [← HE.out, endB_end digB l q (by omega)]; rfl, rfl⟩

theorem afterSpace_any (A : Option Addr) (l : Str) (cp k : Nat) (w : World) (hr : Rd w 1 A l.length (u8s l)) (hk : k ≤ l.length) (hm : l.length ≤ 1048576) :
    Calls Tryd.prog 50 #[.slice A l.length cp, .int .i64 (k : Int)] w fun e w' => e = .returned (.int .i64 ((endB spcB l k : Nat) : Int)) ∧ w = w' := by
  go_enter Tryd.func50, Tryd.ntmps50
  go_wp2_with fail
  refine (afterSpc_any A l cp k w hr hk hm).mono ?_
  rintro e w1 ⟨rfl, rfl⟩
  go_wp2_with fail
  go_returns
  exact ⟨rfl, rfl⟩
end Go.Proofs.YtaglmmcjhlehjaaDoor
