/-
  Quoted texts, by the document's answer.
-/
import Derived.Test.YtaglmmcjhlehjaaGreatDoorLexQ
import Derived.Laws.Strings2
namespace Go.Proofs.YtaglmmcjhlehjaaGreatDoor
open Go.ChangeShapes Go.WideShapes Go.ChangeAt Go.RowKit
set_option linter.unusedVariables false
set_option linter.unusedSimpArgs false

theorem bstr_app (a b : Str) : bstr a ++ bstr b = bstr (a ++ b) := by
  apply ByteArray.ext
  simp [bstr]
theorem bstr_part (s : Str) (i j : Nat) : (bstr s).extract i j = bstr ((s.drop i).take (j - i)) := by
  apply ByteArray.ext
  simp [bstr, List.extract_toArray, List.extract_eq_take_drop]

structure QR (s x : Str) (q : Nat) (acc : Str) : Prop where
  hi : q ≤ s.length
  inv : qbody s = qpre acc (qbody (s.drop q))
  eq : x = [34] ++ acc
  len : x.length ≤ 2 * q + 1
def RefQuoteRes (s : Str) (w : World) (e : Ending) (w' : World) : Prop := ∃ (q : Str) (ok : Bool), e = .returned (.tuple #[.string (bstr q), .bool ok]) ∧ w = w' ∧ quoteS s = (if ok then some q else none)

set_option maxRecDepth 100000 in
set_option maxHeartbeats 2000000 in
theorem refQuote_any (s : Str) (w : World) (h : s.length ≤ 3000000) : Calls Tryz.prog 40 #[.string (bstr s)] w fun e w' => RefQuoteRes s w e w' := by
  have hz : (bstr s).size = s.length := bstr_size s
  have HZ := Lib.hid hz
  have h3 : ((bstr s).size : Int) ≤ 3000000 := by omega
  clear hz
  go_enter Tryz.func40, Tryz.ntmps40
  go_wp2_with fail
  go_loop [4, 5] (fun z i => ∃ (q : Nat) (acc x : Str), i = .int .i64 q ∧ z = .string (bstr x) ∧ QR s x q acc) (fun _ i => s.length - (intOf i).toNat)
  case atStart => exact ⟨0, [], [34], rfl, rfl, ⟨Nat.zero_le _, by simp [qpre], rfl, by simp⟩⟩
  case round =>
    obtain ⟨q, acc, x, rfl, rfl, hqr⟩ := hrel
    have HI := Lib.hid hqr
    have hhi := hqr.hi
    have hsz : (bstr x).size ≤ 7000000 := by have := hqr.len; rw [bstr_size]; omega
    clear hqr
    have z0 : (0 : Int) ≤ (q : Int) := by omega
    by_cases hq : q < s.length
    · have z1 : (q : Int) < ((bstr s).size : Int) := by rw [HZ.out]; omega
      have z2 : (q : Int) + 1 ≤ ((bstr s).size : Int) := by rw [HZ.out]; omega
      have hb : q < (bstr s).size := by rw [HZ.out]; exact hq
      by_cases h10 : s[q].toNat = 10
      · have t10 : ((((bstr s)[q]'hb).toNat : Int) == 10) = true := by rw [str_at s q hb hq, beq_iff_eq]; omega
        have HCH := Lib.hid (qch_10 h10)
        clear h10
        go_wp2_with fail
        go_round
        case rel => exact ⟨q + 1, acc ++ [92, 110], x ++ [92, 110], by go_num, congrArg Value.string (bstr_app x [92, 110]), ⟨by omega, q_step HI.out.inv hq HCH.out, by rw [HI.out.eq, List.append_assoc], by have := HI.out.len; simp; omega⟩⟩
        case measure => simp [intOf] <;> omega
      · have t10 : ((((bstr s)[q]'hb).toNat : Int) == 10) = false := by rw [str_at s q hb hq, beq_eq_false_iff_ne]; omega
        cases hp : plainB s[q] with
        | false =>
          have hqb := q_fail HI.out.inv hq (qch_none h10 hp)
          have hqs : quoteS s = none := by unfold quoteS; rw [hqb]; split <;> rfl
          have HR := Lib.hid hqs
          have hp2 : ¬ (32 ≤ ((bstr s)[q]'hb).toNat ∧ ((bstr s)[q]'hb).toNat ≤ 126) := by rw [str_at s q hb hq]; exact of_decide_eq_false hp
          clear hqb hqs hp h10
          by_cases h32 : (((bstr s)[q]'hb).toNat : Int) < 32
          · go_wp2_with fail
            go_ret2
            exact ⟨[], false, rfl, rfl, HR.out⟩
          · have h126 : (126 : Int) < (((bstr s)[q]'hb).toNat : Int) := by omega
            go_wp2_with fail
            go_ret2
            exact ⟨[], false, rfl, rfl, HR.out⟩
        | true =>
          have hp2 : 32 ≤ ((bstr s)[q]'hb).toNat ∧ ((bstr s)[q]'hb).toNat ≤ 126 := by rw [str_at s q hb hq]; exact of_decide_eq_true hp
          have z3 : ¬ (((bstr s)[q]'hb).toNat : Int) < 32 := by omega
          have z4 : ¬ (126 : Int) < (((bstr s)[q]'hb).toNat : Int) := by omega
          have hpart : (bstr s).extract q (q + 1) = bstr [s[q]] := by
            rw [bstr_part, Nat.add_sub_cancel_left, List.drop_eq_getElem_cons hq]; rfl
          have hsl : (Instr.slice 9 (.string (bstr s)) (some (.int .i64 (q : Int))) (some (.int .i64 ((q : Int) + 1))) none).run Tryz.prog w = .ok (.string (bstr [s[q]])) w := by
            rw [run_slice_string w 9 (bstr s) .i64 .i64 (q : Int) ((q : Int) + 1) Tryz.underlying9 (by omega) (by omega) (by omega), show ((q : Int) + 1).toNat = q + 1 from by omega, show (q : Int).toNat = q from by omega, hpart]
          have hs1 : (bstr [s[q]]).size ≤ 1 := by rw [bstr_size]; simp
          clear hpart
          by_cases h34 : s[q].toNat = 34 ∨ s[q].toNat = 92
          · have HCH := Lib.hid (qch_esc h34)
            rcases h34 with h34 | h92
            · have t34 : ((((bstr s)[q]'hb).toNat : Int) == 34) = true := by rw [str_at s q hb hq, beq_iff_eq]; omega
              clear h34 hp hp2 h10
              go_wp2_with fail
              go_round
              case rel => exact ⟨q + 1, acc ++ [92, s[q]], x ++ [92] ++ [s[q]], by go_num, (by rw [← bstr_app, ← bstr_app]; rfl), ⟨by omega, q_step HI.out.inv hq HCH.out, by rw [HI.out.eq, List.append_assoc, List.append_assoc]; rfl, by have := HI.out.len; simp; omega⟩⟩
              case measure => simp [intOf] <;> omega
            · have t34 : ((((bstr s)[q]'hb).toNat : Int) == 34) = false := by rw [str_at s q hb hq, beq_eq_false_iff_ne]; omega
              have t92 : ((((bstr s)[q]'hb).toNat : Int) == 92) = true := by rw [str_at s q hb hq, beq_iff_eq]; omega
              clear h92 hp hp2 h10
              go_wp2_with fail
              go_round
              case rel => exact ⟨q + 1, acc ++ [92, s[q]], x ++ [92] ++ [s[q]], by go_num, (by rw [← bstr_app, ← bstr_app]; rfl), ⟨by omega, q_step HI.out.inv hq HCH.out, by rw [HI.out.eq, List.append_assoc, List.append_assoc]; rfl, by have := HI.out.len; simp; omega⟩⟩
              case measure => simp [intOf] <;> omega
          · have t34 : ((((bstr s)[q]'hb).toNat : Int) == 34) = false := by rw [str_at s q hb hq, beq_eq_false_iff_ne]; omega
            have t92 : ((((bstr s)[q]'hb).toNat : Int) == 92) = false := by rw [str_at s q hb hq, beq_eq_false_iff_ne]; omega
            have HCH := Lib.hid (qch_plain h10 h34 hp)
            clear h34 hp hp2 h10
            go_wp2_with fail
            go_round
            case rel => exact ⟨q + 1, acc ++ [s[q]], x ++ [s[q]], by go_num, (by rw [← bstr_app]), ⟨by omega, q_step HI.out.inv hq HCH.out, by rw [HI.out.eq, List.append_assoc], by have := HI.out.len; simp; omega⟩⟩
            case measure => simp [intOf] <;> omega
    · have z1 : ¬ (q : Int) < ((bstr s).size : Int) := by rw [HZ.out]; omega
      have hqb := q_done HI.out.inv (by omega)
      have HQB := Lib.hid hqb
      clear hqb
      by_cases hl : s.length ≤ 2000
      · have z5 : ((bstr s).size : Int) ≤ 2000 := by rw [HZ.out]; omega
        go_wp2_with fail
        go_ret2
        refine ⟨x ++ [34], true, ?_, rfl, ?_⟩
        · rw [← bstr_app]; rfl
        · unfold quoteS; rw [if_neg (by omega), HQB.out, HI.out.eq]; rfl
      · have z5 : ¬ ((bstr s).size : Int) ≤ 2000 := by rw [HZ.out]; omega
        go_wp2_with fail
        go_ret2
        refine ⟨x ++ [34], false, ?_, rfl, ?_⟩
        · rw [← bstr_app]; rfl
        · unfold quoteS; rw [if_pos (by omega)]; rfl
end Go.Proofs.YtaglmmcjhlehjaaGreatDoor
