/-
  Quoted texts, by the code.
-/
import Derived.Test.YtaglmmcjhlehjaaDoorLexA
namespace Go.Proofs.YtaglmmcjhlehjaaDoor
open Go.ChangeShapes Go.WideShapes Go.ChangeAt Go.RowKit
set_option linter.unusedVariables false
set_option linter.unusedSimpArgs false

/-- What stands while a text is quoted. -/
def qpre (a : Str) (o : Option Str) : Option Str := o.map (a ++ ·)
theorem qpre_pre (a b : Str) (o : Option Str) : qpre a (qpre b o) = qpre (a ++ b) o := by cases o <;> simp [qpre]
theorem qbody_cons (c : UInt8) (r : Str) : qbody (c :: r) = match qch c, qbody r with
    | some a, some b => some (a ++ b)
    | _, _ => none := rfl
theorem q_step {s acc a : Str} {q : Nat} (h : qbody s = qpre acc (qbody (s.drop q))) (hq : q < s.length) (hc : qch s[q] = some a) : qbody s = qpre (acc ++ a) (qbody (s.drop (q + 1))) := by
  have hd : qbody (s.drop q) = qpre a (qbody (s.drop (q + 1))) := by
    rw [List.drop_eq_getElem_cons hq, qbody_cons, hc]
    cases qbody (s.drop (q + 1)) <;> rfl
  rw [h, hd, qpre_pre]
theorem q_fail {s acc : Str} {q : Nat} (h : qbody s = qpre acc (qbody (s.drop q))) (hq : q < s.length) (hc : qch s[q] = none) : qbody s = none := by
  rw [h, List.drop_eq_getElem_cons hq, qbody_cons, hc]; rfl
theorem q_done {s acc : Str} {q : Nat} (h : qbody s = qpre acc (qbody (s.drop q))) (hq : s.length ≤ q) : qbody s = some acc := by
  rw [h, List.drop_of_length_le hq]; simp [qpre, qbody]
theorem qch_10 {c : UInt8} (h : c.toNat = 10) : qch c = some [92, 110] := by unfold qch; rw [if_pos h]
theorem qch_esc {c : UInt8} (h : c.toNat = 34 ∨ c.toNat = 92) : qch c = some [92, c] := by
  unfold qch; rw [if_neg (by omega), if_pos (by unfold plainB; rw [decide_eq_true_iff]; omega), if_pos h]
theorem qch_plain {c : UInt8} (h0 : c.toNat ≠ 10) (h : ¬ (c.toNat = 34 ∨ c.toNat = 92)) (hp : plainB c = true) : qch c = some [c] := by
  unfold qch; rw [if_neg h0, if_pos hp, if_neg h]
theorem qch_none {c : UInt8} (h0 : c.toNat ≠ 10) (hp : plainB c = false) : qch c = none := by
  unfold qch; rw [if_neg h0, if_neg (by simp [hp])]

theorem str_at (s : Str) (k : Nat) (h : k < (bstr s).size) (h2 : k < s.length) : (bstr s)[k]'h = s[k] := by
  show (bstr s).data[k] = s[k]
  simp [bstr]
theorem own_app {w : World} {B : Nat} {v : Value} {x y : Str} {m : Nat} {cs : List Value} (h : w.ownsRow B 5 1 v (x.length + m) (u8s x ++ cs)) (hm : m = y.length) (hc : cs = u8s y) : w.ownsRow B 5 1 v (x ++ y).length (u8s (x ++ y)) := by
  subst hm
  subst hc
  rw [u8s_append, List.length_append]; exact h

structure QL (w : World) (s : Str) (q : Nat) (acc : Str) (z : Value) (wr : World) : Prop where
  hi : q ≤ s.length
  inv : qbody s = qpre acc (qbody (s.drop q))
  own : wr.ownsRow w.heap.size 5 1 z ([34] ++ acc).length (u8s ([34] ++ acc))
  b : Below w.heap.size w wr
  len : acc.length ≤ 2 * q
def QuoteRes (s : Str) (w : World) (e : Ending) (w' : World) : Prop :=
  match quoteS s with
  | some q => e = .returned (.tuple #[.string (bstr q), .nilIface]) ∧ Below w.heap.size w w'
  | none => e = .returned (.tuple #[.string ⟨#[]⟩, .iface 33 (.int .i64 1)]) ∧ Below w.heap.size w w'

theorem quote_long (s : Str) (w : World) (h : 2000 < s.length) (hm : s.length ≤ maxLen) : Calls Tryd.prog 16 #[.string (bstr s)] w fun e w' => QuoteRes s w e w' := by
  have e : quoteS s = none := by unfold quoteS; rw [if_pos h]
  unfold QuoteRes
  rw [e]
  unfold maxLen at hm
  have hz := bstr_size s
  have h2 : (2000 : Int) < ((bstr s).size : Int) := by omega
  clear e hz
  go_enter Tryd.func16, Tryd.ntmps16
  go_wp2_with fail
  go_ret2
  exact ⟨rfl, Below.refl _ _⟩

set_option maxRecDepth 100000 in
set_option maxHeartbeats 3000000 in
theorem quote_short (s : Str) (w : World) (h : s.length ≤ 2000) : Calls Tryd.prog 16 #[.string (bstr s)] w fun e w' => QuoteRes s w e w' := by
  have hz : (bstr s).size = s.length := bstr_size s
  have HZ := Lib.hid hz
  have h2 : ¬ (2000 : Int) < ((bstr s).size : Int) := by omega
  have h3 : ((bstr s).size : Int) ≤ 2000 := by omega
  clear hz
  go_enter Tryd.func16, Tryd.ntmps16
  go_wp2_with fail
  have HO := Lib.hid (World.ownsRow_lit w #[.int .u8 34] 1 (e := 5) (size := 1) (base := w.heap.size) (by simp) (by simp [maxLen]) rfl)
  go_loopw [4, 14] (fun z i wr => ∃ (q : Nat) (acc : Str), i = .int .i64 q ∧ QL w s q acc z wr) (fun _ i _ => s.length - (intOf i).toNat)
  case atStart => exact ⟨0, [], rfl, ⟨Nat.zero_le _, by simp [qpre], HO.out, (Below.refl _ _).alloc (Nat.le_refl _) _, by simp⟩⟩
  case round =>
    obtain ⟨q, acc, rfl, hql⟩ := hrel
    have HQ := Lib.hid hql
    have hhi := hql.hi
    have hln := hql.len
    clear hql HO
    have z0 : (0 : Int) ≤ (q : Int) := by omega
    by_cases hq : q < s.length
    · have z1 : (q : Int) < ((bstr s).size : Int) := by rw [HZ.out]; omega
      have hb : q < (bstr s).size := by rw [HZ.out]; exact hq
      have hwr := HQ.out.b.size
      by_cases h10 : s[q].toNat = 10
      · have t10 : ((((bstr s)[q]'hb).toNat : Int) == 10) = true := by rw [str_at s q hb hq, beq_iff_eq]; omega
        have HCH := Lib.hid (qch_10 h10)
        clear h10
        go_wp2_with (at_builtin; refine wpList_app elU8 _ rfl (.tmp 26) (.tmp 27) rfl w.heap.size u4 ([34] ++ acc).length _ rfl (HQ.out.own.alloc _) (some ⟨wr.heap.size, 0, none⟩) 2 2 _ rfl (Rd.lit wr _ _ rfl) (two_u8 _ _) (by simp only [List.length_append, List.length_cons, List.length_nil]; omega) (by simp; omega) ?_; intro v' w6 hown6 hb6 _ _)
        have hown7 := own_app (y := [92, 110]) hown6 rfl rfl
        rw [List.append_assoc] at hown7
        have HN := Lib.hid (show QL w s (q + 1) (acc ++ [92, 110]) v' w6 from ⟨by omega, q_step HQ.out.inv hq HCH.out, hown7, (HQ.out.b.alloc HQ.out.b.size _).trans hb6, by simp only [List.length_append, List.length_cons, List.length_nil]; omega⟩)
        clear hown6 hb6 hown7
        go_wp2_with fail
        go_roundw
        case rel => exact ⟨q + 1, acc ++ [92, 110], by go_num, HN.out⟩
        case measure => simp [intOf] <;> omega
      · have t10 : ((((bstr s)[q]'hb).toNat : Int) == 10) = false := by rw [str_at s q hb hq, beq_eq_false_iff_ne]; omega
        by_cases h34 : s[q].toNat = 34
        · have t34 : ((((bstr s)[q]'hb).toNat : Int) == 34) = true := by rw [str_at s q hb hq, beq_iff_eq]; omega
          have HCH := Lib.hid (qch_esc (c := s[q]) (by omega))
          have hpl : plainB ((bstr s)[q]'hb) = true := by rw [str_at s q hb hq]; unfold plainB; rw [decide_eq_true_iff]; omega
          have HPL := Lib.hid (isPlain_any ((bstr s)[q]'hb))
          rw [hpl] at HPL
          clear hpl h10 h34
          go_wp2_with (at_builtin; refine wpList_app elU8 _ rfl (.tmp 29) (.tmp 30) rfl w.heap.size u4 ([34] ++ acc).length _ rfl (HQ.out.own.alloc _) (some ⟨wr.heap.size, 0, none⟩) 1 1 _ rfl (Rd.lit wr _ _ rfl) (one_u8 _) (by simp only [List.length_append, List.length_cons, List.length_nil]; omega) (by simp; omega) ?_; intro v5 w5 hown5 hb5 _ _)
          have H5 := Lib.hid (And.intro hown5 ((HQ.out.b.alloc HQ.out.b.size (.cells #[.int .u8 92] 5)).trans hb5))
          clear hown5 hb5
          refine (HPL.out w5).mono ?_
          rintro e w1 ⟨rfl, rfl⟩
          go_wp2_with (at_builtin; refine wpList_app elU8 _ rfl (.tmp 36) (.tmp 38) rfl w.heap.size v5 (([34] ++ acc).length + 1) _ rfl (H5.out.1.alloc _) (some ⟨w5.heap.size, 0, none⟩) 1 1 _ rfl (Rd.lit w5 _ _ rfl) (one_u8 _) (by simp only [List.length_append, List.length_cons, List.length_nil]; omega) (by have := H5.out.2.size; simp; omega) ?_; intro v' w6 hown6 hb6 _ _)
          have hown7 := own_app (x := [34] ++ acc) (y := [92, s[q]]) (m := 2) (by rw [List.append_assoc] at hown6; exact hown6) rfl (by simp only [u8s, str_at s q hb hq]; rfl)
          rw [List.append_assoc] at hown7
          have HN := Lib.hid (show QL w s (q + 1) (acc ++ [92, s[q]]) v' w6 from ⟨by omega, q_step HQ.out.inv hq HCH.out, hown7, (H5.out.2.alloc H5.out.2.size _).trans hb6, by simp only [List.length_append, List.length_cons, List.length_nil]; omega⟩)
          clear hown6 hb6 hown7
          go_wp2_with fail
          go_roundw
          case rel => exact ⟨q + 1, acc ++ [92, s[q]], by go_num, HN.out⟩
          case measure => simp [intOf] <;> omega
        · have t34 : ((((bstr s)[q]'hb).toNat : Int) == 34) = false := by rw [str_at s q hb hq, beq_eq_false_iff_ne]; omega
          by_cases h92 : s[q].toNat = 92
          · have t92 : ((((bstr s)[q]'hb).toNat : Int) == 92) = true := by rw [str_at s q hb hq, beq_iff_eq]; omega
            have HCH := Lib.hid (qch_esc (c := s[q]) (by omega))
            have hpl : plainB ((bstr s)[q]'hb) = true := by rw [str_at s q hb hq]; unfold plainB; rw [decide_eq_true_iff]; omega
            have HPL := Lib.hid (isPlain_any ((bstr s)[q]'hb))
            rw [hpl] at HPL
            clear hpl h10 h34 h92
            go_wp2_with (at_builtin; refine wpList_app elU8 _ rfl (.tmp 29) (.tmp 30) rfl w.heap.size u4 ([34] ++ acc).length _ rfl (HQ.out.own.alloc _) (some ⟨wr.heap.size, 0, none⟩) 1 1 _ rfl (Rd.lit wr _ _ rfl) (one_u8 _) (by simp only [List.length_append, List.length_cons, List.length_nil]; omega) (by simp; omega) ?_; intro v5 w5 hown5 hb5 _ _)
            have H5 := Lib.hid (And.intro hown5 ((HQ.out.b.alloc HQ.out.b.size (.cells #[.int .u8 92] 5)).trans hb5))
            clear hown5 hb5
            refine (HPL.out w5).mono ?_
            rintro e w1 ⟨rfl, rfl⟩
            go_wp2_with (at_builtin; refine wpList_app elU8 _ rfl (.tmp 36) (.tmp 38) rfl w.heap.size v5 (([34] ++ acc).length + 1) _ rfl (H5.out.1.alloc _) (some ⟨w5.heap.size, 0, none⟩) 1 1 _ rfl (Rd.lit w5 _ _ rfl) (one_u8 _) (by simp only [List.length_append, List.length_cons, List.length_nil]; omega) (by have := H5.out.2.size; simp; omega) ?_; intro v' w6 hown6 hb6 _ _)
            have hown7 := own_app (x := [34] ++ acc) (y := [92, s[q]]) (m := 2) (by rw [List.append_assoc] at hown6; exact hown6) rfl (by simp only [u8s, str_at s q hb hq]; rfl)
            rw [List.append_assoc] at hown7
            have HN := Lib.hid (show QL w s (q + 1) (acc ++ [92, s[q]]) v' w6 from ⟨by omega, q_step HQ.out.inv hq HCH.out, hown7, (H5.out.2.alloc H5.out.2.size _).trans hb6, by simp only [List.length_append, List.length_cons, List.length_nil]; omega⟩)
            clear hown6 hb6 hown7
            go_wp2_with fail
            go_roundw
            case rel => exact ⟨q + 1, acc ++ [92, s[q]], by go_num, HN.out⟩
            case measure => simp [intOf] <;> omega
          · have t92 : ((((bstr s)[q]'hb).toNat : Int) == 92) = false := by rw [str_at s q hb hq, beq_eq_false_iff_ne]; omega
            cases hp : plainB s[q] with
            | true =>
              have HCH := Lib.hid (qch_plain h10 (by omega) hp)
              have HPL := Lib.hid (isPlain_any ((bstr s)[q]'hb))
              have hpl : plainB ((bstr s)[q]'hb) = true := by rw [str_at s q hb hq]; exact hp
              rw [hpl] at HPL
              clear hp hpl h10 h34 h92
              go_wp2_with fail
              refine (HPL.out wr).mono ?_
              rintro e w1 ⟨rfl, rfl⟩
              go_wp2_with (at_builtin; refine wpList_app elU8 _ rfl (.tmp 36) (.tmp 38) rfl w.heap.size u4 ([34] ++ acc).length _ rfl (HQ.out.own.alloc _) (some ⟨wr.heap.size, 0, none⟩) 1 1 _ rfl (Rd.lit wr _ _ rfl) (one_u8 _) (by simp only [List.length_append, List.length_cons, List.length_nil]; omega) (by have := HQ.out.b.size; simp; omega) ?_; intro v' w6 hown6 hb6 _ _)
              have hown7 := own_app (x := [34] ++ acc) (y := [s[q]]) (m := 1) hown6 rfl (by simp only [u8s, str_at s q hb hq]; rfl)
              rw [List.append_assoc] at hown7
              have HN := Lib.hid (show QL w s (q + 1) (acc ++ [s[q]]) v' w6 from ⟨by omega, q_step HQ.out.inv hq HCH.out, hown7, (HQ.out.b.alloc HQ.out.b.size _).trans hb6, by simp only [List.length_append, List.length_cons, List.length_nil]; omega⟩)
              clear hown6 hb6 hown7
              go_wp2_with fail
              go_roundw
              case rel => exact ⟨q + 1, acc ++ [s[q]], by go_num, HN.out⟩
              case measure => simp [intOf] <;> omega
            | false =>
              have hqb := q_fail HQ.out.inv hq (qch_none h10 hp)
              have hqs : quoteS s = none := by unfold quoteS; rw [if_neg (by omega), hqb]; rfl
              have HR := Lib.hid hqs
              have HPL := Lib.hid (isPlain_any ((bstr s)[q]'hb))
              have hpl : plainB ((bstr s)[q]'hb) = false := by rw [str_at s q hb hq]; exact hp
              rw [hpl] at HPL
              clear hp hpl h10 h34 h92 hqb hqs
              go_wp2_with fail
              refine (HPL.out wr).mono ?_
              rintro e w1 ⟨rfl, rfl⟩
              go_wp2_with fail
              go_ret2
              unfold QuoteRes
              rw [HR.out]
              exact ⟨rfl, HQ.out.b⟩
    · have z1 : ¬ (q : Int) < ((bstr s).size : Int) := by rw [HZ.out]; omega
      have hqb := q_done HQ.out.inv (by omega)
      have hqs : quoteS s = some ([34] ++ acc ++ [34]) := by unfold quoteS; rw [if_neg (by omega), hqb]; rfl
      have HR := Lib.hid hqs
      clear hqb hqs
      obtain ⟨x, hx⟩ : ∃ x, [34] ++ acc = x := ⟨_, rfl⟩
      have hox := HQ.out.own
      rw [hx] at hox HR
      have HX := Lib.hid hox
      have HXL := Lib.hid (show x.length ≤ 1048576 by rw [← hx]; simp; omega)
      clear hox hx
      go_wp2_with (at_builtin; refine wpList_app elU8 _ rfl (.tmp 41) (.tmp 42) rfl w.heap.size u4 x.length _ rfl (HX.out.alloc _) (some ⟨wr.heap.size, 0, none⟩) 1 1 _ rfl (Rd.lit wr _ _ rfl) (one_u8 _) (by have := HXL.out; omega) (by have := HQ.out.b.size; simp; omega) ?_; intro v' w6 hown6 hb6 _ _; obtain ⟨A6, c6, hv6, _⟩ := own_cap hown6; rw [hv6] at hown6 ⊢; clear hv6; have hrd6 : Rd w6 1 A6 (x.length + 1) (u8s (x ++ [34])) := (by rw [u8s_append]; exact Rd.of_own hown6); have cv := conv_bytes (c := c6) (by simp) hrd6)
      go_ret2
      unfold QuoteRes
      rw [HR.out]
      exact ⟨rfl, (HQ.out.b.alloc HQ.out.b.size _).trans hb6⟩
end Go.Proofs.YtaglmmcjhlehjaaDoor
