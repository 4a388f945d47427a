/-
  The functions that unpack, one by one.
-/
import Derived.Test.YtjhkblaplfhfcaaUnpackMath
import Derived.Test.YtjhkblaplfhfcaaWordF
namespace Go.Proofs.Ytjhkblaplfhfcaa
open Go.ChangeShapes Go.WideShapes Go.ChangeAt Go.RowKit
set_option linter.unusedVariables false

theorem byteOf_any (p : Bool) (v i : Int) (h0 : 0 ≤ i) (h1 : i ≤ 7) (w : World) : Calls Try.prog 22 #[.agg #[.bool p, .int .i64 v], .int .i64 i] w fun e w' => e = .returned (.int .u8 ((byteVal v i).toNat : Int)) ∧ Below w.heap.size w w' := by
  go_enter Try.func22, Try.ntmps22
  go_wp2
  go_returns
  exact ⟨ret_eq (congrArg (Value.int .u8) (byte_val v i h0)), by go_grown⟩

theorem restIsZero_any (p : Bool) (v n : Int) (h0 : 0 ≤ n) (h1 : n ≤ 1073741824) (w : World) : Calls Try.prog 26 #[.agg #[.bool p, .int .i64 v], .int .i64 n] w fun e w' => e = .returned (.bool (restZ v n)) ∧ Below w.heap.size w w' := by
  go_enter Try.func26, Try.ntmps26
  go_wp2
  · rename_i h
    go_returns
    exact ⟨ret_eq (congrArg Value.bool (by rw [restZ, decide_eq_true h]; rfl)), by go_grown⟩
  · rename_i h
    go_returns
    refine ⟨ret_eq (congrArg Value.bool ?_), by go_grown⟩
    have e := shr_div v (n % 8) (by omega)
    unfold restZ
    show (n % 8 == 0 || IntKind.u64.wrap v / 2 ^ (8 * (n % 8)).toNat == 0) = _
    rw [e]
    generalize u64n v / 256 ^ (n % 8).toNat = q
    have e1 : (n % 8 == 0) = decide (n % 8 = 0) := rfl
    have e2 : ((q : Int) == 0) = decide (q = 0) := by rw [Bool.eq_iff_iff, beq_iff_eq, decide_eq_true_eq]; omega
    rw [e1, e2]

/-- A word of a slice, cell by cell. -/
theorem rd_word {w : World} {A : Option Addr} {ws : List Wd} {n : Nat} (h : Rd w 2 A n (wcells ws)) {k : Nat} (hk : k < ws.length) :
    ∃ b o, A = some ⟨b, o, none⟩ ∧ b < w.heap.size ∧ w.cell? ⟨b, o + k * 2, none⟩ = some (.bool ws[k].1) ∧ w.cell? ⟨b, o + k * 2 + 1, none⟩ = some (.int .i64 (wat ws k)) := by
  obtain ⟨b, o, rfl, hb, hh⟩ := h.base (by rw [wcells_length]; omega)
  have h1 := wcells_at ws k hk
  rw [Nat.mul_comm 2 k] at h1
  refine ⟨b, o, rfl, hb, hh _ _ h1.1, ?_⟩
  have h2 := hh _ _ h1.2
  rw [← Nat.add_assoc] at h2
  rw [h2]
  simp [wat, hk]

theorem arePacked_any (A : Option Addr) (ws : List Wd) (n c : Nat) (hn : n = ws.length) (w : World) (hr : Rd w 2 A n (wcells ws)) (hm : ws.length ≤ 1048576) :
    Calls Try.prog 21 #[.slice A n c] w fun e w' => e = .returned (.bool (arePackedB ws)) ∧ Below w.heap.size w w' := by
  subst hn
  go_enter Try.func21, Try.ntmps21
  go_wp2_with fail
  go_loopw [8] (fun i wr => ∃ k : Nat, k ≤ ws.length ∧ i = .int .i64 k ∧ (ws.take k).all (fun p => !p.1) = true ∧ Below w.heap.size w wr) (fun i _ => ws.length - (intOf i).toNat)
  case atStart => exact ⟨0, Nat.zero_le _, rfl, rfl, Below.refl _ _⟩
  case round =>
    obtain ⟨k, hk, rfl, hall, hb⟩ := hrel
    by_cases hlt : k < ws.length
    · obtain ⟨b, o, rfl, hba, hc0, hc1⟩ := rd_word (hr.below hb) hlt
      have HA := Lib.hid hall
      clear hall
      cases hp : ws[k].1 with
      | true =>
        rw [hp] at hc0
        have hbad : arePackedB ws = false := by
          cases h : arePackedB ws with
          | false => rfl
          | true =>
            have := List.all_eq_true.1 ((arePackedB_iff ws).1 h).1 ws[k] (List.getElem_mem hlt)
            rw [hp] at this
            cases this
        have HB := Lib.hid hbad
        clear hbad hp
        go_wp2_with fail
        go_returns
        exact ⟨ret_eq (by rw [HB.out]; rfl), hb.alloc hb.size _⟩
      | false =>
        rw [hp] at hc0
        have HP := Lib.hid hp
        clear hp
        go_wp2_with fail
        go_roundw
        case rel => exact ⟨k + 1, by omega, by go_num, by rw [List.take_succ_eq_append_getElem hlt, List.all_append, HA.out]; simp [HP.out], hb.alloc hb.size _⟩
        case measure => simp [intOf] <;> omega
    · obtain rfl : k = ws.length := by omega
      rw [List.take_length] at hall
      have HA := Lib.hid hall
      clear hall hk hlt
      have hr' := hr.below hb
      rcases Nat.eq_zero_or_pos ws.length with h0 | h0
      · have hbad : arePackedB ws = false := by
          cases h : arePackedB ws with
          | false => rfl
          | true => have := ((arePackedB_iff ws).1 h).2.1; omega
        have HB := Lib.hid hbad
        clear hbad
        go_wp2_with fail
        go_returns
        exact ⟨ret_eq (by rw [HB.out]; rfl), hb⟩
      · obtain ⟨b, o, rfl, hba, hc0, hc1⟩ := rd_word hr' h0
        rw [Nat.zero_mul, Nat.add_zero] at hc0 hc1
        have hne : ((ws.length : Int) == 0) = false := by rw [beq_eq_false_iff_ne]; omega
        have hne2 : ¬ ws = [] := by rintro rfl; simp at h0
        by_cases hneg : wat ws 0 < 0
        · have hbad : arePackedB ws = false := by
            cases h : arePackedB ws with
            | false => rfl
            | true => have := ((arePackedB_iff ws).1 h).2.2.1; omega
          have HB := Lib.hid hbad
          clear hbad
          go_wp2_with fail
          go_returns
          exact ⟨ret_eq (by rw [HB.out]; rfl), hb⟩
        · have hneg' : 0 ≤ wat ws 0 := by omega
          by_cases hbig : ((ws.length : Int) - 1) * 8 < wat ws 0
          · have hbad : arePackedB ws = false := by
              cases h : arePackedB ws with
              | false => rfl
              | true => have := ((arePackedB_iff ws).1 h).2.2.2.1; omega
            have HB := Lib.hid hbad
            clear hbad
            go_wp2_with fail
            go_returns
            exact ⟨ret_eq (by rw [HB.out]; rfl), hb⟩
          · have hbig' : wat ws 0 ≤ ((ws.length : Int) - 1) * 8 := by omega
            obtain ⟨b', o', e', _, hl0, hl1⟩ := rd_word hr' (k := ws.length - 1) (by omega)
            simp only [Option.some.injEq, Addr.mk.injEq, and_true] at e'
            obtain ⟨rfl, rfl⟩ := e'
            by_cases heq : 1 + (wat ws 0 + 7) / 8 = (ws.length : Int)
            · have hgood : arePackedB ws = restZ (wat ws (ws.length - 1)) (wat ws 0) := by
                unfold arePackedB restZ
                rw [HA.out, decide_eq_true h0, decide_eq_true hneg', decide_eq_true (by omega : wat ws 0 ≤ ((ws.length - 1 : Nat) : Int) * 8), decide_eq_true heq]
                simp
              have HB := Lib.hid hgood
              have he1 : (1 + (wat ws 0 + 7) / 8 == (ws.length : Int)) = true := by rw [beq_iff_eq]; exact heq
              clear hgood heq
              go_wp2_with fail
              refine (wordsOf_any _ (by omega) (by omega) _).mono ?_
              rintro e w2 ⟨rfl, rfl⟩
              go_wp2_with fail
              refine (restIsZero_any _ _ _ hneg (by omega) _).mono ?_
              rintro e w3 ⟨rfl, hb3⟩
              go_wp2_with fail
              go_returns
              exact ⟨ret_eq (by rw [HB.out]; rfl), below_then hb hb3⟩
            · have hbad : arePackedB ws = false := by
                cases h : arePackedB ws with
                | false => rfl
                | true => have := ((arePackedB_iff ws).1 h).2.2.2.2.1; omega
              have HB := Lib.hid hbad
              have he1 : (1 + (wat ws 0 + 7) / 8 == (ws.length : Int)) = false := by rw [beq_eq_false_iff_ne]; exact heq
              clear hbad heq
              go_wp2_with fail
              refine (wordsOf_any _ (by omega) (by omega) _).mono ?_
              rintro e w2 ⟨rfl, rfl⟩
              go_wp2_with fail
              go_returns
              exact ⟨ret_eq (by rw [HB.out]; rfl), hb⟩
end Go.Proofs.Ytjhkblaplfhfcaa
