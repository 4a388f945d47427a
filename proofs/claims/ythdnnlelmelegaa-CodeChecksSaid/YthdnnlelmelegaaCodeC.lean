/-
  Lists of integers, of texts, instructions held against each other, by the library and the code.
-/
import Derived.Test.YthdnnlelmelegaaCodeA
namespace Go.Proofs.Ythdnnlelmelegaa
open Go.ChangeShapes Go.WideShapes Go.ChangeAt Go.RowKit
set_option linter.unusedVariables false

theorem eqInt64_any (A B : Option Addr) (l r : List Int) (n c m d : Nat) (w : World) (hr : Rd w 1 A n (i64s l)) (hs : Rd w 1 B m (i64s r)) (hm : n ≤ maxLen) (hm2 : m ≤ maxLen) :
    Calls Try.prog 20 #[.slice A n c, .slice B m d] w fun e w' => e = .returned (.bool (decide (l = r))) ∧ Below w.heap.size w w' := by
  have hl := hr.ints
  have hl2 := hs.ints
  subst hl
  subst hl2
  unfold maxLen at hm hm2
  by_cases hlen : l.length = r.length
  · go_enter Try.func20, Try.ntmps20
    have hlz : (((l.length : Nat) : Int) == ((r.length : Nat) : Int)) = true := by rw [hlen]; simp
    go_wp2_with fail
    clear hlz
    go_loopw [13] (fun i wr => ∃ k : Nat, i = .int .i64 k ∧ k ≤ l.length ∧ l.take k = r.take k ∧ Below w.heap.size w wr) (fun i _ => l.length - (intOf i).toNat)
    case atStart => exact ⟨0, rfl, by omega, by simp, Below.refl _ _⟩
    case round =>
      obtain ⟨k, rfl, hk, he, hb⟩ := hrel
      by_cases hlt : k < l.length
      · obtain ⟨b, o, rfl, _, hc⟩ := (hr.below hb).int (k := k) hlt
        obtain ⟨b', o', rfl, _, hc'⟩ := (hs.below hb).int (k := k) (by omega)
        have h1 := hc k hlt
        have h2 := hc' k (by omega)
        clear hc hr hc' hs
        have HE := Lib.hid he
        clear he
        by_cases hq0 : l[k] = r[k]
        · have hq : ((l[k] : Int) == r[k]) = true := by simpa using hq0
          have HQ := Lib.hid hq0
          clear hq0
          go_wp2_with fail
          have i1 : (k : Int) < (l.length : Int) := by omega
          have i2 : (k : Int) < (r.length : Int) := by omega
          go_quiet (fail)
          clear i1 i2
          go_wp2_with fail
          go_roundw
          case rel => exact ⟨k + 1, by go_num, by omega, by rw [List.take_succ_eq_append_getElem hlt, List.take_succ_eq_append_getElem (by omega), HE.out, HQ.out], below_drewN hb _⟩
          case measure => simp [intOf] <;> omega
        · have hq : ((l[k] : Int) == r[k]) = false := by simpa using hq0
          have HQ := Lib.hid hq0
          clear hq0
          go_wp2_with fail
          have i1 : (k : Int) < (l.length : Int) := by omega
          have i2 : (k : Int) < (r.length : Int) := by omega
          go_quiet (fail)
          clear i1 i2
          go_wp2_with fail
          go_returns
          exact ⟨by rw [decide_eq_false (show ¬ l = r from fun h => HQ.out (by subst h; rfl))]; rfl, below_drewN hb _⟩
      · go_wp2_with fail
        go_returns
        obtain rfl : k = l.length := by omega
        refine ⟨?_, hb⟩
        rw [List.take_length, hlen, List.take_length] at he
        rw [decide_eq_true he]; rfl
  · go_enter Try.func20, Try.ntmps20
    have hlz : (((l.length : Nat) : Int) == ((r.length : Nat) : Int)) = false := by rw [beq_eq_false_iff_ne]; omega
    go_wp2_with fail
    go_returns
    exact ⟨by rw [decide_eq_false (show ¬ l = r from fun h => hlen (by rw [h]))]; rfl, Below.refl _ _⟩

theorem eqInt_any (A B : Option Addr) (l r : List Int) (n c m d : Nat) (w : World) (hr : Rd w 1 A n (i64s l)) (hs : Rd w 1 B m (i64s r)) (hm : n ≤ maxLen) (hm2 : m ≤ maxLen) :
    Calls Try.prog 40 #[.slice A n c, .slice B m d] w fun e w' => e = .returned (.bool (decide (l = r))) ∧ Below w.heap.size w w' := by
  have hl := hr.ints
  have hl2 := hs.ints
  subst hl
  subst hl2
  unfold maxLen at hm hm2
  by_cases hlen : l.length = r.length
  · go_enter Try.func40, Try.ntmps40
    have hlz : (((l.length : Nat) : Int) == ((r.length : Nat) : Int)) = true := by rw [hlen]; simp
    go_wp2_with fail
    clear hlz
    go_loopw [13] (fun i wr => ∃ k : Nat, i = .int .i64 k ∧ k ≤ l.length ∧ l.take k = r.take k ∧ Below w.heap.size w wr) (fun i _ => l.length - (intOf i).toNat)
    case atStart => exact ⟨0, rfl, by omega, by simp, Below.refl _ _⟩
    case round =>
      obtain ⟨k, rfl, hk, he, hb⟩ := hrel
      by_cases hlt : k < l.length
      · obtain ⟨b, o, rfl, _, hc⟩ := (hr.below hb).int (k := k) hlt
        obtain ⟨b', o', rfl, _, hc'⟩ := (hs.below hb).int (k := k) (by omega)
        have h1 := hc k hlt
        have h2 := hc' k (by omega)
        clear hc hr hc' hs
        have HE := Lib.hid he
        clear he
        by_cases hq0 : l[k] = r[k]
        · have hq : ((l[k] : Int) == r[k]) = true := by simpa using hq0
          have HQ := Lib.hid hq0
          clear hq0
          go_wp2_with fail
          have i1 : (k : Int) < (l.length : Int) := by omega
          have i2 : (k : Int) < (r.length : Int) := by omega
          go_quiet (fail)
          clear i1 i2
          go_wp2_with fail
          go_roundw
          case rel => exact ⟨k + 1, by go_num, by omega, by rw [List.take_succ_eq_append_getElem hlt, List.take_succ_eq_append_getElem (by omega), HE.out, HQ.out], below_drewN hb _⟩
          case measure => simp [intOf] <;> omega
        · have hq : ((l[k] : Int) == r[k]) = false := by simpa using hq0
          have HQ := Lib.hid hq0
          clear hq0
          go_wp2_with fail
          have i1 : (k : Int) < (l.length : Int) := by omega
          have i2 : (k : Int) < (r.length : Int) := by omega
          go_quiet (fail)
          clear i1 i2
          go_wp2_with fail
          go_returns
          exact ⟨by rw [decide_eq_false (show ¬ l = r from fun h => HQ.out (by subst h; rfl))]; rfl, below_drewN hb _⟩
      · go_wp2_with fail
        go_returns
        obtain rfl : k = l.length := by omega
        refine ⟨?_, hb⟩
        rw [List.take_length, hlen, List.take_length] at he
        rw [decide_eq_true he]; rfl
  · go_enter Try.func40, Try.ntmps40
    have hlz : (((l.length : Nat) : Int) == ((r.length : Nat) : Int)) = false := by rw [beq_eq_false_iff_ne]; omega
    go_wp2_with fail
    go_returns
    exact ⟨by rw [decide_eq_false (show ¬ l = r from fun h => hlen (by rw [h]))]; rfl, Below.refl _ _⟩

theorem eqStr_any (A B : Option Addr) (l r : List Str) (n c m d : Nat) (w : World) (hr : Rd w 1 A n (strs l)) (hs : Rd w 1 B m (strs r)) (hm : n ≤ maxLen) (hm2 : m ≤ maxLen) :
    Calls Try.prog 21 #[.slice A n c, .slice B m d] w fun e w' => e = .returned (.bool (decide (l = r))) ∧ Below w.heap.size w w' := by
  have hl := hr.strN
  have hl2 := hs.strN
  subst hl
  subst hl2
  unfold maxLen at hm hm2
  by_cases hlen : l.length = r.length
  · go_enter Try.func21, Try.ntmps21
    have hlz : (((l.length : Nat) : Int) == ((r.length : Nat) : Int)) = true := by rw [hlen]; simp
    go_wp2_with fail
    clear hlz
    go_loopw [13] (fun i wr => ∃ k : Nat, i = .int .i64 k ∧ k ≤ l.length ∧ l.take k = r.take k ∧ Below w.heap.size w wr) (fun i _ => l.length - (intOf i).toNat)
    case atStart => exact ⟨0, rfl, by omega, by simp, Below.refl _ _⟩
    case round =>
      obtain ⟨k, rfl, hk, he, hb⟩ := hrel
      by_cases hlt : k < l.length
      · obtain ⟨b, o, rfl, _, hc⟩ := (hr.below hb).str (k := k) hlt
        obtain ⟨b', o', rfl, _, hc'⟩ := (hs.below hb).str (k := k) (by omega)
        have h1 := hc k hlt
        have h2 := hc' k (by omega)
        clear hc hr hc' hs
        have HE := Lib.hid he
        clear he
        by_cases hq0 : l[k] = r[k]
        · have hq : ((bstr l[k]).toList == (bstr r[k]).toList) = true := by rw [beq_bstr]; simpa using hq0
          have HQ := Lib.hid hq0
          clear hq0
          go_wp2_with fail
          have i1 : (k : Int) < (l.length : Int) := by omega
          have i2 : (k : Int) < (r.length : Int) := by omega
          go_quiet (fail)
          clear i1 i2
          go_wp2_with fail
          go_roundw
          case rel => exact ⟨k + 1, by go_num, by omega, by rw [List.take_succ_eq_append_getElem hlt, List.take_succ_eq_append_getElem (by omega), HE.out, HQ.out], below_drewN hb _⟩
          case measure => simp [intOf] <;> omega
        · have hq : ((bstr l[k]).toList == (bstr r[k]).toList) = false := by rw [beq_bstr]; simpa using hq0
          have HQ := Lib.hid hq0
          clear hq0
          go_wp2_with fail
          have i1 : (k : Int) < (l.length : Int) := by omega
          have i2 : (k : Int) < (r.length : Int) := by omega
          go_quiet (fail)
          clear i1 i2
          go_wp2_with fail
          go_returns
          exact ⟨by rw [decide_eq_false (show ¬ l = r from fun h => HQ.out (by subst h; rfl))]; rfl, below_drewN hb _⟩
      · go_wp2_with fail
        go_returns
        obtain rfl : k = l.length := by omega
        refine ⟨?_, hb⟩
        rw [List.take_length, hlen, List.take_length] at he
        rw [decide_eq_true he]; rfl
  · go_enter Try.func21, Try.ntmps21
    have hlz : (((l.length : Nat) : Int) == ((r.length : Nat) : Int)) = false := by rw [beq_eq_false_iff_ne]; omega
    go_wp2_with fail
    go_returns
    exact ⟨by rw [decide_eq_false (show ¬ l = r from fun h => hlen (by rw [h]))]; rfl, Below.refl _ _⟩

/-- An instruction, as a value. -/
def AIns.value (x : AIns) : Value := .agg #[.int .i64 x.op, .int .i64 x.a, .slice x.A x.n x.c]
def sameIns (x y : AIns) : Bool := decide (x.op = y.op ∧ x.a = y.a ∧ x.l = y.l)

theorem sameInstr_any (x y : AIns) (w : World) (hx : x.In w) (hy : y.In w) :
    Calls Try.prog 31 #[x.value, y.value] w fun e w' => e = .returned (.bool (sameIns x y)) ∧ Below w.heap.size w w' := by
  have hx2 := hx.rd
  have hy2 := hy.rd
  have m1 := Nat.le_trans hx.cap.1 hx.cap.2
  have m2 := Nat.le_trans hy.cap.1 hy.cap.2
  clear hx hy
  have hb0 : Below w.heap.size w ((w.alloc (.cells #[.int .i64 x.op, .int .i64 x.a, .slice x.A x.n x.c] 47)).alloc (.cells #[.int .i64 y.op, .int .i64 y.a, .slice y.A y.n y.c] 47)) := ((Below.refl _ _).alloc (Nat.le_refl _) _).alloc (by simp) _
  by_cases h1 : x.op = y.op
  · have q1 : ((x.op : Int) == y.op) = true := by simpa using h1
    by_cases h2 : x.a = y.a
    · have q2 : ((x.a : Int) == y.a) = true := by simpa using h2
      have HE := Lib.hid (And.intro h1 h2)
      clear h1 h2
      go_enter Try.func31, Try.ntmps31
      unfold AIns.value
      go_wp2_with fail
      refine (eqInt_any x.A y.A x.l y.l x.n x.c y.n y.c _ (hx2.below hb0) (hy2.below hb0) m1 m2).mono ?_
      rintro e w1 ⟨rfl, hb⟩
      go_wp2_with fail
      go_returns
      refine ⟨?_, below_then hb0 hb⟩
      have e : sameIns x y = decide (x.l = y.l) := by
        unfold sameIns
        rw [Bool.eq_iff_iff, decide_eq_true_eq, decide_eq_true_eq]
        exact ⟨fun h => h.2.2, fun h => ⟨HE.out.1, HE.out.2, h⟩⟩
      rw [e]; rfl
    · have q2 : ((x.a : Int) == y.a) = false := by simpa using h2
      have e : sameIns x y = false := decide_eq_false (fun h => h2 h.2.1)
      clear h1 h2
      go_enter Try.func31, Try.ntmps31
      unfold AIns.value
      go_wp2_with fail
      go_returns
      exact ⟨by rw [e]; rfl, hb0⟩
  · have q1 : ((x.op : Int) == y.op) = false := by simpa using h1
    have e : sameIns x y = false := decide_eq_false (fun h => h1 h.1)
    clear h1
    go_enter Try.func31, Try.ntmps31
    unfold AIns.value
    go_wp2_with fail
    go_returns
    exact ⟨by rw [e]; rfl, hb0⟩
end Go.Proofs.Ythdnnlelmelegaa
