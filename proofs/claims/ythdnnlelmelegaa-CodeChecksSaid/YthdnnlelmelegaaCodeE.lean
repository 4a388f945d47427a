/-
  Functions, and images, held against each other, by the code.
-/
import Derived.Test.YthdnnlelmelegaaCodeD
namespace Go.Proofs.Ythdnnlelmelegaa
open Go.ChangeShapes Go.WideShapes Go.ChangeAt Go.RowKit
set_option linter.unusedVariables false

/-- A function, as a value. -/
def AFnc.value (x : AFnc) : Value := .agg #[.int .i64 x.regs, .int .i64 x.caps, .slice x.A x.n x.c]
def sameFnc (x y : AFnc) : Bool := decide (x.regs = y.regs) && decide (x.caps = y.caps) && sameInss x.code y.code

theorem sameFunc_any (x y : AFnc) (w : World) (hx : x.In w) (hy : y.In w) :
    Calls Try.prog 23 #[x.value, y.value] w fun e w' => e = .returned (.bool (sameFnc x y)) ∧ Below w.heap.size w w' := by
  have hx2 := hx.rd
  have hy2 := hy.rd
  have m1 := Nat.le_trans hx.cap.1 hx.cap.2
  have m2 := Nat.le_trans hy.cap.1 hy.cap.2
  have hxa := hx.all
  have hya := hy.all
  clear hx hy
  have hb0 : Below w.heap.size w ((w.alloc (.cells #[.int .i64 x.regs, .int .i64 x.caps, .slice x.A x.n x.c] 44)).alloc (.cells #[.int .i64 y.regs, .int .i64 y.caps, .slice y.A y.n y.c] 44)) := ((Below.refl _ _).alloc (Nat.le_refl _) _).alloc (by simp) _
  by_cases h1 : x.regs = y.regs
  · have q1 : ((x.regs : Int) == y.regs) = true := by simpa using h1
    by_cases h2 : x.caps = y.caps
    · have q2 : ((x.caps : Int) == y.caps) = true := by simpa using h2
      have HE := Lib.hid (And.intro h1 h2)
      clear h1 h2
      go_enter Try.func23, Try.ntmps23
      unfold AFnc.value
      go_wp2_with fail
      refine (eqInss_any x.A y.A x.code y.code x.n x.c y.n y.c _ (hx2.below hb0) (hy2.below hb0) m1 m2 (fun z hz => (hxa z hz).below hb0) (fun z hz => (hya z hz).below hb0)).mono ?_
      rintro e w1 ⟨rfl, hb⟩
      go_wp2_with fail
      go_returns
      refine ⟨?_, below_then hb0 hb⟩
      have e : sameFnc x y = sameInss x.code y.code := by
        unfold sameFnc
        rw [decide_eq_true HE.out.1, decide_eq_true HE.out.2]; rfl
      rw [e]; rfl
    · have q2 : ((x.caps : Int) == y.caps) = false := by simpa using h2
      have e : sameFnc x y = false := by unfold sameFnc; rw [decide_eq_false h2, Bool.and_false, Bool.false_and]
      clear h1 h2
      go_enter Try.func23, Try.ntmps23
      unfold AFnc.value
      go_wp2_with fail
      go_returns
      exact ⟨by rw [e]; rfl, hb0⟩
  · have q1 : ((x.regs : Int) == y.regs) = false := by simpa using h1
    have e : sameFnc x y = false := by unfold sameFnc; rw [decide_eq_false h1]; rfl
    clear h1
    go_enter Try.func23, Try.ntmps23
    unfold AFnc.value
    go_wp2_with fail
    go_returns
    exact ⟨by rw [e]; rfl, hb0⟩

/-- The same functions, in the same order. -/
def sameFncs (l r : List AFnc) : Bool := decide (l.length = r.length) && (List.range l.length).all fun k => match l[k]?, r[k]? with | some x, some y => sameFnc x y | _, _ => false
theorem sameFncs_len {l r : List AFnc} (h : ¬ l.length = r.length) : sameFncs l r = false := by unfold sameFncs; rw [decide_eq_false h]; rfl
theorem sameFncs_no {l r : List AFnc} {k : Nat} (h1 : k < l.length) (h2 : k < r.length) (h : sameFnc l[k] r[k] = false) : sameFncs l r = false := by
  unfold sameFncs
  rw [Bool.and_eq_false_iff]
  refine .inr (List.all_eq_false.2 ⟨k, List.mem_range.2 h1, ?_⟩)
  rw [List.getElem?_eq_getElem h1, List.getElem?_eq_getElem h2]
  simp [h]
theorem sameFncs_yes {l r : List AFnc} (hl : l.length = r.length) (h : ∀ k (h1 : k < l.length) (h2 : k < r.length), sameFnc l[k] r[k] = true) : sameFncs l r = true := by
  unfold sameFncs
  rw [decide_eq_true hl, Bool.true_and]
  refine List.all_eq_true.2 fun k hk => ?_
  have h1 := List.mem_range.1 hk
  rw [List.getElem?_eq_getElem h1, List.getElem?_eq_getElem (by omega)]
  exact h k h1 (by omega)

theorem eqFncs_any (A B : Option Addr) (l r : List AFnc) (n c m d : Nat) (w : World) (hr : Rd w 3 A n (l.flatMap AFnc.cells)) (hs : Rd w 3 B m (r.flatMap AFnc.cells)) (hm : n ≤ maxLen) (hm2 : m ≤ maxLen) (hl1 : ∀ y ∈ l, y.In w) (hr1 : ∀ y ∈ r, y.In w) :
    Calls Try.prog 22 #[.slice A n c, .slice B m d, .func (.func 23) #[] #[]] w fun e w' => e = .returned (.bool (sameFncs l r)) ∧ Below w.heap.size w w' := by
  have hl := hr.fncN
  have hl2 := hs.fncN
  subst hl
  subst hl2
  unfold maxLen at hm hm2
  have HL := Lib.hid hl1
  have HR := Lib.hid hr1
  clear hl1 hr1
  by_cases hlen : l.length = r.length
  · go_enter Try.func22, Try.ntmps22
    have hlz : (((l.length : Nat) : Int) == ((r.length : Nat) : Int)) = true := by rw [hlen]; simp
    go_wp2_with fail
    clear hlz
    go_loopw [17] (fun i wr => ∃ k : Nat, i = .int .i64 k ∧ k ≤ l.length ∧ (∀ j (h1 : j < l.length) (h2 : j < r.length), j < k → sameFnc l[j] r[j] = true) ∧ Below w.heap.size w wr) (fun i _ => l.length - (intOf i).toNat)
    case atStart => exact ⟨0, rfl, by omega, by intro j _ _ h; omega, Below.refl _ _⟩
    case round =>
      obtain ⟨k, rfl, hk, he, hb⟩ := hrel
      have HE := Lib.hid he
      clear he
      by_cases hlt : k < l.length
      · have hr2 : k < r.length := by omega
        obtain ⟨b, o, rfl, hb1, hc⟩ := (hr.below hb).fnc (k := k) hlt
        obtain ⟨b', o', rfl, hb2, hc'⟩ := (hs.below hb).fnc (k := k) hr2
        obtain ⟨x0, x1, x2⟩ := hc k hlt
        obtain ⟨y0, y1, y2⟩ := hc' k hr2
        clear hc hr hc' hs
        have HX := Lib.hid ((HL.out l[k] (List.getElem_mem hlt)).below hb)
        have HY := Lib.hid ((HR.out (r[k]'hr2) (List.getElem_mem hr2)).below hb)
        have HLEN := Lib.hid hlen
        clear hlen
        go_wp2_with fail
        have hb3 : Below wr.heap.size wr ((wr.alloc (.cells #[.int .i64 l[k].regs, .int .i64 l[k].caps, .slice l[k].A l[k].n l[k].c] 44)).alloc (.cells #[.int .i64 r[k].regs, .int .i64 r[k].caps, .slice r[k].A r[k].n r[k].c] 44)) := ((Below.refl _ _).alloc (Nat.le_refl _) _).alloc (by simp) _
        refine (sameFunc_any l[k] r[k] _ (HX.out.below hb3) (HY.out.below hb3)).mono ?_
        cases hsm : sameFnc l[k] r[k] with
        | false =>
          have HS := Lib.hid hsm
          clear hsm
          rintro e w1 ⟨rfl, hb4⟩
          go_wp2_with fail
          go_returns
          exact ⟨by rw [sameFncs_no hlt hr2 HS.out]; rfl, hb.trans ((below_then hb3 hb4).mono hb.size)⟩
        | true =>
          have HS := Lib.hid hsm
          clear hsm
          rintro e w1 ⟨rfl, hb4⟩
          go_wp2_with fail
          go_roundw
          case rel => exact ⟨k + 1, by go_num, by omega, by intro j h1 h2 hjk; rcases Nat.lt_succ_iff_lt_or_eq.1 hjk with h | h; exact HE.out j h1 h2 h; subst h; exact HS.out, hb.trans ((below_then hb3 hb4).mono hb.size)⟩
          case measure => simp [intOf] <;> omega
      · go_wp2_with fail
        go_returns
        obtain rfl : k = l.length := by omega
        exact ⟨by rw [sameFncs_yes hlen (fun j h1 h2 => HE.out j h1 h2 h1)]; rfl, hb⟩
  · go_enter Try.func22, Try.ntmps22
    have hlz : (((l.length : Nat) : Int) == ((r.length : Nat) : Int)) = false := by rw [beq_eq_false_iff_ne]; omega
    go_wp2_with fail
    go_returns
    exact ⟨by rw [sameFncs_len hlen]; rfl, Below.refl _ _⟩
end Go.Proofs.Ythdnnlelmelegaa
