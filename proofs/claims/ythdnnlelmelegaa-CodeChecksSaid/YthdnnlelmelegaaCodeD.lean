/-
  Lists of instructions held against each other, by the library.
-/
import Derived.Test.YthdnnlelmelegaaCodeC
namespace Go.Proofs.Ythdnnlelmelegaa
open Go.ChangeShapes Go.WideShapes Go.ChangeAt Go.RowKit
set_option linter.unusedVariables false

/-- The same instructions, in the same order. -/
def sameInss (l r : List AIns) : Bool := decide (l.length = r.length) && (List.range l.length).all fun k => match l[k]?, r[k]? with | some x, some y => sameIns x y | _, _ => false
theorem sameInss_len {l r : List AIns} (h : ¬ l.length = r.length) : sameInss l r = false := by unfold sameInss; rw [decide_eq_false h]; rfl
theorem sameInss_no {l r : List AIns} {k : Nat} (h1 : k < l.length) (h2 : k < r.length) (h : sameIns l[k] r[k] = false) : sameInss l r = false := by
  unfold sameInss
  rw [Bool.and_eq_false_iff]
  refine .inr (List.all_eq_false.2 ⟨k, List.mem_range.2 h1, ?_⟩)
  rw [List.getElem?_eq_getElem h1, List.getElem?_eq_getElem h2]
  simp [h]
theorem sameInss_yes {l r : List AIns} (hl : l.length = r.length) (h : ∀ k (h1 : k < l.length) (h2 : k < r.length), sameIns l[k] r[k] = true) : sameInss l r = true := by
  unfold sameInss
  rw [decide_eq_true hl, Bool.true_and]
  refine List.all_eq_true.2 fun k hk => ?_
  have h1 := List.mem_range.1 hk
  rw [List.getElem?_eq_getElem h1, List.getElem?_eq_getElem (by omega)]
  exact h k h1 (by omega)

theorem eqInss_any (A B : Option Addr) (l r : List AIns) (n c m d : Nat) (w : World) (hr : Rd w 3 A n (l.flatMap AIns.cells)) (hs : Rd w 3 B m (r.flatMap AIns.cells)) (hm : n ≤ maxLen) (hm2 : m ≤ maxLen) (hl1 : ∀ y ∈ l, y.In w) (hr1 : ∀ y ∈ r, y.In w) :
    Calls Try.prog 30 #[.slice A n c, .slice B m d, .func (.func 31) #[] #[]] w fun e w' => e = .returned (.bool (sameInss l r)) ∧ Below w.heap.size w w' := by
  have hl := hr.insN
  have hl2 := hs.insN
  subst hl
  subst hl2
  unfold maxLen at hm hm2
  have HL := Lib.hid hl1
  have HR := Lib.hid hr1
  clear hl1 hr1
  by_cases hlen : l.length = r.length
  · go_enter Try.func30, Try.ntmps30
    have hlz : (((l.length : Nat) : Int) == ((r.length : Nat) : Int)) = true := by rw [hlen]; simp
    go_wp2_with fail
    clear hlz
    go_loopw [17] (fun i wr => ∃ k : Nat, i = .int .i64 k ∧ k ≤ l.length ∧ (∀ j (h1 : j < l.length) (h2 : j < r.length), j < k → sameIns l[j] r[j] = true) ∧ Below w.heap.size w wr) (fun i _ => l.length - (intOf i).toNat)
    case atStart => exact ⟨0, rfl, by omega, by intro j _ _ h; omega, Below.refl _ _⟩
    case round =>
      obtain ⟨k, rfl, hk, he, hb⟩ := hrel
      have HE := Lib.hid he
      clear he
      by_cases hlt : k < l.length
      · have hr2 : k < r.length := by omega
        obtain ⟨b, o, rfl, hb1, hc⟩ := (hr.below hb).ins (k := k) hlt
        obtain ⟨b', o', rfl, hb2, hc'⟩ := (hs.below hb).ins (k := k) hr2
        obtain ⟨x0, x1, x2⟩ := hc k hlt
        obtain ⟨y0, y1, y2⟩ := hc' k hr2
        clear hc hr hc' hs
        have HX := Lib.hid ((HL.out l[k] (List.getElem_mem hlt)).below hb)
        have HY := Lib.hid ((HR.out (r[k]'hr2) (List.getElem_mem hr2)).below hb)
        have HLEN := Lib.hid hlen
        clear hlen
        go_wp2_with fail
        have hb3 : Below wr.heap.size wr ((wr.alloc (.cells #[.int .i64 l[k].op, .int .i64 l[k].a, .slice l[k].A l[k].n l[k].c] 47)).alloc (.cells #[.int .i64 r[k].op, .int .i64 r[k].a, .slice r[k].A r[k].n r[k].c] 47)) := ((Below.refl _ _).alloc (Nat.le_refl _) _).alloc (by simp) _
        refine (sameInstr_any l[k] r[k] _ (HX.out.below hb3) (HY.out.below hb3)).mono ?_
        cases hsm : sameIns l[k] r[k] with
        | false =>
          have HS := Lib.hid hsm
          clear hsm
          rintro e w1 ⟨rfl, hb4⟩
          go_wp2_with fail
          go_returns
          exact ⟨by rw [sameInss_no hlt hr2 HS.out]; rfl, hb.trans ((below_then hb3 hb4).mono hb.size)⟩
        | true =>
          have HS := Lib.hid hsm
          clear hsm
          rintro e w1 ⟨rfl, hb4⟩
          go_wp2_with fail
          go_roundw
          case rel => exact ⟨k + 1, by go_num, by omega, by intro j h1 h2 hjk; rcases Nat.lt_succ_iff_lt_or_eq.1 hjk with h | h; exact HE.out j h1 h2 h; subst h; exact HS.out, hb.trans ((below_then hb3 hb4).mono hb.size)⟩
          case measure => simp [intOf] <;> omega
      · go_wp2_with fail
        go_returns
        obtain rfl : k = l.length := by omega
        exact ⟨by rw [sameInss_yes hlen (fun j h1 h2 => HE.out j h1 h2 h1)]; rfl, hb⟩
  · go_enter Try.func30, Try.ntmps30
    have hlz : (((l.length : Nat) : Int) == ((r.length : Nat) : Int)) = false := by rw [beq_eq_false_iff_ne]; omega
    go_wp2_with fail
    go_returns
    exact ⟨by rw [sameInss_len hlen]; rfl, Below.refl _ _⟩
end Go.Proofs.Ythdnnlelmelegaa
