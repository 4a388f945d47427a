/-
  Numbers that were met, by the document's answer: where one stands; one more.
-/
import Derived.Test.YtlgmddnpmmggdaaDoorTyE
import Derived.Test.YtlgmddnpmmggdaaDoorQuiet
import Derived.Deep.RegionHeld3
namespace Go.Proofs.YtlgmddnpmmggdaaDoor
open Go.ChangeShapes Go.WideShapes Go.ChangeAt Go.RowKit Go.Sort
set_option linter.unusedVariables false
set_option linter.unusedSimpArgs false
attribute [local irreducible] Go.wpQuiet

def i64s (l : List Int) : List Value := l.map fun n => .int .i64 n
theorem i64s_length (l : List Int) : (i64s l).length = l.length := by simp [i64s]
theorem i64s_at (l : List Int) (k : Nat) (h : k < l.length) : (i64s l)[k]? = some (.int .i64 l[k]) := by simp [i64s, h]
theorem i64s_append (a b : List Int) : i64s (a ++ b) = i64s a ++ i64s b := by simp [i64s]
theorem Rd.ints {w : World} {A : Option Addr} {n : Nat} {l : List Int} (h : Rd w 1 A n (i64s l)) : l.length = n := by have := h.1; rw [i64s_length] at this; omega
theorem Rd.int {w : World} {A : Option Addr} {n : Nat} {l : List Int} (h : Rd w 1 A n (i64s l)) {k : Nat} (hk : k < l.length) : ∃ b o, A = some ⟨b, o, none⟩ ∧ b < w.heap.size ∧ ∀ j (hj : j < l.length), w.cell? ⟨b, o + j, none⟩ = some (.int .i64 l[j]) := by
  obtain ⟨b, o, rfl, hb, hh⟩ := h.base (by rw [i64s_length]; omega)
  exact ⟨b, o, rfl, hb, fun j hj => hh j _ (i64s_at l j hj)⟩
theorem elInt : ElemTy Tryd.prog 29 3 (.int .i64 0) 1 8 := ⟨Tryd.underlying29, by kernel_rfl, rfl, by omega, by omega⟩

/-- Where a number stands first; -1: nowhere. -/
def atF : List Int → Int → Nat → Int
  | [], _, _ => -1
  | x :: l, n, k => if x = n then (k : Int) else atF l n (k + 1)
theorem atF_neg : ∀ (l : List Int) (n : Int) (k : Nat), (atF l n k < 0) ↔ n ∉ l
  | [], n, k => by simp [atF]
  | x :: l, n, k => by
    unfold atF
    split
    · rename_i h; subst h; simp
    · rename_i h; rw [atF_neg l n (k + 1)]; simp [Ne.symm h]
theorem atF_drop (l : List Int) (n : Int) : ∀ (k : Nat), k ≤ l.length → n ∉ l.take k → atF l n 0 = atF (l.drop k) n k := by
  have key : ∀ (l : List Int) (j k : Nat), k ≤ l.length → n ∉ l.take k → atF l n j = atF (l.drop k) n (j + k) := by
    intro l
    induction l with
    | nil => intro j k hk _; have : k = 0 := by simpa using hk
             subst this; rfl
    | cons x l ih =>
      intro j k hk hn
      cases k with
      | zero => rfl
      | succ k =>
        simp only [List.take_succ_cons, List.mem_cons, not_or] at hn
        simp only [List.drop_succ_cons]
        rw [show atF (x :: l) n j = atF l n (j + 1) from by unfold atF; rw [if_neg (Ne.symm hn.1)]; cases l <;> rfl, ih (j + 1) k (by simpa using hk) hn.2]
        congr 1; omega
  intro k hk hn
  have := key l 0 k hk hn
  rwa [Nat.zero_add] at this

set_option maxRecDepth 100000 in
theorem at_any (A : Option Addr) (l : List Int) (n : Int) (m c : Nat) (w : World) (hr : Rd w 1 A m (i64s l)) (hm : m ≤ 4000000) :
    Calls Tryd.prog 26 #[.slice A m c, .int .i64 n] w fun e w' => e = .returned (.int .i64 (atF l n 0)) ∧ Below w.heap.size w w' := by
  have hl := hr.ints
  subst hl
  have HR := Lib.hid hr
  obtain ⟨ans, hans⟩ : ∃ ans, atF l n 0 = ans := ⟨_, rfl⟩
  rw [hans]
  have HA := Lib.hid hans
  clear hr hans
  go_enter Tryd.func26, Tryd.ntmps26
  go_wp2_with fail
  go_loopw [5] (fun i wr => ∃ k : Nat, i = .int .i64 k ∧ k ≤ l.length ∧ n ∉ l.take k ∧ Below w.heap.size w wr) (fun i _ => l.length - (intOf i).toNat)
  case atStart => exact ⟨0, rfl, Nat.zero_le _, by simp, Below.refl _ _⟩
  case round =>
    obtain ⟨k, rfl, hk, hn, hb⟩ := hrel
    have HK := Lib.hid (And.intro hn hb)
    clear hn hb
    by_cases hlt : k < l.length
    · obtain ⟨b, o, rfl, _, hcel⟩ := (HR.out.below HK.out.2).int (k := k) hlt
      have h1 := hcel k hlt
      obtain ⟨x, hx⟩ : ∃ x, l[k] = x := ⟨_, rfl⟩
      rw [hx] at h1
      have htk : l.take (k + 1) = l.take k ++ [x] := by rw [List.take_succ_eq_append_getElem hlt, hx]
      have hdr : l.drop k = x :: l.drop (k + 1) := by rw [List.drop_eq_getElem_cons hlt, hx]
      have hki : (k : Int) < (l.length : Int) := by omega
      have hk4 : (k : Int) ≤ 4000000 := by omega
      have HT := Lib.hid (And.intro htk hdr)
      clear hcel hx htk hdr
      by_cases hq : x = n
      · have hq1 : (x == n) = true := by simpa using hq
        have HE := Lib.hid (show ans = (k : Int) by rw [← HA.out, atF_drop l n k hk HK.out.1, HT.out.2]; unfold atF; rw [if_pos hq])
        clear hq
        go_wp2_with fail
        go_returns
        exact ⟨by rw [HE.out]; rfl, HK.out.2⟩
      · have hq1 : (x == n) = false := by simpa using hq
        have HN := Lib.hid (show n ∉ l.take (k + 1) by rw [HT.out.1]; simp only [List.mem_append, List.mem_singleton, not_or]; exact ⟨HK.out.1, Ne.symm hq⟩)
        clear hq
        go_wp2_with fail
        go_roundw
        case rel => exact ⟨k + 1, by go_num, hlt, HN.out, HK.out.2⟩
        case measure => simp [intOf] <;> omega
    · have hki : ¬ (k : Int) < (l.length : Int) := by omega
      have HE := Lib.hid (show ans = -1 by rw [← HA.out, atF_drop l n k hk HK.out.1, List.drop_of_length_le (by omega)]; rfl)
      clear hlt
      go_wp2_with fail
      go_returns
      exact ⟨by rw [HE.out]; rfl, HK.out.2⟩
end Go.Proofs.YtlgmddnpmmggdaaDoor
