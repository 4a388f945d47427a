/-
  What core expressions bind, and what is free in them; how many nodes they have. About no program.
-/
import Derived.Test.YtpnihimoekkepaaCoA
namespace Go.Proofs.Ytpnihimoekkepaa
open Go.ChangeShapes Go.WideShapes Go.ChangeAt Go.RowKit
set_option linter.unusedVariables false
set_option linter.unusedSimpArgs false

mutual
def Ex.nodes : Ex → Nat
  | .mk _ l => 1 + enodesL l
def enodesL : List Ex → Nat
  | [] => 0
  | x :: l => x.nodes + enodesL l
end
theorem enodesL_snoc : ∀ (l : List Ex) (x : Ex), enodesL (l ++ [x]) = enodesL l + x.nodes
  | [], x => by simp [enodesL]
  | y :: l, x => by simp only [List.cons_append, enodesL, enodesL_snoc l x]; omega
theorem enodesL_mem : ∀ (l : List Ex) (x : Ex), x ∈ l → x.nodes ≤ enodesL l
  | [], x, h => by cases h
  | y :: l, x, h => by
    simp only [enodesL]
    rcases List.mem_cons.1 h with rfl | h
    · omega
    · have := enodesL_mem l x h; omega
theorem enodesL_take (l : List Ex) (k : Nat) : enodesL (l.take k) ≤ enodesL l := by
  have h : ∀ a b : List Ex, enodesL (a ++ b) = enodesL a + enodesL b := by
    intro a b
    induction a with
    | nil => simp [enodesL]
    | cons x a ih => simp only [List.cons_append, enodesL, ih]; omega
  have := h (l.take k) (l.drop k)
  rw [List.take_append_drop] at this
  omega
theorem Ex.nodes_pos (e : Ex) : 1 ≤ e.nodes := by cases e; simp only [Ex.nodes]; omega

/-- The names that an expression binds in its part number i. -/
def ExD.boundF (d : ExD) (i : Nat) : List Str :=
  if (d.kind = 4 ∧ i = 0) ∨ (d.kind = 6 ∧ i = 1) ∨ (d.kind = 7 ∧ i = 1) then [d.s]
  else if d.kind = 7 ∧ i = 0 then [d.s, d.t]
  else if d.kind = 14 ∧ 2 * d.nn < i then [d.t]
  else if d.kind = 14 ∧ 0 < i ∧ i % 2 = 0 then (d.names.drop (i / 2 - 1)).take 1
  else []
mutual
def Ex.freeB : Ex → Str → Bool
  | .mk d l, x => (decide (d.kind = 3) && decide (x = d.s)) || freeLB d l 0 x
def freeLB (d : ExD) : List Ex → Nat → Str → Bool
  | [], _, _ => false
  | y :: l, i, x => (y.freeB x && !decide (x ∈ d.boundF i)) || freeLB d l (i + 1) x
end
theorem freeLB_snoc (d : ExD) (x : Str) (y : Ex) : ∀ (l : List Ex) (i : Nat), freeLB d (l ++ [y]) i x = (freeLB d l i x || (y.freeB x && !decide (x ∈ d.boundF (i + l.length))))
  | [], i => by simp [freeLB]
  | z :: l, i => by
    simp only [List.cons_append, freeLB, freeLB_snoc d x y l (i + 1), List.length_cons, Bool.or_assoc]
    rw [show i + 1 + l.length = i + (l.length + 1) from by omega]
theorem freeLB_at (d : ExD) (x : Str) : ∀ (l : List Ex) (i k : Nat) (hk : k < l.length), l[k].freeB x = true → x ∉ d.boundF (i + k) → freeLB d l i x = true
  | [], i, k, hk, _, _ => by simp at hk
  | y :: l, i, 0, hk, h, hb => by
    simp only [freeLB]
    have h' : y.freeB x = true := h
    have hb' : x ∉ d.boundF i := by simpa using hb
    simp [h', hb']
  | y :: l, i, k + 1, hk, h, hb => by
    simp only [freeLB]
    rw [freeLB_at d x l (i + 1) k (by simpa using hk) h (by rw [show i + 1 + k = i + (k + 1) from by omega]; exact hb)]
    simp
end Go.Proofs.Ytpnihimoekkepaa
