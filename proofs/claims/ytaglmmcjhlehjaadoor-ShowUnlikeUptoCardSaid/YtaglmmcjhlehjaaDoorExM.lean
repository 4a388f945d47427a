/-
  What the document says of expressions: whether one may be, how deep it is, how many nodes it has, what is free in it. About no program.
-/
import Derived.Test.YtaglmmcjhlehjaaDoorExA
import Derived.Test.YtaglmmcjhlehjaaDoorLexMath
import Derived.Test.YtaglmmcjhlehjaaDoorLabelMath
namespace Go.Proofs.YtaglmmcjhlehjaaDoor
open Go.RowKit
set_option linter.unusedVariables false
set_option linter.unusedSimpArgs false

/-! ### An expression's own fields -/
/-- Is a text one token of a kind, and nothing beside? -/
def tokR (s : Str) (k : Int) : CutR → Bool
  | .ok [t] => decide (t.kind = k) && decide (t.s = s)
  | _ => false
def tokB (s : Str) (k : Int) : Bool := if 20 < s.length then false else tokR s k (cutS s 0)
def opsL : List Str := [[43], [45], [42], [47], [60], [61, 61], [94], [35]]
def opB (s : Str) : Bool := decide (s ∈ opsL)
def partsF (kind labels : Int) (other : Bool) : Int :=
  if kind = 1 ∨ kind = 2 ∨ kind = 3 ∨ kind = 22 then 0
  else if kind = 4 ∨ kind = 9 ∨ kind = 11 ∨ kind = 13 ∨ kind = 17 ∨ kind = 18 ∨ kind = 20 ∨ kind = 21 then 1
  else if kind = 5 ∨ kind = 6 ∨ kind = 7 ∨ kind = 10 ∨ kind = 12 ∨ kind = 16 ∨ kind = 19 then 2
  else if kind = 15 then 3
  else if kind = 8 then labels
  else if kind = 14 then (if other then wrap64 (labels + 2) else wrap64 (labels + 1))
  else -1
def ExD.sB (d : ExD) : Bool :=
  if d.kind = 3 ∨ d.kind = 4 ∨ d.kind = 6 ∨ d.kind = 7 ∨ d.kind = 9 ∨ d.kind = 10 ∨ d.kind = 11 ∨ d.kind = 12 then tokB d.s 1
  else if d.kind = 13 then tokB d.s 3
  else if d.kind = 2 then (quoteS d.s).isSome
  else if d.kind = 16 then opB d.s
  else decide (d.s = [])
def ExD.tB (d : ExD) : Bool :=
  if d.kind = 7 then tokB d.t 1
  else if d.kind = 14 then decide (d.t = []) || tokB d.t 1
  else decide (d.t = [])
def labB (l : List Str) (k : Int) : Bool := decide (l.length ≤ 30) && isB l && l.all fun s => tokB s k
def ExD.listsB (d : ExD) : Bool :=
  if d.kind = 8 then labB d.labels 1 && decide (d.nn = 0)
  else if d.kind = 14 then labB d.labels 3 && decide (d.nn = d.ln) && (d.names.all fun s => tokB s 1) && (decide (0 < d.ln) || !decide (d.t = []))
  else decide (d.ln = 0) && decide (d.nn = 0)
def ExD.fieldsB (d : ExD) : Bool := decide ((d.pn : Int) = partsF d.kind d.ln (!decide (d.t = []))) && (decide (d.n = 0) || (decide (d.kind = 1) && decide (0 < d.n))) && d.sB && d.tB && d.listsB

/-! ### Depth, nodes -/
mutual
def Ex.depth : Ex → Nat
  | .mk _ l => depthL l + 1
def depthL : List Ex → Nat
  | [] => 0
  | x :: l => max x.depth (depthL l)
end
mutual
def Ex.nodes : Ex → Nat
  | .mk _ l => 1 + enodesL l
def enodesL : List Ex → Nat
  | [] => 0
  | x :: l => x.nodes + enodesL l
end
theorem depthL_snoc : ∀ (l : List Ex) (x : Ex), depthL (l ++ [x]) = max (depthL l) x.depth
  | [], x => by simp [depthL]
  | y :: l, x => by simp only [List.cons_append, depthL, depthL_snoc l x]; omega
theorem enodesL_snoc : ∀ (l : List Ex) (x : Ex), enodesL (l ++ [x]) = enodesL l + x.nodes
  | [], x => by simp [enodesL]
  | y :: l, x => by simp only [List.cons_append, enodesL, enodesL_snoc l x]; omega
theorem depthL_mem : ∀ (l : List Ex) (x : Ex), x ∈ l → x.depth ≤ depthL l
  | [], x, h => by cases h
  | y :: l, x, h => by
    simp only [depthL]
    rcases List.mem_cons.1 h with rfl | h
    · omega
    · have := depthL_mem l x h; omega
theorem enodesL_mem : ∀ (l : List Ex) (x : Ex), x ∈ l → x.nodes ≤ enodesL l
  | [], x, h => by cases h
  | y :: l, x, h => by
    simp only [enodesL]
    rcases List.mem_cons.1 h with rfl | h
    · omega
    · have := enodesL_mem l x h; omega
theorem enodesL_take (l : List Ex) (k : Nat) : enodesL (l.take k) ≤ enodesL l := by
  have h : ∀ a b : List Ex, enodesL (a ++ b) = enodesL a + enodesL b := by
    intro a b
    induction a with
    | nil => simp [enodesL]
    | cons x a ih => simp only [List.cons_append, enodesL, ih]; omega
  have := h (l.take k) (l.drop k)
  rw [List.take_append_drop] at this
  omega
theorem depthL_take (l : List Ex) (k : Nat) : depthL (l.take k) ≤ depthL l := by
  have h : ∀ a b : List Ex, depthL (a ++ b) = max (depthL a) (depthL b) := by
    intro a b
    induction a with
    | nil => simp [depthL]
    | cons x a ih => simp only [List.cons_append, depthL, ih]; omega
  have := h (l.take k) (l.drop k)
  rw [List.take_append_drop] at this
  omega
theorem depth_le_nodes : ∀ (e : Ex), e.depth ≤ e.nodes
  | .mk d l => by
    have h : ∀ l : List Ex, (∀ x ∈ l, x.depth ≤ x.nodes) → depthL l ≤ enodesL l := by
      intro l hl
      induction l with
      | nil => simp [depthL]
      | cons x r ih => have := hl x (by simp); have := ih (fun y hy => hl y (by simp [hy])); simp only [depthL, enodesL]; omega
    have := h l (fun x hx => depth_le_nodes x)
    simp only [Ex.depth, Ex.nodes]; omega
theorem Ex.nodes_pos (e : Ex) : 1 ≤ e.nodes := by cases e; simp only [Ex.nodes]; omega
theorem Ex.depth_pos (e : Ex) : 1 ≤ e.depth := by cases e; simp only [Ex.depth]; omega

/-! ### Whether one may be -/
mutual
/-- How many nodes are met behind so many, so deep, if all may be. -/
def mayE : Ex → Nat → Nat → Option Nat
  | .mk d l, dep, k => if 60 < dep ∨ 1500 < k + 1 then none else if d.fieldsB = true then mayEL l (dep + 1) (k + 1) else none
def mayEL : List Ex → Nat → Nat → Option Nat
  | [], _, k => some k
  | x :: l, dep, k => match mayE x dep k with
    | none => none
    | some j => mayEL l dep j
end
mutual
def Ex.fineE : Ex → Bool
  | .mk d l => d.fieldsB && fineEL l
def fineEL : List Ex → Bool
  | [] => true
  | x :: l => x.fineE && fineEL l
end
theorem mayEL_snoc : ∀ (l : List Ex) (x : Ex) (dep k : Nat), mayEL (l ++ [x]) dep k = (match mayEL l dep k with | none => none | some j => mayE x dep j)
  | [], x, dep, k => by simp only [List.nil_append, mayEL]; cases mayE x dep k <;> rfl
  | y :: l, x, dep, k => by
    simp only [List.cons_append, mayEL]
    cases mayE y dep k with
    | none => rfl
    | some j => exact mayEL_snoc l x dep j
theorem mayEL_none : ∀ (l r : List Ex) (dep k : Nat), mayEL l dep k = none → mayEL (l ++ r) dep k = none
  | [], r, dep, k, h => by simp [mayEL] at h
  | y :: l, r, dep, k, h => by
    simp only [List.cons_append, mayEL] at h ⊢
    cases hy : mayE y dep k with
    | none => rfl
    | some j => rw [hy] at h; exact mayEL_none l r dep j h
theorem mayEL_take_none {l : List Ex} {i dep k : Nat} (h : mayEL (l.take i) dep k = none) : mayEL l dep k = none := by
  rw [← List.take_append_drop i l]; exact mayEL_none _ _ _ _ h
theorem fineEL_mem : ∀ {l : List Ex} {x : Ex}, fineEL l = true → x ∈ l → x.fineE = true
  | [], x, _, h => by cases h
  | y :: l, x, hf, h => by
    simp only [fineEL, Bool.and_eq_true] at hf
    rcases List.mem_cons.1 h with rfl | h
    · exact hf.1
    · exact fineEL_mem hf.2 h
mutual
theorem mayE_spec : ∀ (e : Ex) (dep k : Nat), mayE e dep k = if e.fineE = true ∧ dep + e.depth ≤ 61 ∧ k + e.nodes ≤ 1500 then some (k + e.nodes) else none
  | .mk d l, dep, k => by
    have hL := mayEL_spec l (dep + 1) (k + 1)
    unfold mayE
    simp only [Ex.fineE, Ex.depth, Ex.nodes, Bool.and_eq_true]
    by_cases h1 : 60 < dep ∨ 1500 < k + 1
    · rw [if_pos h1, if_neg (by omega)]
    · rw [if_neg h1]
      by_cases h2 : d.fieldsB = true
      · rw [if_pos h2, hL (by omega) (by omega)]
        by_cases h3 : fineEL l = true ∧ dep + 1 + depthL l ≤ 61 ∧ k + 1 + enodesL l ≤ 1500
        · rw [if_pos h3, if_pos ⟨⟨h2, h3.1⟩, by omega, by omega⟩]; congr 1; omega
        · rw [if_neg h3, if_neg (fun h => h3 ⟨h.1.2, by omega, by omega⟩)]
      · rw [if_neg h2, if_neg (fun h => h2 h.1.1)]
theorem mayEL_spec : ∀ (l : List Ex) (dep k : Nat), dep ≤ 61 → k ≤ 1500 → mayEL l dep k = if fineEL l = true ∧ dep + depthL l ≤ 61 ∧ k + enodesL l ≤ 1500 then some (k + enodesL l) else none
  | [], dep, k, hd, hk => by simp only [mayEL, fineEL, depthL, enodesL]; rw [if_pos ⟨trivial, by omega, by omega⟩]; simp
  | x :: l, dep, k, hd, hk => by
    unfold mayEL
    rw [mayE_spec x dep k]
    simp only [fineEL, depthL, enodesL, Bool.and_eq_true]
    by_cases h1 : x.fineE = true ∧ dep + x.depth ≤ 61 ∧ k + x.nodes ≤ 1500
    · rw [if_pos h1]
      show mayEL l dep (k + x.nodes) = _
      rw [mayEL_spec l dep (k + x.nodes) hd h1.2.2]
      by_cases h2 : fineEL l = true ∧ dep + depthL l ≤ 61 ∧ k + x.nodes + enodesL l ≤ 1500
      · rw [if_pos h2, if_pos ⟨⟨h1.1, h2.1⟩, by omega, by omega⟩]; congr 1; omega
      · rw [if_neg h2, if_neg (fun h => h2 ⟨h.1.2, by omega, by omega⟩)]
    · rw [if_neg h1, if_neg (fun h => h1 ⟨h.1.1, by omega, by omega⟩)]
end
theorem may_part {d : ExD} {l : List Ex} {x : Ex} (h : (mayE (.mk d l) 1 0).isSome = true) (hx : x ∈ l) : (mayE x 1 0).isSome = true := by
  rw [mayE_spec] at h ⊢
  split at h
  · rename_i hc
    simp only [Ex.fineE, Ex.depth, Ex.nodes, Bool.and_eq_true] at hc
    have h1 := fineEL_mem hc.1.2 hx
    have h2 := depthL_mem l x hx
    have h3 := enodesL_mem l x hx
    rw [if_pos ⟨h1, by omega, by omega⟩]; rfl
  · cases h
theorem may_le {e : Ex} (h : (mayE e 1 0).isSome = true) : e.depth ≤ 60 ∧ e.nodes ≤ 1500 := by
  rw [mayE_spec] at h
  split at h
  · rename_i hc; omega
  · cases h

/-! ### What is free -/
/-- The names that an expression binds in its part number i. -/
def ExD.boundF (d : ExD) (i : Nat) : List Str :=
  if (d.kind = 4 ∧ i = 0) ∨ (d.kind = 6 ∧ i = 1) ∨ (d.kind = 7 ∧ i = 1) then [d.s]
  else if d.kind = 7 ∧ i = 0 then [d.s, d.t]
  else if d.kind = 14 ∧ d.ln < i then [d.t]
  else if d.kind = 14 ∧ 0 < i ∧ i ≤ d.nn then (d.names.drop (i - 1)).take 1
  else []
mutual
def Ex.freeB : Ex → Str → Bool
  | .mk d l, x => (decide (d.kind = 3) && decide (x = d.s)) || freeLB d l 0 x
def freeLB (d : ExD) : List Ex → Nat → Str → Bool
  | [], _, _ => false
  | y :: l, i, x => (y.freeB x && !decide (x ∈ d.boundF i)) || freeLB d l (i + 1) x
end
theorem freeLB_snoc (d : ExD) (x : Str) (y : Ex) : ∀ (l : List Ex) (i : Nat), freeLB d (l ++ [y]) i x = (freeLB d l i x || (y.freeB x && !decide (x ∈ d.boundF (i + l.length))))
  | [], i => by simp [freeLB]
  | z :: l, i => by
    simp only [List.cons_append, freeLB, freeLB_snoc d x y l (i + 1), List.length_cons, Bool.or_assoc]
    rw [show i + 1 + l.length = i + (l.length + 1) from by omega]
theorem freeLB_at (d : ExD) (x : Str) : ∀ (l : List Ex) (i k : Nat) (hk : k < l.length), l[k].freeB x = true → x ∉ d.boundF (i + k) → freeLB d l i x = true
  | [], i, k, hk, _, _ => by simp at hk
  | y :: l, i, 0, hk, h, hb => by
    simp only [freeLB]
    have h' : y.freeB x = true := h
    have hb' : x ∉ d.boundF i := by simpa using hb
    simp [h', hb']
  | y :: l, i, k + 1, hk, h, hb => by
    simp only [freeLB]
    rw [freeLB_at d x l (i + 1) k (by simpa using hk) h (by rw [show i + 1 + k = i + (k + 1) from by omega]; exact hb)]
    simp
theorem free_part {d : ExD} {l : List Ex} {k : Nat} {x : Str} (hk : k < l.length) (h : l[k].freeB x = true) : x = d.s ∨ x = d.t ∨ (Ex.mk d l).freeB x = true ∨ x ∈ d.names := by
  by_cases hb : x ∈ d.boundF k
  · unfold ExD.boundF at hb
    split at hb
    · simp at hb; exact .inl hb
    split at hb
    · simp at hb; rcases hb with h | h
      · exact .inl h
      · exact .inr (.inl h)
    split at hb
    · simp at hb; exact .inr (.inl hb)
    split at hb
    · exact .inr (.inr (.inr (List.mem_of_mem_drop (List.mem_of_mem_take hb))))
    · cases hb
  · right; right; left
    simp only [Ex.freeB]
    rw [freeLB_at d x l 0 k hk h (by simpa using hb)]
    simp
end Go.Proofs.YtaglmmcjhlehjaaDoor
