/-
  Arguments opened: a slice that came in, whatever its elements.
-/
import Derived.Test.YthblcfhflkapmaaMem
import Derived.Deep.Slices
import Derived.Deep.Fields
import Derived.Lib.SmallJoins
namespace Go.Proofs.Ythblcfhflkapmaa
open Go.ChangeShapes Go.WideShapes Go.ChangeAt Go.RowKit
set_option linter.unusedVariables false

section
variable {H : Type} {enc : TypeId × Value → H} {P : Program} {W : World} {base : Nat} {sp : Nat → Bool} {held : Bool}

/-- A slice's elements, each read as one of a kind of your own ('cells': its cells; 'good': what the reading says of it); by the slice's one cell. -/
theorem open_row {α : Type} {cells : α → List Value} {good : α → Prop} {t e : TypeId} {size : Nat} (ht : P.underlying t = some (.slice e)) (hC : P.cellsOf e = size) (hsz : ∀ y, (cells y).length = size) (h0 : 0 < size)
    (hel : ∀ (n : Nat) (cs : List Value) (x : DataW H × List MemPlace), DataW.trod enc P W base sp held n e cs = some x → ∃ y, cells y = cs ∧ good y)
    {fuel : Nat} {cs : List Value} {x : DataW H × List MemPlace} (hf : DataW.trod enc P W base sp held fuel t cs = some x) :
    ∃ (A : Option Addr) (n c : Nat) (l : List α), cs = [.slice A n c] ∧ n ≤ c ∧ c ≤ maxLen ∧ l.length = n ∧ Rd W size A n (l.flatMap cells) ∧ (A = none → c = 0) ∧ ∀ y ∈ l, good y := by
  rcases Go.Deep.open_slice ht hf with ⟨hcs, _⟩ | ⟨a, n, c, m, k, D, Pl, hcs, _, hl, hm, hmm, _, hi⟩
  · exact ⟨none, 0, 0, [], hcs, Nat.le_refl _, by simp [maxLen], rfl, Rd.nil _ _ _, fun _ => rfl, fun y hy => by cases hy⟩
  · rw [hC] at hi
    have hlm : n ≤ m := by rw [hmm]; split <;> omega
    have key : ∀ q, q ≤ n → ∃ l : List α, l.length = q ∧ (∀ y ∈ l, good y) ∧ Held W a (l.flatMap cells) := by
      intro q
      induction q with
      | zero => intro _; exact ⟨[], rfl, (fun y hy => by cases hy), (fun j u hu => by simp at hu)⟩
      | succ q ih =>
        intro hq
        obtain ⟨l, hlen, hg, hh⟩ := ih (by omega)
        obtain ⟨cs', hc, htr⟩ := hi q (by omega)
        obtain ⟨y, rfl, hy⟩ := hel _ _ _ htr
        obtain ⟨_, hcl, hat⟩ := World.cells?_some hc
        have hfl : (l.flatMap cells).length = q * size := by
          rw [← hlen]
          clear ih hh hg hlen
          induction l with
          | nil => simp
          | cons z r ih => simp only [List.flatMap_cons, List.length_append, hsz, ih, List.length_cons, Nat.add_mul]; omega
        refine ⟨l ++ [y], by simp [hlen], ?_, ?_⟩
        · intro z hz
          rcases List.mem_append.1 hz with hz | hz
          · exact hg z hz
          · simp at hz; subst hz; exact hy
        · intro j u hu
          simp only [List.flatMap_append, List.flatMap_cons, List.flatMap_nil, List.append_nil] at hu
          rw [List.getElem?_append] at hu
          split at hu
          · exact hh j u hu
          · rename_i hj
            rw [hfl] at hu hj
            have hjs : j - q * size < size := by
              have := (List.getElem?_eq_some_iff.1 hu).1; rw [hsz] at this; omega
            have := hat _ hjs
            rw [add_add, show q * size + (j - q * size) = j from by omega] at this
            rw [this, hu]
    obtain ⟨l, hlen, hg, hh⟩ := key n (Nat.le_refl _)
    refine ⟨some a, n, c, l, hcs, hl, hm, hlen, ⟨?_, fun _ => ⟨a, rfl, hh⟩⟩, (fun h => by cases h), hg⟩
    rw [← hlen]
    clear key hh hg hlen
    induction l with
    | nil => simp
    | cons z r ih => simp only [List.flatMap_cons, List.length_append, hsz, ih, List.length_cons, Nat.add_mul]; omega

theorem weights_mem {P : Program} {e : TypeId} {d : DataW H} : ∀ {ds : List (DataW H)}, d ∈ ds → ∀ q ∈ DataW.weights P e d, q ∈ DataW.weightsAll P e ds
  | [], h, q, hq => by cases h
  | d0 :: ds, h, q, hq => by
    simp only [DataW.weightsAll, List.mem_append]
    rcases List.mem_cons.1 h with rfl | h
    · exact .inl hq
    · exact .inr (weights_mem h q hq)

/-- The same, with how large what is read may be: no slice, no text in it takes more than B bytes. -/
theorem open_rowZ (B : Nat) {α : Type} {cells : α → List Value} {good : α → Prop} {t e : TypeId} {size : Nat} (ht : P.underlying t = some (.slice e)) (hC : P.cellsOf e = size) (hsz : ∀ y, (cells y).length = size) (h0 : 0 < size)
    (hel : ∀ (n : Nat) (cs : List Value) (x : DataW H × List MemPlace), DataW.trod enc P W base sp held n e cs = some x → (∀ q ∈ DataW.weights P e x.1, q ≤ B) → ∃ y, cells y = cs ∧ good y)
    {fuel : Nat} {cs : List Value} {x : DataW H × List MemPlace} (hf : DataW.trod enc P W base sp held fuel t cs = some x) (hB : ∀ q ∈ DataW.weights P t x.1, q ≤ B) :
    ∃ (A : Option Addr) (n c : Nat) (l : List α), cs = [.slice A n c] ∧ n ≤ c ∧ c ≤ maxLen ∧ l.length = n ∧ n * P.bytesOf e ≤ B ∧ Rd W size A n (l.flatMap cells) ∧ (A = none → c = 0) ∧ ∀ y ∈ l, good y := by
  rcases Go.Deep.open_slice ht hf with ⟨hcs, _⟩ | ⟨a, n, c, m, k, D, Pl, hcs, _, hl, hm, hmm, hx, hi⟩
  · exact ⟨none, 0, 0, [], hcs, Nat.le_refl _, by simp [maxLen], rfl, by simp, Rd.nil _ _ _, fun _ => rfl, fun y hy => by cases hy⟩
  · rw [hC] at hi
    rw [hx] at hB
    have hB1 : n * P.bytesOf e ≤ B := by
      refine Nat.le_trans ?_ (hB _ (by simp only [DataW.weights, ht]; exact List.mem_cons_self))
      rw [List.length_map, List.length_map, List.length_range, List.length_range]
      exact Nat.mul_le_mul_right _ (by omega)
    have hB2 : ∀ i, i < n → ∀ q ∈ DataW.weights P e (D i), q ≤ B := by
      intro i hi q hq
      refine hB q ?_
      simp only [DataW.weights, ht]
      exact List.mem_cons_of_mem _ (List.mem_append_left _ (weights_mem (List.mem_map.2 ⟨i, List.mem_range.2 hi, rfl⟩) q hq))
    have hlm : n ≤ m := by rw [hmm]; split <;> omega
    have key : ∀ q, q ≤ n → ∃ l : List α, l.length = q ∧ (∀ y ∈ l, good y) ∧ Held W a (l.flatMap cells) := by
      intro q
      induction q with
      | zero => intro _; exact ⟨[], rfl, (fun y hy => by cases hy), (fun j u hu => by simp at hu)⟩
      | succ q ih =>
        intro hq
        obtain ⟨l, hlen, hg, hh⟩ := ih (by omega)
        obtain ⟨cs', hc, htr⟩ := hi q (by omega)
        obtain ⟨y, rfl, hy⟩ := hel _ _ _ htr (hB2 q (by omega))
        obtain ⟨_, hcl, hat⟩ := World.cells?_some hc
        have hfl : (l.flatMap cells).length = q * size := by
          rw [← hlen]
          clear ih hh hg hlen
          induction l with
          | nil => simp
          | cons z r ih => simp only [List.flatMap_cons, List.length_append, hsz, ih, List.length_cons, Nat.add_mul]; omega
        refine ⟨l ++ [y], by simp [hlen], ?_, ?_⟩
        · intro z hz
          rcases List.mem_append.1 hz with hz | hz
          · exact hg z hz
          · simp at hz; subst hz; exact hy
        · intro j u hu
          simp only [List.flatMap_append, List.flatMap_cons, List.flatMap_nil, List.append_nil] at hu
          rw [List.getElem?_append] at hu
          split at hu
          · exact hh j u hu
          · rename_i hj
            rw [hfl] at hu hj
            have hjs : j - q * size < size := by
              have := (List.getElem?_eq_some_iff.1 hu).1; rw [hsz] at this; omega
            have := hat _ hjs
            rw [add_add, show q * size + (j - q * size) = j from by omega] at this
            rw [this, hu]
    obtain ⟨l, hlen, hg, hh⟩ := key n (Nat.le_refl _)
    refine ⟨some a, n, c, l, hcs, hl, hm, hlen, hB1, ⟨?_, fun _ => ⟨a, rfl, hh⟩⟩, (fun h => by cases h), hg⟩
    rw [← hlen]
    clear key hh hg hlen
    induction l with
    | nil => simp
    | cons z r ih => simp only [List.flatMap_cons, List.length_append, hsz, ih, List.length_cons, Nat.add_mul]; omega

/-- The same of an argument. -/
theorem open_elems {α : Type} {cells : α → List Value} {good : α → Prop} {t e : TypeId} {size : Nat} (ht : P.underlying t = some (.slice e)) (hC : P.cellsOf e = size) (hsz : ∀ y, (cells y).length = size) (h0 : 0 < size)
    (hel : ∀ (n : Nat) (cs : List Value) (x : DataW H × List MemPlace), DataW.trod enc P W base sp held n e cs = some x → ∃ y, cells y = cs ∧ good y)
    {b0 : Nat} {r : Reach} {v : Value} {d : DataW H} {ps : List MemPlace} (hv : Value.okWide P W r b0 t v) (h : DataW.Trod enc P W base sp held t v d ps) :
    ∃ (A : Option Addr) (n c : Nat) (l : List α), v = .slice A n c ∧ n ≤ c ∧ c ≤ maxLen ∧ l.length = n ∧ Rd W size A n (l.flatMap cells) ∧ ∀ y ∈ l, good y := by
  obtain ⟨A, n, c, rfl⟩ := okWide_slice ht hv
  obtain ⟨fuel, hf⟩ := h
  obtain ⟨A', n', c', l, hcs, h1, h2, h3, h4, _, h5⟩ := open_row ht hC hsz h0 hel hf
  simp [Value.cells] at hcs
  obtain ⟨rfl, rfl, rfl⟩ := hcs
  exact ⟨A, n, c, l, rfl, h1, h2, h3, h4, h5⟩
end
end Go.Proofs.Ythblcfhflkapmaa
