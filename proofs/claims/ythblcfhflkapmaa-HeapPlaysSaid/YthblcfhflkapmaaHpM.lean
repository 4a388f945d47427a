/-
  Words and marks as they lie in memory.
-/
import Derived.Test.YthblcfhflkapmaaHpL
import Derived.Test.YthblcfhflkapmaaMem
import Derived.Test.YthblcfhflkapmaaBase
import Derived.Deep.AppendLies
import Derived.Lib.QuietBelow
import Derived.Lib.Builder
import Derived.Maps.AppendAt
import Derived.Laws.Cover1
import Derived.Lib.Hide
namespace Go.Proofs.Ythblcfhflkapmaa
open Go Go.ChangeShapes Go.WideShapes Go.ChangeAt Go.RowKit Go.Sort
set_option linter.unusedVariables false
set_option linter.unusedSimpArgs false

theorem lt_of_heap {w : World} {k : Nat} {o : Obj} (h : w.heap[k]? = some o) : k < w.heap.size := (Array.getElem?_eq_some_iff.1 h).1
theorem below_drew1 (w : World) : Below w.heap.size w w.drew := Below.drew (Below.refl _ _)
theorem set_cells {w : World} {g : Nat} {cs : Array Value} {T : TypeId} {fr : Nat × Nat} (h : w.heap[g]? = some (.cells cs T fr)) (i : Nat) (u : Value) : (w.setCell ⟨g, i, none⟩ u).heap[g]? = some (.cells (cs.setIfInBounds i u) T fr) := by
  simp [World.setCell, Array.getElem?_modify, h]
theorem set_other (w : World) (g i : Nat) (u : Value) {b : Nat} (h : b ≠ g) : (w.setCell ⟨g, i, none⟩ u).heap[b]? = w.heap[b]? := Below.heap_setCell w ⟨g, i, none⟩ u b h
theorem heap_new {w : World} {o : Obj} {n : Nat} (h : w.heap.size = n) : (w.alloc o).heap[n]? = some o := by subst h; exact Array.getElem?_push_size
theorem two_boxes (w : World) (o1 o2 : Obj) : ((w.alloc o1).alloc o2).heap[w.heap.size]? = some o1 ∧ ((w.alloc o1).alloc o2).heap[w.heap.size + 1]? = some o2 ∧ Below w.heap.size w ((w.alloc o1).alloc o2) :=
  ⟨(Below.heap_alloc _ _ _ (by rw [World.size_alloc]; omega)).trans (heap_new rfl), heap_new (World.size_alloc _ _), ((Below.refl _ _).alloc (Nat.le_refl _) _).alloc (by rw [World.size_alloc]; omega) _⟩
theorem own_keep {w w' : World} {base n : Nat} {e : TypeId} {size : Nat} {v : Value} {xs : List Value} (h : w.ownsRow base e size v n xs) (hk : ∀ g, v.ownBlock = some g → g < w.heap.size → w'.heap[g]? = w.heap[g]?) : w'.ownsRow base e size v n xs := by
  refine ⟨h.1, ?_⟩
  rcases h.2 with q | ⟨g, cap, cur, hv, hg, hh, r⟩
  · exact .inl q
  · subst hv
    exact .inr ⟨g, cap, cur, rfl, hg, (hk g rfl (lt_of_heap hh)).trans hh, r⟩
theorem own_some {w : World} {base n : Nat} {e : TypeId} {size : Nat} {v : Value} {xs : List Value} (h : w.ownsRow base e size v (n + 1) xs) : ∃ q cap, v = .slice (some ⟨q, 0, none⟩) (n + 1) cap := by
  rcases h.2 with ⟨_, e⟩ | ⟨g, cap, cur, hv, _⟩
  · omega
  · exact ⟨g, cap, hv⟩
/-- A cell of an own row. -/
theorem own_cell {w : World} {base n q cap : Nat} {e : TypeId} {size : Nat} {xs : List Value} (h : w.ownsRow base e size (.slice (some ⟨q, 0, none⟩) n cap) n xs) {i : Nat} {u : Value} (hi : xs[i]? = some u) : w.cell? ⟨q, i, none⟩ = some u ∧ w.frozen? ⟨q, i, none⟩ = false := by
  have hl : i < n * size := by rw [← h.1]; exact (List.getElem?_eq_some_iff.1 hi).1
  rcases h.2 with ⟨e, _⟩ | ⟨q', cap', cur, hv, hg, hh, h1, h2, h3, h4⟩
  · cases e
  · injection hv with e1 _ _
    injection e1 with e1
    injection e1 with e1
    subst e1
    refine ⟨?_, Lib.frozen_of_heap hh _⟩
    rw [Lib.cell_of_heap hh, ← Array.getElem?_toList]
    rw [← h4, List.getElem?_take_of_lt hl] at hi
    exact hi
theorem own_set {w : World} {base n g cap : Nat} {e : TypeId} {size : Nat} {xs : List Value} (h : w.ownsRow base e size (.slice (some ⟨g, 0, none⟩) n cap) n xs) (i : Nat) (hi : i < n * size) (u : Value) :
    (w.setCell ⟨g, i, none⟩ u).ownsRow base e size (.slice (some ⟨g, 0, none⟩) n cap) n (xs.set i u) := by
  refine ⟨by rw [List.length_set]; exact h.1, .inr ?_⟩
  rcases h.2 with ⟨q, _⟩ | ⟨g', cap', cur, hv, hg, hh, h1, h2, h3, h4⟩
  · cases q
  · injection hv with e1 _ e2
    injection e1 with e1
    injection e1 with e1
    subst e1 e2
    refine ⟨g, cap, cur.setIfInBounds i u, rfl, hg, ?_, h1, h2, by simpa using h3, ?_⟩
    · simp [World.setCell, Array.getElem?_modify, hh]
    · rw [Array.toList_setIfInBounds, List.take_set, h4]
/-- A row that is cut. -/
theorem own_cut {w : World} {base n g cap : Nat} {e : TypeId} {size : Nat} {xs : List Value} (h : w.ownsRow base e size (.slice (some ⟨g, 0, none⟩) n cap) n xs) (m : Nat) (hm : m ≤ n) :
    w.ownsRow base e size (.slice (some ⟨g, 0, none⟩) m cap) m (xs.take (m * size)) := by
  have hms : m * size ≤ n * size := Nat.mul_le_mul_right size hm
  refine ⟨by rw [List.length_take, h.1]; exact Nat.min_eq_left hms, .inr ?_⟩
  rcases h.2 with ⟨q, _⟩ | ⟨g', cap', cur, hv, hg, hh, h1, h2, h3, h4⟩
  · cases q
  · injection hv with e1 _ e2
    injection e1 with e1
    injection e1 with e1
    subst e1 e2
    refine ⟨g, cap, cur, rfl, hg, hh, by omega, h2, h3, ?_⟩
    rw [← h4, List.take_take, Nat.min_eq_left hms]
theorem own_mono {w : World} {base B : Nat} {e : TypeId} {size n : Nat} {v : Value} {xs : List Value} (h : w.ownsRow base e size v n xs) (hB : B ≤ base) : w.ownsRow B e size v n xs := by
  refine ⟨h.1, ?_⟩
  rcases h.2 with hn | ⟨g, cap, cur, rfl, hb, rest⟩
  · exact .inl hn
  · exact .inr ⟨g, cap, cur, rfl, by omega, rest⟩
/-! ### Words, marks -/
def wcell (u : Wd) : List Value := [.bool u.ptr, .int .i64 u.v]
def wcells (l : List Wd) : List Value := l.flatMap wcell
def bcells (l : List Bool) : List Value := l.map .bool
theorem wcells_len (l : List Wd) : (wcells l).length = l.length * 2 := by
  induction l with
  | nil => rfl
  | cons x l ih => simp only [wcells, List.flatMap_cons, List.length_append, List.length_cons] at ih ⊢; rw [ih]; simp [wcell]; omega
theorem wcells_append (a b : List Wd) : wcells (a ++ b) = wcells a ++ wcells b := by simp [wcells]
theorem wcells_at {l : List Wd} {k : Nat} {u : Wd} (h : l[k]? = some u) : (wcells l)[k * 2]? = some (.bool u.ptr) ∧ (wcells l)[k * 2 + 1]? = some (.int .i64 u.v) := by
  induction l generalizing k with
  | nil => simp at h
  | cons x l ih =>
    cases k with
    | zero =>
      injection h with h
      subst h
      exact ⟨rfl, rfl⟩
    | succ k =>
      have := ih (k := k) (by simpa using h)
      rw [show (k + 1) * 2 = k * 2 + 1 + 1 by omega]
      exact this
theorem wcells_set (l : List Wd) (k : Nat) (u : Wd) : wcells (l.set k u) = ((wcells l).set (k * 2) (.bool u.ptr)).set (k * 2 + 1) (.int .i64 u.v) := by
  induction l generalizing k with
  | nil => rfl
  | cons x l ih =>
    cases k with
    | zero => rfl
    | succ k =>
      have := ih k
      rw [show (k + 1) * 2 = k * 2 + 1 + 1 by omega]
      simp only [wcells, List.set_cons_succ, List.flatMap_cons, wcell, List.cons_append, List.nil_append] at this ⊢
      rw [this]
theorem wcells_ones (l : List Wd) : ∀ u ∈ wcells l, u.oneCell' = true := by
  intro u hu
  obtain ⟨x, _, hx⟩ := List.mem_flatMap.1 hu
  rcases List.mem_cons.1 hx with rfl | hx
  · rfl
  · rw [List.mem_singleton.1 hx]; rfl
theorem wcells_cut (l : List Wd) (lo n : Nat) : ((wcells l).drop (lo * 2)).take (n * 2) = wcells ((l.drop lo).take n) := by
  induction l generalizing lo with
  | nil => simp [wcells]
  | cons x l ih =>
    cases lo with
    | zero =>
      rw [Nat.zero_mul, List.drop_zero, List.drop_zero]
      clear ih
      induction n generalizing x l with
      | zero => simp [wcells]
      | succ n ihn =>
        rw [show (n + 1) * 2 = n * 2 + 1 + 1 by omega]
        cases l with
        | nil => simp [wcells, wcell]
        | cons y l =>
          have := ihn y l
          simp only [wcells, List.flatMap_cons, wcell, List.cons_append, List.nil_append, List.take_succ_cons] at this ⊢
          rw [this]
    | succ lo =>
      have := ih lo
      rw [show (lo + 1) * 2 = lo * 2 + 1 + 1 by omega]
      exact this
theorem bcells_len (l : List Bool) : (bcells l).length = l.length * 1 := by simp [bcells]
theorem bcells_at {l : List Bool} {k : Nat} {u : Bool} (h : l[k]? = some u) : (bcells l)[k]? = some (.bool u) := by simp [bcells, h]
theorem bcells_append (a b : List Bool) : bcells (a ++ b) = bcells a ++ bcells b := by simp [bcells]
end Go.Proofs.Ythblcfhflkapmaa
