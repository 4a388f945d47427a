/-
  A heap's objects, about no memory: where they stand, what is reached, where it goes.
-/
import Derived.Test.YthblcfhflkapmaaBase
namespace Go.Proofs.Ythblcfhflkapmaa
open Go
set_option linter.unusedVariables false
set_option linter.unusedSimpArgs false

/-- A word: a number, or a place. -/
structure Wd where
  ptr : Bool
  v : Int
deriving DecidableEq
/-- An object: its kind, its words. -/
abbrev Ob := Int × List Wd
def osz (o : Ob) : Nat := 1 + o.2.length
def sizes : List Ob → Nat
  | [] => 0
  | o :: l => osz o + sizes l
theorem sizes_append (a b : List Ob) : sizes (a ++ b) = sizes a + sizes b := by
  induction a with
  | nil => simp [sizes]
  | cons x a ih => simp only [List.cons_append, sizes, ih]; omega
/-- Where an object stands. -/
def place (L : List Ob) (j : Nat) : Nat := sizes (L.take j)
theorem place_succ {L : List Ob} {j : Nat} {o : Ob} (h : L[j]? = some o) : place L (j + 1) = place L j + osz o := by
  obtain ⟨h1, h2⟩ := List.getElem?_eq_some_iff.1 h
  unfold place
  rw [List.take_succ_eq_append_getElem h1, h2, sizes_append]
  simp [sizes]
theorem place_mono {L : List Ob} {i j : Nat} (h : i ≤ j) : place L i ≤ place L j := by
  unfold place
  have : L.take j = L.take i ++ (L.drop i).take (j - i) := by
    rw [← List.take_add]
    congr 1
    omega
  rw [this, sizes_append]
  omega
theorem place_lt {L : List Ob} {i j : Nat} (h : i < j) (hi : i < L.length) : place L i < place L j := by
  have h1 := place_succ (List.getElem?_eq_getElem hi)
  have h2 := place_mono (L := L) (show i + 1 ≤ j by omega)
  unfold osz at h1
  omega
theorem place_le {L : List Ob} (j : Nat) : place L j ≤ sizes L := by
  have h : L = L.take j ++ L.drop j := (List.take_append_drop j L).symm
  have := sizes_append (L.take j) (L.drop j)
  rw [← h] at this
  unfold place
  omega
theorem place_end (L : List Ob) : place L L.length = sizes L := by unfold place; rw [List.take_length]
theorem place_inj {L : List Ob} {i j : Nat} (hi : i < L.length) (hj : j < L.length) (h : place L i = place L j) : i = j := by
  rcases Nat.lt_trichotomy i j with q | q | q
  · have := place_lt (L := L) q hi; omega
  · exact q
  · have := place_lt (L := L) q hj; omega
/-- Objects' words, with what stands at their heads. -/
def flatH : List Wd → List Ob → List Wd
  | h :: hs, o :: l => h :: (o.2 ++ flatH hs l)
  | _, _ => []
theorem flatH_length : ∀ (hs : List Wd) (L : List Ob), hs.length = L.length → (flatH hs L).length = sizes L
  | [], [], _ => rfl
  | h :: hs, o :: l, e => by
    have := flatH_length hs l (by simpa using e)
    simp only [flatH, List.length_cons, List.length_append, sizes, osz, this]; omega
theorem flatH_head : ∀ (hs : List Wd) (L : List Ob) (j : Nat) (h : Wd), hs.length = L.length → hs[j]? = some h → (flatH hs L)[place L j]? = some h
  | [], _, _, _, _, h2 => by simp at h2
  | x :: hs, [], _, _, e, _ => by simp at e
  | x :: hs, o :: l, 0, h, e, h2 => by simpa [flatH, place, sizes] using h2
  | x :: hs, o :: l, j + 1, h, e, h2 => by
    have ih := flatH_head hs l j h (by simpa using e) (by simpa using h2)
    have hp : place (o :: l) (j + 1) = o.2.length + place l j + 1 := by simp only [place, List.take_succ_cons, sizes, osz]; omega
    rw [hp, flatH, List.getElem?_cons_succ, List.getElem?_append_right (by omega), show o.2.length + place l j - o.2.length = place l j by omega]
    exact ih
theorem flatH_word : ∀ (hs : List Wd) (L : List Ob) (j : Nat) (o : Ob) (i : Nat) (u : Wd), hs.length = L.length → L[j]? = some o → o.2[i]? = some u → (flatH hs L)[place L j + 1 + i]? = some u
  | [], [], _, _, _, _, _, h2, _ => by simp at h2
  | x :: hs, [], _, _, _, _, e, _, _ => by simp at e
  | [], x :: l, _, _, _, _, e, _, _ => by simp at e
  | x :: hs, p :: l, 0, o, i, u, e, h2, h3 => by
    obtain rfl : p = o := by simpa using h2
    have hi := (List.getElem?_eq_some_iff.1 h3).1
    simp only [place, List.take_zero, sizes, flatH, Nat.zero_add, show 1 + i = i + 1 by omega, List.getElem?_cons_succ]
    rw [List.getElem?_append_left hi]
    exact h3
  | x :: hs, p :: l, j + 1, o, i, u, e, h2, h3 => by
    have ih := flatH_word hs l j o i u (by simpa using e) (by simpa using h2) h3
    have hp : place (p :: l) (j + 1) + 1 + i = p.2.length + (place l j + 1 + i) + 1 := by simp only [place, List.take_succ_cons, sizes, osz]; omega
    rw [hp, flatH, List.getElem?_cons_succ, List.getElem?_append_right (by omega), show p.2.length + (place l j + 1 + i) - p.2.length = place l j + 1 + i by omega]
    exact ih
theorem flatH_set : ∀ (hs : List Wd) (L : List Ob) (j : Nat) (h : Wd), hs.length = L.length → j < L.length → flatH (hs.set j h) L = (flatH hs L).set (place L j) h
  | [], [], _, _, _, hj => by simp at hj
  | x :: hs, [], _, _, e, _ => by simp at e
  | [], x :: l, _, _, e, _ => by simp at e
  | x :: hs, o :: l, 0, h, e, _ => by simp [flatH, place, sizes]
  | x :: hs, o :: l, j + 1, h, e, hj => by
    have ih := flatH_set hs l j h (by simpa using e) (by simpa using hj)
    have hp : place (o :: l) (j + 1) = o.2.length + place l j + 1 := by simp only [place, List.take_succ_cons, sizes, osz]; omega
    rw [hp, List.set_cons_succ, flatH, flatH, List.set_cons_succ, List.set_append_right _ _ (by omega), show o.2.length + place l j - o.2.length = place l j by omega, ih]
/-- A word of an object is set. -/
theorem flatH_setw : ∀ (hs : List Wd) (L : List Ob) (j : Nat) (o : Ob) (i : Nat) (u : Wd), hs.length = L.length → L[j]? = some o → i < o.2.length → flatH hs (L.set j (o.1, o.2.set i u)) = (flatH hs L).set (place L j + 1 + i) u
  | [], [], _, _, _, _, _, h2, _ => by simp at h2
  | x :: hs, [], _, _, _, _, e, _, _ => by simp at e
  | [], x :: l, _, _, _, _, e, _, _ => by simp at e
  | x :: hs, p :: l, 0, o, i, u, e, h2, h3 => by
    obtain rfl : p = o := by simpa using h2
    simp only [List.set_cons_zero, flatH, place, List.take_zero, sizes, Nat.zero_add, show 1 + i = i + 1 by omega, List.set_cons_succ]
    rw [List.set_append_left _ _ h3]
  | x :: hs, p :: l, j + 1, o, i, u, e, h2, h3 => by
    have ih := flatH_setw hs l j o i u (by simpa using e) (by simpa using h2) h3
    have hp : place (p :: l) (j + 1) + 1 + i = p.2.length + (place l j + 1 + i) + 1 := by simp only [place, List.take_succ_cons, sizes, osz]; omega
    rw [hp, List.set_cons_succ, flatH, flatH, List.set_cons_succ, List.set_append_right _ _ (by omega), show p.2.length + (place l j + 1 + i) - p.2.length = place l j + 1 + i by omega, ih]
theorem flatH_snoc : ∀ (hs : List Wd) (L : List Ob) (h : Wd) (o : Ob), hs.length = L.length → flatH (hs ++ [h]) (L ++ [o]) = flatH hs L ++ (h :: o.2)
  | [], [], h, o, _ => by simp [flatH]
  | x :: hs, [], _, _, e => by simp at e
  | [], x :: l, _, _, e => by simp at e
  | x :: hs, p :: l, h, o, e => by
    have ih := flatH_snoc hs l h o (by simpa using e)
    simp [flatH, ih]
/-- A head. -/
def hdW (o : Ob) : Wd := ⟨false, 16 * o.2.length + o.1⟩
/-- The words of a heap. -/
def flat (L : List Ob) : List Wd := flatH (L.map hdW) L
/-- Where heads stand. -/
def begs : List Ob → List Bool
  | [] => []
  | o :: l => true :: (List.replicate o.2.length false ++ begs l)
theorem begs_length : ∀ L : List Ob, (begs L).length = sizes L
  | [] => rfl
  | o :: l => by simp only [begs, List.length_cons, List.length_append, List.length_replicate, sizes, osz, begs_length l]; omega
theorem begs_at : ∀ (L : List Ob) (p : Nat), (begs L)[p]? = some true ↔ ∃ j, j < L.length ∧ place L j = p
  | [], p => by simp [begs]
  | o :: l, 0 => by
    simp only [begs, List.getElem?_cons_zero, true_iff]
    exact ⟨0, by simp, rfl⟩
  | o :: l, p + 1 => by
    have hp : ∀ j, place (o :: l) (j + 1) = o.2.length + place l j + 1 := fun j => by simp only [place, List.take_succ_cons, sizes, osz]; omega
    rw [begs, List.getElem?_cons_succ]
    by_cases q : p < o.2.length
    · rw [List.getElem?_append_left (by simpa using q)]
      constructor
      · intro h
        rw [List.getElem?_replicate] at h
        split at h <;> cases h
      · rintro ⟨j, hj, e⟩
        cases j with
        | zero => simp [place, sizes] at e
        | succ j => rw [hp] at e; omega
    · rw [List.getElem?_append_right (by simp; omega), List.length_replicate, begs_at l]
      constructor
      · rintro ⟨j, hj, e⟩
        exact ⟨j + 1, by simpa using hj, by rw [hp]; omega⟩
      · rintro ⟨j, hj, e⟩
        cases j with
        | zero => simp [place, sizes] at e
        | succ j => exact ⟨j, by simpa using hj, by rw [hp] at e; omega⟩
theorem begs_snoc (L : List Ob) (o : Ob) : begs (L ++ [o]) = begs L ++ (true :: List.replicate o.2.length false) := by
  induction L with
  | nil => simp [begs]
  | cons x l ih => simp [begs, ih]
/-- The number of the object at a place. -/
def atP : List Ob → Nat → Int → Nat → Option Nat
  | [], _, _, _ => none
  | o :: l, q, p, j => if (q : Int) = p then some j else atP l (q + osz o) p (j + 1)
def at_ (L : List Ob) (p : Int) : Option Nat := atP L 0 p 0
theorem atP_eq : ∀ (l pre : List Ob) (p : Int), atP l (sizes pre) p pre.length = (List.range l.length).findSome? (fun k => if ((place (pre ++ l) (pre.length + k) : Nat) : Int) = p then some (pre.length + k) else none)
  | [], pre, p => by simp [atP]
  | o :: l, pre, p => by
    have ih := atP_eq l (pre ++ [o]) p
    rw [sizes_append, show sizes [o] = osz o by simp [sizes], List.length_append, List.length_singleton] at ih
    have h0 : place (pre ++ o :: l) (pre.length + 0) = sizes pre := by unfold place; rw [Nat.add_zero, List.take_left']; rfl
    rw [atP, List.length_cons, List.range_succ_eq_map, List.findSome?_cons, h0, Nat.add_zero]
    by_cases q : (sizes pre : Int) = p
    · simp [q]
    · simp only [q, if_false]
      rw [ih, List.findSome?_map]
      simp only [List.append_assoc, List.singleton_append, Function.comp_def]
      congr 1
      funext k
      rw [show pre.length + 1 + k = pre.length + (k + 1) by omega]
theorem at_some {L : List Ob} {p : Int} {j : Nat} : at_ L p = some j ↔ j < L.length ∧ (place L j : Int) = p := by
  have h := atP_eq L [] p
  simp only [sizes, List.length_nil, List.nil_append, Nat.zero_add] at h
  unfold at_
  rw [h]
  constructor
  · intro hh
    obtain ⟨k, hk, e⟩ := List.exists_of_findSome?_eq_some hh
    split at e
    · rename_i q
      injection e with e
      subst e
      exact ⟨List.mem_range.1 hk, q⟩
    · cases e
  · rintro ⟨hj, e⟩
    cases hf : (List.range L.length).findSome? (fun k => if ((place L k : Nat) : Int) = p then some k else none) with
    | none =>
      have := List.findSome?_eq_none_iff.1 hf j (List.mem_range.2 hj)
      simp [e] at this
    | some k =>
      obtain ⟨k', hk, e2⟩ := List.exists_of_findSome?_eq_some hf
      split at e2
      · rename_i q
        injection e2 with e2
        subst e2
        have : k' = j := place_inj (List.mem_range.1 hk) hj (by omega)
        rw [this]
      · cases e2

/-! ### What is reached, and in what order -/
abbrev zO : Ob := (0, [])
def ob (L : List Ob) (j : Nat) : Ob := L[j]?.getD zO
/-- A word's object comes behind those that are there, once. -/
def rstep (L : List Ob) (order : List Nat) (w : Wd) : List Nat :=
  if w.ptr = true then (match at_ L w.v with
    | some j => if j ∈ order then order else order ++ [j]
    | none => order) else order
def reachP (L : List Ob) (order : List Nat) (ws : List Wd) : List Nat := ws.foldl (rstep L) order
/-- The order in which objects are reached, so many of them looked through. -/
def ord (L : List Ob) (roots : List Wd) : Nat → List Nat
  | 0 => reachP L [] roots
  | n + 1 => match (ord L roots n)[n]? with
    | some j => reachP L (ord L roots n) (ob L j).2
    | none => ord L roots n
def ordF (L : List Ob) (roots : List Wd) : List Nat := ord L roots L.length
/-- An order of a heap's objects. -/
structure Og (L : List Ob) (order : List Nat) : Prop where
  nd : order.Nodup
  lt : ∀ j ∈ order, j < L.length
theorem Og.nil (L : List Ob) : Og L [] := ⟨List.nodup_nil, fun j hj => by cases hj⟩
theorem nodup_len : ∀ (n : Nat) (l : List Nat), l.Nodup → (∀ j ∈ l, j < n) → l.length ≤ n
  | 0, l, _, h => by
    cases l with
    | nil => simp
    | cons x l => exact absurd (h x (List.mem_cons_self ..)) (by omega)
  | n + 1, l, hd, h => by
    have h1 := nodup_len n (l.erase n) (hd.erase n) (fun j hj => by
      have h2 := h j (List.mem_of_mem_erase hj)
      have h3 : j ≠ n := fun e => by subst e; exact absurd hj (fun q => (List.Nodup.mem_erase_iff hd).1 q |>.1 rfl)
      omega)
    by_cases q : n ∈ l
    · rw [List.length_erase_of_mem q] at h1; omega
    · rw [List.erase_of_not_mem q] at h1; omega
theorem Og.len {L : List Ob} {order : List Nat} (h : Og L order) : order.length ≤ L.length := nodup_len _ _ h.nd h.lt
theorem rstep_cases (L : List Ob) (order : List Nat) (w : Wd) : (rstep L order w = order ∧ (w.ptr = true → ∀ j, at_ L w.v = some j → j ∈ order)) ∨ ∃ j, rstep L order w = order ++ [j] ∧ w.ptr = true ∧ at_ L w.v = some j ∧ j ∉ order := by
  unfold rstep
  by_cases hp : w.ptr = true
  · rw [if_pos hp]
    cases ha : at_ L w.v with
    | none => exact .inl ⟨rfl, fun _ j e => by cases e⟩
    | some j =>
      by_cases hj : j ∈ order
      · exact .inl ⟨if_pos hj, fun _ k e => by cases e; exact hj⟩
      · exact .inr ⟨j, if_neg hj, hp, rfl, hj⟩
  · rw [if_neg hp]
    exact .inl ⟨rfl, fun q => absurd q hp⟩
theorem Og.rs {L : List Ob} {order : List Nat} (h : Og L order) (w : Wd) : Og L (rstep L order w) := by
  rcases rstep_cases L order w with ⟨e, _⟩ | ⟨j, e, _, ha, hj⟩
  · rw [e]; exact h
  · rw [e]
    refine ⟨List.nodup_append.2 ⟨h.nd, by simp, fun a ha' b hb => by
      have hb' : b = j := by simpa using hb
      subst hb'
      intro e
      subst e
      exact hj ha'⟩, fun k hk => ?_⟩
    rcases List.mem_append.1 hk with q | q
    · exact h.lt k q
    · rw [List.mem_singleton.1 q]; exact (at_some.1 ha).1
theorem Og.rp {L : List Ob} {order : List Nat} (h : Og L order) (ws : List Wd) : Og L (reachP L order ws) := by
  induction ws generalizing order with
  | nil => exact h
  | cons w ws ih => exact ih (h.rs w)
theorem ord_og (L : List Ob) (roots : List Wd) : ∀ n, Og L (ord L roots n)
  | 0 => (Og.nil L).rp roots
  | n + 1 => by
    unfold ord
    split
    · exact (ord_og L roots n).rp _
    · exact ord_og L roots n
theorem rstep_ext (L : List Ob) (order : List Nat) (w : Wd) : ∃ r, rstep L order w = order ++ r := by
  rcases rstep_cases L order w with ⟨e, _⟩ | ⟨j, e, _⟩
  · exact ⟨[], by rw [e]; simp⟩
  · exact ⟨[j], e⟩
theorem reachP_ext (L : List Ob) (order : List Nat) (ws : List Wd) : ∃ r, reachP L order ws = order ++ r := by
  induction ws generalizing order with
  | nil => exact ⟨[], by simp [reachP]⟩
  | cons w ws ih =>
    obtain ⟨r1, e1⟩ := rstep_ext L order w
    obtain ⟨r2, e2⟩ := ih (rstep L order w)
    exact ⟨r1 ++ r2, by rw [← List.append_assoc, ← e1]; exact e2⟩
theorem ord_ext (L : List Ob) (roots : List Wd) (n : Nat) : ∃ r, ord L roots (n + 1) = ord L roots n ++ r := by
  rw [ord]
  split
  · exact reachP_ext _ _ _
  · exact ⟨[], by simp⟩
theorem ord_stays (L : List Ob) (roots : List Wd) {n : Nat} (h : (ord L roots n).length ≤ n) : ∀ m, n ≤ m → ord L roots m = ord L roots n
  | 0, hm => by rw [show n = 0 by omega]
  | m + 1, hm => by
    rcases Nat.lt_or_ge m n with q | q
    · rw [show m + 1 = n by omega]
    · have e := ord_stays L roots h m q
      rw [ord, e, List.getElem?_eq_none (by omega)]
/-- All is looked through: that is the order. -/
theorem ordF_eq {L : List Ob} {roots : List Wd} {n : Nat} (h : (ord L roots n).length ≤ n) : ordF L roots = ord L roots n := by
  unfold ordF
  rcases Nat.le_total n L.length with q | q
  · exact ord_stays L roots h _ q
  · exact (ord_stays L roots (ord_og L roots L.length).len _ q).symm
theorem ordF_done (L : List Ob) (roots : List Wd) : (ord L roots L.length).length ≤ L.length := (ord_og L roots L.length).len
theorem mem_rstep {L : List Ob} {order : List Nat} {w : Wd} {j : Nat} (hp : w.ptr = true) (ha : at_ L w.v = some j) : j ∈ rstep L order w := by
  rcases rstep_cases L order w with ⟨e, h⟩ | ⟨k, e, _, h2, _⟩
  · rw [e]; exact h hp j ha
  · rw [e]
    rw [ha] at h2
    cases h2
    simp
theorem reachP_snoc (L : List Ob) (order : List Nat) (ws : List Wd) (w : Wd) : reachP L order (ws ++ [w]) = rstep L (reachP L order ws) w := by simp [reachP]
/-! ### Where objects go, and how words turn -/
def obs (L : List Ob) (order : List Nat) : List Ob := order.map (ob L)
/-- Where an object goes. -/
def tpl (L : List Ob) (order : List Nat) (j : Nat) : Nat := place (obs L order) (order.idxOf j)
theorem place_app {A B : List Ob} {k : Nat} (h : k ≤ A.length) : place (A ++ B) k = place A k := by
  unfold place
  rw [List.take_append_of_le_length h]
theorem tpl_ext {L : List Ob} {order r : List Nat} {j : Nat} (hj : j ∈ order) : tpl L (order ++ r) j = tpl L order j := by
  unfold tpl obs
  rw [List.idxOf_append, if_pos hj, List.map_append]
  exact place_app (by rw [List.length_map]; exact Nat.le_of_lt (List.idxOf_lt_length_of_mem hj))
theorem tpl_new {L : List Ob} {order : List Nat} {j : Nat} (hj : j ∉ order) : tpl L (order ++ [j]) j = sizes (obs L order) := by
  unfold tpl obs
  rw [List.idxOf_append, if_neg hj, List.map_append]
  simp only [List.idxOf_cons_self, Nat.zero_add]
  rw [place_app (by simp), ← place_end, List.length_map]
theorem tpl_get {L : List Ob} {order : List Nat} (h : order.Nodup) {k j : Nat} (hk : order[k]? = some j) : tpl L order j = place (obs L order) k := by
  unfold tpl
  obtain ⟨h1, h2⟩ := List.getElem?_eq_some_iff.1 hk
  rw [← h2, List.Nodup.idxOf_getElem h]
def turn (L : List Ob) (order : List Nat) (w : Wd) : Wd := if w.ptr = true then ⟨true, tpl L order ((at_ L w.v).getD 0)⟩ else w
/-- A word points to an object that is there. -/
def Fine (L : List Ob) (w : Wd) : Prop := w.ptr = true → ∃ j, at_ L w.v = some j
/-- A word points to one of these. -/
def In (L : List Ob) (order : List Nat) (w : Wd) : Prop := w.ptr = true → ∃ j, at_ L w.v = some j ∧ j ∈ order
theorem In.ext {L : List Ob} {order : List Nat} {w : Wd} (h : In L order w) (r : List Nat) : In L (order ++ r) w := fun hp => by
  obtain ⟨j, h1, h2⟩ := h hp
  exact ⟨j, h1, List.mem_append_left _ h2⟩
theorem turn_ext {L : List Ob} {order r : List Nat} {w : Wd} (h : In L order w) : turn L (order ++ r) w = turn L order w := by
  unfold turn
  by_cases hp : w.ptr = true
  · obtain ⟨j, h1, h2⟩ := h hp
    rw [if_pos hp, if_pos hp, h1, Option.getD_some, tpl_ext h2]
  · rw [if_neg hp, if_neg hp]
theorem In.rs {L : List Ob} {order : List Nat} {w : Wd} (h : Fine L w) : In L (rstep L order w) w := fun hp => by
  obtain ⟨j, hj⟩ := h hp
  exact ⟨j, hj, mem_rstep hp hj⟩
theorem In.rp {L : List Ob} {order : List Nat} {w : Wd} (h : In L order w) (ws : List Wd) : In L (reachP L order ws) w := by
  obtain ⟨r, e⟩ := reachP_ext L order ws
  rw [e]
  exact h.ext r
theorem In.all {L : List Ob} (ws : List Wd) : ∀ (order : List Nat), (∀ w ∈ ws, Fine L w) → ∀ w ∈ ws, In L (reachP L order ws) w := by
  induction ws with
  | nil => intro order h w hw; cases hw
  | cons x ws ih =>
    intro order h w hw
    rcases List.mem_cons.1 hw with rfl | q
    · exact (In.rs (order := order) (h w (List.mem_cons_self ..))).rp ws
    · exact ih (rstep L order x) (fun y hy => h y (List.mem_cons_of_mem _ hy)) w q
/-- A collection: the objects, and the roots, as they point then. -/
def collO (L : List Ob) (roots : List Wd) : List Ob := (ordF L roots).map fun j => ((ob L j).1, (ob L j).2.map (turn L (ordF L roots)))
def collR (L : List Ob) (roots : List Wd) : List Wd := roots.map (turn L (ordF L roots))

/-! ### Midway: the half that is left, and the other one -/
def hsM (L : List Ob) (order : List Nat) : List Wd := (List.range L.length).map fun j => if j ∈ order then ⟨true, tpl L order j⟩ else hdW (ob L j)
def fromW (L : List Ob) (order : List Nat) : List Wd := flatH (hsM L order) L
theorem hsM_len (L : List Ob) (order : List Nat) : (hsM L order).length = L.length := by simp [hsM]
theorem fromW_len (L : List Ob) (order : List Nat) : (fromW L order).length = sizes L := flatH_length _ _ (hsM_len L order)
theorem ob_get {L : List Ob} {j : Nat} (h : j < L.length) : L[j]? = some (ob L j) := by
  unfold ob
  rw [List.getElem?_eq_getElem h]
  rfl
theorem from_nil (L : List Ob) : fromW L [] = flat L := by
  unfold fromW flat
  congr 1
  apply List.ext_getElem?
  intro k
  unfold hsM
  rw [List.getElem?_map, List.getElem?_map]
  rcases Nat.lt_or_ge k L.length with q | q
  · rw [List.getElem?_range q, ob_get q]
    simp
  · rw [List.getElem?_eq_none (by simpa using q), List.getElem?_eq_none q]
    rfl
theorem hsM_get {L : List Ob} {order : List Nat} {j : Nat} (h : j < L.length) : (hsM L order)[j]? = some (if j ∈ order then ⟨true, tpl L order j⟩ else hdW (ob L j)) := by
  unfold hsM
  rw [List.getElem?_map, List.getElem?_range h]
  rfl
theorem from_head {L : List Ob} {order : List Nat} {j : Nat} (h : j < L.length) : (fromW L order)[place L j]? = some (if j ∈ order then ⟨true, tpl L order j⟩ else hdW (ob L j)) :=
  flatH_head _ _ _ _ (hsM_len L order) (hsM_get h)
theorem from_word {L : List Ob} {order : List Nat} {j i : Nat} {u : Wd} (h : j < L.length) (hi : (ob L j).2[i]? = some u) : (fromW L order)[place L j + 1 + i]? = some u :=
  flatH_word _ _ _ _ _ _ (hsM_len L order) (ob_get h) hi
theorem place_fit {L : List Ob} {j : Nat} (h : j < L.length) : place L j + 1 + (ob L j).2.length ≤ sizes L := by
  have h1 := place_succ (ob_get h)
  have h2 := place_le (L := L) (j + 1)
  unfold osz at h1
  omega
theorem from_cut {L : List Ob} {order : List Nat} {j : Nat} (h : j < L.length) : ((fromW L order).drop (place L j + 1)).take (ob L j).2.length = (ob L j).2 := by
  have hl := place_fit h
  apply List.ext_getElem?
  intro k
  rw [List.getElem?_take]
  split
  · rename_i q
    rw [List.getElem?_drop, from_word h (List.getElem?_eq_getElem q), List.getElem?_eq_getElem q]
  · rename_i q
    rw [List.getElem?_eq_none (by omega)]
theorem from_new {L : List Ob} {order : List Nat} {j : Nat} (h : j < L.length) (hj : j ∉ order) : fromW L (order ++ [j]) = (fromW L order).set (place L j) ⟨true, sizes (obs L order)⟩ := by
  unfold fromW
  rw [← flatH_set _ _ _ _ (hsM_len L order) h]
  congr 1
  apply List.ext_getElem?
  intro k
  rw [List.getElem?_set]
  rcases Nat.lt_or_ge k L.length with q | q
  · rw [hsM_get q, hsM_len]
    by_cases e : j = k
    · subst e
      rw [if_pos rfl, if_pos q, if_pos (by simp), tpl_new hj]
    · rw [if_neg e, hsM_get q]
      by_cases hk : k ∈ order
      · rw [if_pos (List.mem_append_left _ hk), if_pos hk, tpl_ext hk]
      · rw [if_neg (by simp only [List.mem_append, List.mem_singleton, not_or]; exact ⟨hk, Ne.symm e⟩), if_neg hk]
  · rw [List.getElem?_eq_none (by rw [hsM_len]; exact q), List.getElem?_eq_none (by rw [hsM_len]; exact q)]
    by_cases e : j = k
    · omega
    · rw [if_neg e]
/-- An object's words, the first n turned. -/
def tw (L : List Ob) (order : List Nat) (n : Nat) (ws : List Wd) : List Wd := (ws.take n).map (turn L order) ++ ws.drop n
theorem tw_len (L : List Ob) (order : List Nat) (n : Nat) (ws : List Wd) : (tw L order n ws).length = ws.length := by
  unfold tw
  rw [List.length_append, List.length_map, List.length_take, List.length_drop]
  omega
theorem tw_zero (L : List Ob) (order : List Nat) (ws : List Wd) : tw L order 0 ws = ws := by simp [tw]
theorem tw_all (L : List Ob) (order : List Nat) (ws : List Wd) : tw L order ws.length ws = ws.map (turn L order) := by simp [tw]
theorem tw_ext {L : List Ob} {order : List Nat} (r : List Nat) {n : Nat} {ws : List Wd} (h : ∀ w ∈ ws.take n, In L order w) : tw L (order ++ r) n ws = tw L order n ws := by
  unfold tw
  congr 1
  exact List.map_congr_left (fun w hw => turn_ext (h w hw))
theorem tw_step {L : List Ob} {order : List Nat} {n : Nat} {ws : List Wd} {w : Wd} (h : ws[n]? = some w) : tw L order (n + 1) ws = (tw L order n ws).set n (turn L order w) := by
  obtain ⟨h1, h2⟩ := List.getElem?_eq_some_iff.1 h
  unfold tw
  rw [List.take_succ_eq_append_getElem h1, h2, List.map_append, List.set_append_right _ _ (by rw [List.length_map, List.length_take]; omega), List.length_map, List.length_take, Nat.min_eq_left (Nat.le_of_lt h1), Nat.sub_self, List.drop_eq_getElem_cons h1, List.set_cons_zero]
  simp
theorem tw_raw {L : List Ob} {order : List Nat} {n : Nat} {ws : List Wd} {w : Wd} (h : ws[n]? = some w) : (tw L order n ws)[n]? = some w := by
  obtain ⟨h1, h2⟩ := List.getElem?_eq_some_iff.1 h
  unfold tw
  rw [List.getElem?_append_right (by rw [List.length_map, List.length_take]; omega), List.length_map, List.length_take, Nat.min_eq_left (Nat.le_of_lt h1), Nat.sub_self, List.getElem?_drop, Nat.add_zero]
  exact h
/-- How many words of object number b are turned. -/
def nt (a i b len : Nat) : Nat := if b < a then len else if b = a then i else 0
def tob (L : List Ob) (order : List Nat) (a i b j : Nat) : Ob := ((ob L j).1, tw L order (nt a i b (ob L j).2.length) (ob L j).2)
def tobjs (L : List Ob) (order : List Nat) (a i : Nat) : List Ob := order.mapIdx fun b j => tob L order a i b j
theorem sizes_eq : ∀ (A B : List Ob), A.length = B.length → (∀ (k : Nat) (a b : Ob), A[k]? = some a → B[k]? = some b → a.2.length = b.2.length) → sizes A = sizes B
  | [], [], _, _ => rfl
  | [], b :: B, h, _ => by simp at h
  | a :: A, [], h, _ => by simp at h
  | a :: A, b :: B, h, hh => by
    have h1 := hh 0 a b rfl rfl
    have h2 := sizes_eq A B (by simpa using h) (fun k x y hx hy => hh (k + 1) x y (by simpa using hx) (by simpa using hy))
    simp only [sizes, osz, h1, h2]
theorem tobjs_len (L : List Ob) (order : List Nat) (a i : Nat) : (tobjs L order a i).length = order.length := by simp [tobjs]
theorem tobjs_get {L : List Ob} {order : List Nat} {a i b j : Nat} (h : order[b]? = some j) : (tobjs L order a i)[b]? = some (tob L order a i b j) := by simp [tobjs, List.getElem?_mapIdx, h]
theorem obs_len (L : List Ob) (order : List Nat) : (obs L order).length = order.length := by simp [obs]
theorem obs_get {L : List Ob} {order : List Nat} {b j : Nat} (h : order[b]? = some j) : (obs L order)[b]? = some (ob L j) := by simp [obs, h]
theorem tobjs_place (L : List Ob) (order : List Nat) (a i k : Nat) : place (tobjs L order a i) k = place (obs L order) k := by
  unfold place
  refine sizes_eq _ _ (by simp [tobjs_len, obs_len]) (fun n x y hx hy => ?_)
  rw [List.getElem?_take] at hx hy
  split at hx
  · rename_i q
    rw [if_pos q] at hy
    obtain ⟨h1, _⟩ := List.getElem?_eq_some_iff.1 hy
    rw [obs_len] at h1
    have hg := List.getElem?_eq_getElem h1
    rw [tobjs_get hg] at hx
    rw [obs_get hg] at hy
    cases hx
    cases hy
    exact tw_len _ _ _ _
  · cases hx
theorem tobjs_sizes (L : List Ob) (order : List Nat) (a i : Nat) : sizes (tobjs L order a i) = sizes (obs L order) := by
  rw [← place_end, ← place_end, tobjs_place, tobjs_len, obs_len]
theorem begs_eq : ∀ (A B : List Ob), A.length = B.length → (∀ (k : Nat) (a b : Ob), A[k]? = some a → B[k]? = some b → a.2.length = b.2.length) → begs A = begs B
  | [], [], _, _ => rfl
  | [], b :: B, h, _ => by simp at h
  | a :: A, [], h, _ => by simp at h
  | a :: A, b :: B, h, hh => by
    have h1 := hh 0 a b rfl rfl
    have h2 := begs_eq A B (by simpa using h) (fun k x y hx hy => hh (k + 1) x y (by simpa using hx) (by simpa using hy))
    simp only [begs, h1, h2]
theorem tobjs_begs (L : List Ob) (order : List Nat) (a i : Nat) : begs (tobjs L order a i) = begs (obs L order) := by
  refine begs_eq _ _ (by rw [tobjs_len, obs_len]) (fun n x y hx hy => ?_)
  obtain ⟨h1, _⟩ := List.getElem?_eq_some_iff.1 hy
  rw [obs_len] at h1
  have hg := List.getElem?_eq_getElem h1
  rw [tobjs_get hg] at hx
  rw [obs_get hg] at hy
  cases hx
  cases hy
  exact tw_len _ _ _ _
/-- What is looked through points to what is there. -/
structure Lk (L : List Ob) (order : List Nat) (a i : Nat) : Prop where
  all : ∀ b j, b < a → order[b]? = some j → ∀ w ∈ (ob L j).2, In L order w
  part : ∀ j, order[a]? = some j → ∀ w ∈ (ob L j).2.take i, In L order w
  le : a < order.length ∨ (i = 0 ∧ a ≤ order.length)
theorem Lk.start (L : List Ob) (order : List Nat) : Lk L order 0 0 := ⟨fun b j h => absurd h (Nat.not_lt_zero b), fun j _ w hw => by simp at hw, .inr ⟨rfl, Nat.zero_le _⟩⟩
theorem to_new {L : List Ob} {order : List Nat} {a i : Nat} (h : Lk L order a i) (j : Nat) : tobjs L (order ++ [j]) a i = tobjs L order a i ++ [ob L j] := by
  unfold tobjs
  rw [List.mapIdx_append]
  congr 1
  · apply List.ext_getElem?
    intro k
    rw [List.getElem?_mapIdx, List.getElem?_mapIdx]
    cases hk : order[k]? with
    | none => rfl
    | some x =>
      simp only [Option.map_some, tob]
      rw [tw_ext [j]]
      intro w hw
      unfold nt at hw
      split at hw
      · rename_i q
        exact h.all k x q hk w (List.mem_of_mem_take hw)
      · split at hw
        · rename_i q
          subst q
          exact h.part x hk w hw
        · simp at hw
  · have : nt a i order.length (ob L j).2.length = 0 := by
      unfold nt
      rcases h.le with q | ⟨q1, q2⟩
      · rw [if_neg (by omega), if_neg (by omega)]
      · rw [if_neg (by omega)]; split <;> simp [q1]
    simp [tob, this, tw_zero]
theorem Lk.ext {L : List Ob} {order : List Nat} {a i : Nat} (h : Lk L order a i) (r : List Nat) : Lk L (order ++ r) a i := by
  refine ⟨fun b j hb hj w hw => ?_, fun j hj w hw => ?_, ?_⟩
  · have hbl : b < order.length := by rcases h.le with q | q <;> omega
    rw [List.getElem?_append_left hbl] at hj
    exact (h.all b j hb hj w hw).ext r
  · rcases h.le with q | ⟨q1, q2⟩
    · rw [List.getElem?_append_left q] at hj
      exact (h.part j hj w hw).ext r
    · subst q1
      simp at hw
  · rw [List.length_append]
    rcases h.le with q | ⟨q1, q2⟩
    · exact .inl (by omega)
    · exact .inr ⟨q1, by omega⟩
theorem Lk.step {L : List Ob} {order : List Nat} {a i j : Nat} {w : Wd} (h : Lk L order a i) (ha : order[a]? = some j) (hw : (ob L j).2[i]? = some w) (hf : Fine L w) : Lk L (rstep L order w) a (i + 1) := by
  obtain ⟨r, e⟩ := rstep_ext L order w
  have h2 := h.ext r
  have hin := In.rs (order := order) hf
  rw [e] at hin ⊢
  have hal := (List.getElem?_eq_some_iff.1 ha).1
  have ha' : (order ++ r)[a]? = some j := by rw [List.getElem?_append_left hal]; exact ha
  refine ⟨h2.all, fun j' hj' x hx => ?_, .inl (by rw [List.length_append]; omega)⟩
  rw [ha'] at hj'
  cases hj'
  obtain ⟨h1, h3⟩ := List.getElem?_eq_some_iff.1 hw
  rw [List.take_succ_eq_append_getElem h1, h3] at hx
  rcases List.mem_append.1 hx with q | q
  · exact h2.part j ha' x q
  · rw [List.mem_singleton.1 q]; exact hin
theorem Lk.next {L : List Ob} {order : List Nat} {a j : Nat} (ha : order[a]? = some j) (h : Lk L order a (ob L j).2.length) : Lk L order (a + 1) 0 := by
  have hal := (List.getElem?_eq_some_iff.1 ha).1
  refine ⟨fun b k hb hk w hw => ?_, fun k _ w hw => by simp at hw, .inr ⟨rfl, hal⟩⟩
  rcases Nat.lt_or_ge b a with q | q
  · exact h.all b k q hk w hw
  · obtain rfl : b = a := by omega
    rw [ha] at hk
    cases hk
    exact h.part j ha w (by rw [List.take_length]; exact hw)
theorem to_next {L : List Ob} {order : List Nat} {a j : Nat} (ha : order[a]? = some j) : tobjs L order a (ob L j).2.length = tobjs L order (a + 1) 0 := by
  unfold tobjs
  apply List.ext_getElem?
  intro k
  rw [List.getElem?_mapIdx, List.getElem?_mapIdx]
  cases hk : order[k]? with
  | none => rfl
  | some x =>
    simp only [Option.map_some, tob]
    congr 3
    unfold nt
    by_cases q : k < a
    · rw [if_pos q, if_pos (by omega)]
    · rw [if_neg q]
      by_cases e : k = a
      · subst e
        rw [ha] at hk
        cases hk
        rw [if_pos rfl, if_pos (by omega)]
      · rw [if_neg e, if_neg (by omega)]
        split <;> rfl
/-- One more word is turned. -/
theorem to_step {L : List Ob} {order : List Nat} {a i j : Nat} {w : Wd} (ha : order[a]? = some j) (hw : (ob L j).2[i]? = some w) : tobjs L order a (i + 1) = (tobjs L order a i).set a ((tob L order a i a j).1, (tob L order a i a j).2.set i (turn L order w)) := by
  have hal := (List.getElem?_eq_some_iff.1 ha).1
  apply List.ext_getElem?
  intro k
  rw [List.getElem?_set]
  unfold tobjs
  rw [List.getElem?_mapIdx, List.getElem?_mapIdx, List.length_mapIdx]
  by_cases e : a = k
  · subst e
    rw [if_pos rfl, if_pos hal, ha]
    simp only [Option.map_some, tob, nt, Nat.lt_irrefl, if_false, if_true]
    rw [tw_step hw]
  · rw [if_neg e]
    cases hk : order[k]? with
    | none => rfl
    | some x =>
      simp only [Option.map_some, tob, nt]
      by_cases q : k < a
      · rw [if_pos q, if_pos q]
      · rw [if_neg q, if_neg q, if_neg (Ne.symm e), if_neg (Ne.symm e)]
theorem to_end (L : List Ob) (order : List Nat) : tobjs L order order.length 0 = order.map fun j => ((ob L j).1, (ob L j).2.map (turn L order)) := by
  apply List.ext_getElem?
  intro k
  unfold tobjs
  rw [List.getElem?_mapIdx, List.getElem?_map]
  cases hk : order[k]? with
  | none => rfl
  | some x =>
    have hkl := (List.getElem?_eq_some_iff.1 hk).1
    simp only [Option.map_some, tob, nt]
    rw [if_pos hkl, tw_all]
end Go.Proofs.Ythblcfhflkapmaa
