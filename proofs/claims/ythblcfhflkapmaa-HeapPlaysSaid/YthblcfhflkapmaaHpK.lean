/-
  A collection keeps what roots reach; collected again, as many words are used. About no memory.
-/
import Derived.Test.YthblcfhflkapmaaHpA
namespace Go.Proofs.Ythblcfhflkapmaa
open Go
set_option linter.unusedVariables false
set_option linter.unusedSimpArgs false

/-! ### A collection keeps what roots reach -/
theorem reachP_lk {L : List Ob} (hf : ∀ j, ∀ w ∈ (ob L j).2, Fine L w) {order : List Nat} {a j : Nat} (h : Lk L order a 0) (ha : order[a]? = some j) : ∀ i, i ≤ (ob L j).2.length → Lk L (reachP L order ((ob L j).2.take i)) a i
  | 0, _ => by simpa [reachP] using h
  | i + 1, hi => by
    have ih := reachP_lk hf h ha i (by omega)
    have hw := List.getElem?_eq_getElem (show i < (ob L j).2.length by omega)
    rw [List.take_succ_eq_append_getElem (by omega), reachP_snoc]
    obtain ⟨r, e⟩ := reachP_ext L order ((ob L j).2.take i)
    have hal := (List.getElem?_eq_some_iff.1 ha).1
    exact ih.step (by rw [e, List.getElem?_append_left hal]; exact ha) hw (hf j _ (List.getElem_mem _))
theorem ord_lk {L : List Ob} {roots : List Wd} (hf : ∀ j, ∀ w ∈ (ob L j).2, Fine L w) : ∀ n, Lk L (ord L roots n) (min n (ord L roots n).length) 0
  | 0 => by rw [Nat.zero_min]; exact Lk.start _ _
  | n + 1 => by
    have ih := ord_lk (roots := roots) hf n
    rw [ord]
    cases hj : (ord L roots n)[n]? with
    | none =>
      have h1 := List.getElem?_eq_none_iff.1 hj
      simp only
      rw [Nat.min_eq_right h1] at ih
      rw [Nat.min_eq_right (by omega)]
      exact ih
    | some j =>
      have h1 := (List.getElem?_eq_some_iff.1 hj).1
      simp only
      rw [Nat.min_eq_left (Nat.le_of_lt h1)] at ih
      have h2 := reachP_lk hf ih hj (ob L j).2.length (Nat.le_refl _)
      rw [List.take_length] at h2
      obtain ⟨r, e⟩ := reachP_ext L (ord L roots n) (ob L j).2
      have hj' : (reachP L (ord L roots n) (ob L j).2)[n]? = some j := by rw [e, List.getElem?_append_left h1]; exact hj
      rw [Nat.min_eq_left (show n + 1 ≤ (reachP L (ord L roots n) (ob L j).2).length by rw [e, List.length_append]; omega)]
      exact Lk.next hj' h2
/-- What is reached points to what is reached. -/
theorem ordF_closed {L : List Ob} {roots : List Wd} (hf : ∀ j, ∀ w ∈ (ob L j).2, Fine L w) : ∀ j ∈ ordF L roots, ∀ w ∈ (ob L j).2, In L (ordF L roots) w := by
  intro j hj w hw
  have h := ord_lk (roots := roots) hf L.length
  rw [Nat.min_eq_right (ordF_done L roots)] at h
  obtain ⟨b, hb, e⟩ := List.getElem_of_mem hj
  exact h.all b j hb (by rw [← e]; exact List.getElem?_eq_getElem hb) w hw
theorem ord_add (L : List Ob) (roots : List Wd) (n : Nat) : ∀ d, ∃ r, ord L roots (n + d) = ord L roots n ++ r
  | 0 => ⟨[], by simp⟩
  | d + 1 => by
    obtain ⟨r1, e1⟩ := ord_add L roots n d
    obtain ⟨r2, e2⟩ := ord_ext L roots (n + d)
    exact ⟨r1 ++ r2, by rw [← List.append_assoc, ← e1]; exact e2⟩
theorem ord_prefix (L : List Ob) (roots : List Wd) (n : Nat) : ∃ r, ordF L roots = ord L roots n ++ r := by
  unfold ordF
  rcases Nat.le_total n L.length with q | q
  · have h := ord_add L roots n (L.length - n)
    rw [Nat.add_sub_cancel' q] at h
    exact h
  · rw [ord_stays L roots (ordF_done L roots) n q]
    exact ⟨[], by simp⟩
theorem flatMap_same {α β : Type} {f g : α → List β} : ∀ {l : List α}, (∀ x ∈ l, f x = g x) → l.flatMap f = l.flatMap g
  | [], _ => rfl
  | x :: l, h => by simp only [List.flatMap_cons]; rw [h x (List.mem_cons_self ..), flatMap_same (fun y hy => h y (List.mem_cons_of_mem _ hy))]
theorem roots_in {L : List Ob} {roots : List Wd} (hr : ∀ w ∈ roots, Fine L w) : ∀ w ∈ roots, In L (ordF L roots) w := by
  intro w hw
  obtain ⟨r, e⟩ := ord_prefix L roots 0
  rw [e]
  exact (In.all roots [] hr w hw).ext r
section
variable {L : List Ob} {order : List Nat}
/-- Objects behind a collection in that order. -/
def newO (L : List Ob) (order : List Nat) : List Ob := order.map fun j => ((ob L j).1, (ob L j).2.map (turn L order))
theorem newO_len : (newO L order).length = order.length := by simp [newO]
theorem newO_get {b j : Nat} (h : order[b]? = some j) : (newO L order)[b]? = some ((ob L j).1, (ob L j).2.map (turn L order)) := by simp [newO, h]
theorem newO_place (k : Nat) : place (newO L order) k = place (obs L order) k := by
  rw [← tobjs_place L order order.length 0, to_end]
  rfl
theorem newO_sizes : sizes (newO L order) = sizes (obs L order) := by rw [← place_end, ← place_end, newO_place, newO_len, obs_len]
theorem newO_at {j : Nat} (hj : j ∈ order) : at_ (newO L order) (tpl L order j) = some (order.idxOf j) := by
  refine at_some.2 ⟨by rw [newO_len]; exact List.idxOf_lt_length_of_mem hj, ?_⟩
  rw [newO_place]
  rfl
theorem newO_ob {j : Nat} (hj : j ∈ order) : ob (newO L order) (order.idxOf j) = ((ob L j).1, (ob L j).2.map (turn L order)) := by
  have h : order[order.idxOf j]? = some j := by
    rw [List.getElem?_eq_getElem (List.idxOf_lt_length_of_mem hj), List.getElem_idxOf]
  unfold ob
  rw [newO_get h]
  rfl
/-- What stands along a word, so far. -/
def walkP (L : List Ob) : Nat → Wd → List Int
  | far, w => if w.ptr = true then (match at_ L w.v with
    | none => [-1]
    | some j => [1, (ob L j).1, ((ob L j).2.length : Int)] ++ (match far with
      | 0 => []
      | far + 1 => ((ob L j).2.take 4).flatMap (walkP L far))) else [0, w.v]
theorem walk_keeps (hc : ∀ j ∈ order, ∀ w ∈ (ob L j).2, In L order w) : ∀ (far : Nat) (w : Wd), In L order w → walkP (newO L order) far (turn L order w) = walkP L far w
  | far, w, h => by
    by_cases hp : w.ptr = true
    · obtain ⟨j, h1, h2⟩ := h hp
      have e : turn L order w = ⟨true, tpl L order j⟩ := by unfold turn; rw [if_pos hp, h1]; rfl
      rw [e, walkP, walkP, if_pos rfl, if_pos hp]
      simp only [newO_at h2, h1, newO_ob h2, List.length_map]
      cases far with
      | zero => rfl
      | succ far =>
        simp only
        congr 1
        rw [← List.map_take, List.flatMap_map]
        refine flatMap_same ?_
        intro x hx
        exact walk_keeps hc far x (hc j h2 x (List.mem_of_mem_take hx))
    · have e : turn L order w = w := by unfold turn; rw [if_neg hp]
      rw [e, walkP, walkP, if_neg hp, if_neg hp]
end
theorem sum_nodup (f : Nat → Nat) : ∀ (n : Nat) (l : List Nat), l.Nodup → (∀ j ∈ l, j < n) → (l.map f).sum ≤ ((List.range n).map f).sum
  | 0, l, _, h => by
    cases l with
    | nil => simp
    | cons x l => exact absurd (h x (List.mem_cons_self ..)) (by omega)
  | n + 1, l, hd, h => by
    have h1 := sum_nodup f n (l.erase n) (hd.erase n) (fun j hj => by
      have h2 := h j (List.mem_of_mem_erase hj)
      have h3 : j ≠ n := fun e => by subst e; exact absurd hj (fun q => (List.Nodup.mem_erase_iff hd).1 q |>.1 rfl)
      omega)
    rw [List.range_succ, List.map_append, List.sum_append]
    by_cases q : n ∈ l
    · have h4 := ((List.perm_cons_erase q).map f).sum_nat
      simp only [List.map_cons, List.sum_cons] at h4
      simp
      omega
    · rw [List.erase_of_not_mem q] at h1
      simp
      omega
theorem sizes_sum : ∀ L : List Ob, sizes L = (L.map osz).sum
  | [] => rfl
  | o :: l => by simp [sizes, sizes_sum l]
theorem obs_range (L : List Ob) : obs L (List.range L.length) = L := by
  apply List.ext_getElem?
  intro k
  unfold obs
  rw [List.getElem?_map]
  rcases Nat.lt_or_ge k L.length with q | q
  · rw [List.getElem?_range q, ob_get q]; rfl
  · rw [List.getElem?_eq_none (by simpa using q), List.getElem?_eq_none q]; rfl
/-- No more words are used behind a collection. -/
theorem obs_le {L : List Ob} {order : List Nat} (h : Og L order) : sizes (obs L order) ≤ sizes L := by
  have h1 := sum_nodup (fun j => osz (ob L j)) L.length order h.nd h.lt
  have h2 : sizes L = ((List.range L.length).map fun j => osz (ob L j)).sum := by
    have e := congrArg sizes (obs_range L)
    rw [← e, sizes_sum, obs, List.map_map]
    rfl
  rw [h2, sizes_sum, obs, List.map_map]
  exact h1
/-! ### Collected again -/
theorem idx_prefix {order p r : List Nat} (e : order = p ++ r) {j : Nat} (hj : j ∈ order) : (order.idxOf j < p.length ↔ j ∈ p) := by
  constructor
  · intro h
    have h1 : order[order.idxOf j]? = some j := by rw [List.getElem?_eq_getElem (List.idxOf_lt_length_of_mem hj), List.getElem_idxOf]
    rw [e, List.getElem?_append_left (by rw [← e]; exact h)] at h1
    exact List.mem_of_getElem? h1
  · intro h
    rw [e, List.idxOf_append, if_pos h]
    exact List.idxOf_lt_length_of_mem h
theorem rstep_again {L : List Ob} {order p r : List Nat} (w : Wd) (hw : In L order w) (e : order = rstep L p w ++ r) : rstep (newO L order) (List.range p.length) (turn L order w) = List.range (rstep L p w).length := by
  by_cases hp : w.ptr = true
  · obtain ⟨j, h1, h2⟩ := hw hp
    have et : turn L order w = ⟨true, tpl L order j⟩ := by unfold turn; rw [if_pos hp, h1]; rfl
    rw [et]
    unfold rstep at e ⊢
    rw [if_pos hp, h1] at e ⊢
    simp only [newO_at h2, if_true] at e ⊢
    by_cases hj : j ∈ p
    · rw [if_pos hj] at e ⊢
      rw [if_pos (List.mem_range.2 ((idx_prefix e h2).2 hj))]
    · rw [if_neg hj] at e ⊢
      have hi : order.idxOf j = p.length := by
        rw [e, List.append_assoc, List.idxOf_append, if_neg hj]
        simp
      rw [if_neg (by rw [List.mem_range, hi]; omega), hi, List.length_append, List.length_singleton, List.range_succ]
  · have et : turn L order w = w := by unfold turn; rw [if_neg hp]
    rw [et]
    unfold rstep
    rw [if_neg hp, if_neg hp]
theorem reachP_again {L : List Ob} {order : List Nat} : ∀ (ws : List Wd) (p r : List Nat), (∀ w ∈ ws, In L order w) → order = reachP L p ws ++ r → reachP (newO L order) (List.range p.length) (ws.map (turn L order)) = List.range (reachP L p ws).length
  | [], p, r, _, _ => rfl
  | w :: ws, p, r, hw, e => by
    obtain ⟨r2, e2⟩ := reachP_ext L (rstep L p w) ws
    have h1 := rstep_again (L := L) (p := p) (r := r2 ++ r) w (hw w (List.mem_cons_self ..)) (by rw [← List.append_assoc, ← e2]; exact e)
    have h2 := reachP_again ws (rstep L p w) r (fun x hx => hw x (List.mem_cons_of_mem _ hx)) e
    show reachP (newO L order) (rstep (newO L order) (List.range p.length) (turn L order w)) (ws.map (turn L order)) = _
    rw [h1, h2]
    rfl
theorem ord_again {L : List Ob} {roots : List Wd} (hf : ∀ j, ∀ w ∈ (ob L j).2, Fine L w) (hr : ∀ w ∈ roots, Fine L w) : ∀ n, ord (collO L roots) (collR L roots) n = List.range (ord L roots n).length
  | 0 => by
    obtain ⟨r, e⟩ := ord_prefix L roots 0
    exact reachP_again (L := L) (order := ordF L roots) roots [] r (roots_in hr) e
  | n + 1 => by
    have ih := ord_again hf hr n
    have hpre := ord_prefix L roots (n + 1)
    rw [ord] at hpre
    rw [ord, ord, ih]
    cases hj : (ord L roots n)[n]? with
    | none =>
      have h1 := List.getElem?_eq_none_iff.1 hj
      rw [List.getElem?_eq_none (by simpa using h1)]
    | some j =>
      have h1 := (List.getElem?_eq_some_iff.1 hj).1
      rw [hj] at hpre
      simp only at hpre
      obtain ⟨r, e⟩ := hpre
      rw [List.getElem?_range h1]
      simp only
      have hjm : j ∈ ordF L roots := by
        obtain ⟨r0, e0⟩ := ord_prefix L roots n
        rw [e0]
        exact List.mem_append_left _ (List.mem_of_getElem? hj)
      have hob : (ob (collO L roots) n).2 = (ob L j).2.map (turn L (ordF L roots)) := by
        obtain ⟨r0, e0⟩ := ord_prefix L roots n
        have : (ordF L roots)[n]? = some j := by rw [e0, List.getElem?_append_left h1]; exact hj
        unfold ob collO
        rw [List.getElem?_map, this]
        rfl
      rw [hob]
      exact reachP_again (L := L) (order := ordF L roots) _ _ r (ordF_closed hf j hjm) e
/-- Collected again, as many words are used. -/
theorem again_sizes {L : List Ob} {roots : List Wd} (hf : ∀ j, ∀ w ∈ (ob L j).2, Fine L w) (hr : ∀ w ∈ roots, Fine L w) : sizes (collO (collO L roots) (collR L roots)) = sizes (collO L roots) := by
  have hl : (collO L roots).length = (ordF L roots).length := by simp [collO]
  have h1 : ordF (collO L roots) (collR L roots) = List.range (collO L roots).length := by
    unfold ordF
    rw [ord_again hf hr, hl]
    have e : (ord L roots (ordF L roots).length).length = (ordF L roots).length := by
      rcases Nat.lt_or_ge (ord L roots (ordF L roots).length).length ((ordF L roots).length) with q | q
      · have := congrArg List.length (ordF_eq (L := L) (roots := roots) (n := (ordF L roots).length) (by omega))
        omega
      · obtain ⟨r, e⟩ := ord_prefix L roots (ordF L roots).length
        have := congrArg List.length e
        rw [List.length_append] at this
        omega
    rw [e]
  have h2 : collO (collO L roots) (collR L roots) = newO (collO L roots) (ordF (collO L roots) (collR L roots)) := rfl
  rw [h2, newO_sizes, h1, obs_range]
end Go.Proofs.Ythblcfhflkapmaa
