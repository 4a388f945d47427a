/-
  What stays as a heap is used: about no memory.
-/
import Derived.Test.YthblcfhflkapmaaHpK
namespace Go.Proofs.Ythblcfhflkapmaa
open Go
set_option linter.unusedVariables false
set_option linter.unusedSimpArgs false

/-! ### What stays as a heap is used -/
structure Wf (L : List Ob) : Prop where
  fine : ∀ o ∈ L, ∀ w ∈ o.2, Fine L w
  head : ∀ o ∈ L, 0 ≤ o.1 ∧ o.1 ≤ 15 ∧ o.2.length ≤ 4000
theorem Wf.nil : Wf [] := ⟨(fun o h => nomatch h), (fun o h => nomatch h)⟩
theorem ob_mem {L : List Ob} {j : Nat} (h : j < L.length) : ob L j ∈ L := List.mem_of_getElem? (ob_get h)
theorem ob_out {L : List Ob} {j : Nat} (h : L.length ≤ j) : ob L j = zO := by unfold ob; rw [List.getElem?_eq_none h]; rfl
theorem Wf.ob {L : List Ob} (h : Wf L) : ∀ j, ∀ w ∈ (ob L j).2, Fine L w := by
  intro j w hw
  rcases Nat.lt_or_ge j L.length with q | q
  · exact h.fine _ (ob_mem q) w hw
  · rw [ob_out q] at hw
    cases hw
theorem turn_fine {L : List Ob} {order : List Nat} {w : Wd} (h : In L order w) : Fine (newO L order) (turn L order w) := by
  intro hp
  unfold turn at hp ⊢
  by_cases q : w.ptr = true
  · obtain ⟨j, h1, h2⟩ := h q
    rw [if_pos q, h1]
    exact ⟨_, newO_at h2⟩
  · rw [if_neg q] at hp
    exact absurd hp q
theorem Wf.coll {L : List Ob} (h : Wf L) (roots : List Wd) : Wf (collO L roots) := by
  refine ⟨fun o ho w hw => ?_, fun o ho => ?_⟩
  · obtain ⟨j, hj, rfl⟩ := List.mem_map.1 ho
    obtain ⟨x, hx, rfl⟩ := List.mem_map.1 hw
    exact turn_fine (ordF_closed h.ob j hj x hx)
  · obtain ⟨j, hj, rfl⟩ := List.mem_map.1 ho
    have h1 := h.head _ (ob_mem ((ord_og L roots _).lt j hj))
    simpa using h1
theorem collR_fine {L : List Ob} {roots : List Wd} (hr : ∀ w ∈ roots, Fine L w) : ∀ w ∈ collR L roots, Fine (collO L roots) w := by
  intro w hw
  obtain ⟨x, hx, rfl⟩ := List.mem_map.1 hw
  exact turn_fine (roots_in hr x hx)
theorem at_app {L : List Ob} {o : Ob} {p : Int} {j : Nat} (h : at_ L p = some j) : at_ (L ++ [o]) p = some j := by
  obtain ⟨h1, h2⟩ := at_some.1 h
  exact at_some.2 ⟨by rw [List.length_append]; omega, by rw [place_app (by omega)]; exact h2⟩
theorem Fine.app {L : List Ob} {w : Wd} (h : Fine L w) (o : Ob) : Fine (L ++ [o]) w := fun hp => by
  obtain ⟨j, hj⟩ := h hp
  exact ⟨j, at_app hj⟩
theorem Wf.app {L : List Ob} (h : Wf L) {o : Ob} (hw : ∀ w ∈ o.2, Fine L w) (hk : 0 ≤ o.1 ∧ o.1 ≤ 15 ∧ o.2.length ≤ 4000) : Wf (L ++ [o]) := by
  refine ⟨fun x hx w hxw => ?_, fun x hx => ?_⟩
  · rcases List.mem_append.1 hx with q | q
    · exact (h.fine x q w hxw).app o
    · rw [List.mem_singleton.1 q] at hxw
      exact (hw w hxw).app o
  · rcases List.mem_append.1 hx with q | q
    · exact h.head x q
    · rw [List.mem_singleton.1 q]; exact hk
theorem at_new {L : List Ob} (o : Ob) : at_ (L ++ [o]) (sizes L) = some L.length := at_some.2 ⟨by simp, by rw [place_app (Nat.le_refl _), place_end]⟩
theorem place_setw {L : List Ob} {j : Nat} {o o' : Ob} (hj : L[j]? = some o) (hl : o'.2.length = o.2.length) (k : Nat) : place (L.set j o') k = place L k := by
  unfold place
  refine sizes_eq _ _ (by simp) (fun n x y hx hy => ?_)
  rw [List.getElem?_take] at hx hy
  split at hx
  · rename_i q
    rw [if_pos q] at hy
    rw [List.getElem?_set] at hx
    split at hx
    · rename_i e
      subst e
      rw [hj] at hy
      cases hy
      split at hx
      · cases hx; exact hl
      · cases hx
    · rw [hy] at hx
      cases hx
      rfl
  · cases hx
theorem at_setw {L : List Ob} {j : Nat} {o o' : Ob} (hj : L[j]? = some o) (hl : o'.2.length = o.2.length) (p : Int) : at_ (L.set j o') p = at_ L p := by
  cases h : at_ L p with
  | some k =>
    obtain ⟨h1, h2⟩ := at_some.1 h
    exact at_some.2 ⟨by simpa using h1, by rw [place_setw hj hl]; exact h2⟩
  | none =>
    cases h' : at_ (L.set j o') p with
    | none => rfl
    | some k =>
      obtain ⟨h1, h2⟩ := at_some.1 h'
      rw [place_setw hj hl] at h2
      have := at_some.2 ⟨by simpa using h1, h2⟩
      rw [h] at this
      cases this
theorem fine_setw {L : List Ob} {j : Nat} {o o' : Ob} (hj : L[j]? = some o) (hl : o'.2.length = o.2.length) {w : Wd} (h : Fine L w) : Fine (L.set j o') w := fun hp => by
  obtain ⟨k, hk⟩ := h hp
  exact ⟨k, by rw [at_setw hj hl]; exact hk⟩
theorem Wf.setw {L : List Ob} (h : Wf L) {j i : Nat} {o : Ob} {u : Wd} (hj : L[j]? = some o) (hu : Fine L u) : Wf (L.set j (o.1, o.2.set i u)) := by
  have hl : ((o.1, o.2.set i u) : Ob).2.length = o.2.length := List.length_set
  have hom := List.mem_of_getElem? hj
  refine ⟨fun x hx w hw => fine_setw hj hl ?_, fun x hx => ?_⟩
  · rcases List.mem_or_eq_of_mem_set hx with q | q
    · exact h.fine x q w hw
    · subst q
      rcases List.mem_or_eq_of_mem_set hw with q | q
      · exact h.fine o hom w q
      · subst q; exact hu
  · rcases List.mem_or_eq_of_mem_set hx with q | q
    · exact h.head x q
    · subst q
      have := h.head o hom
      rw [hl]
      exact this
theorem sizes_setw {L : List Ob} {j : Nat} {o o' : Ob} (hj : L[j]? = some o) (hl : o'.2.length = o.2.length) : sizes (L.set j o') = sizes L := by
  rw [← place_end, ← place_end, List.length_set, place_setw hj hl]
theorem begs_setw {L : List Ob} {j : Nat} {o o' : Ob} (hj : L[j]? = some o) (hl : o'.2.length = o.2.length) : begs (L.set j o') = begs L := by
  refine begs_eq _ _ (by simp) (fun n x y hx hy => ?_)
  rw [List.getElem?_set] at hx
  split at hx
  · rename_i e
    subst e
    rw [hj] at hy
    cases hy
    split at hx
    · cases hx; exact hl
    · cases hx
  · rw [hy] at hx
    cases hx
    rfl
theorem flat_app (L : List Ob) (o : Ob) : flat (L ++ [o]) = flat L ++ (hdW o :: o.2) := by
  unfold flat
  rw [List.map_append]
  exact flatH_snoc _ _ _ _ (by simp)
theorem flat_len (L : List Ob) : (flat L).length = sizes L := flatH_length _ _ (by simp)
theorem flat_head {L : List Ob} {j : Nat} {o : Ob} (h : L[j]? = some o) : (flat L)[place L j]? = some (hdW o) := flatH_head _ _ _ _ (by simp) (by rw [List.getElem?_map, h]; rfl)
theorem flat_word {L : List Ob} {j i : Nat} {o : Ob} {u : Wd} (h : L[j]? = some o) (hi : o.2[i]? = some u) : (flat L)[place L j + 1 + i]? = some u := flatH_word _ _ _ _ _ _ (by simp) h hi
theorem flat_setw {L : List Ob} {j i : Nat} {o : Ob} (h : L[j]? = some o) (hi : i < o.2.length) (u : Wd) : flat (L.set j (o.1, o.2.set i u)) = (flat L).set (place L j + 1 + i) u := by
  unfold flat
  rw [← flatH_setw _ _ _ _ _ _ (by simp) h hi]
  congr 1
  apply List.ext_getElem?
  intro k
  rw [List.getElem?_map, List.getElem?_map, List.getElem?_set]
  split
  · rename_i e
    subst e
    have hl := (List.getElem?_eq_some_iff.1 h).1
    rw [if_pos hl, h]
    simp [hdW]
  · rfl
/-- Whether there is an object at a place, by the marks. -/
theorem at_begs (L : List Ob) (p : Nat) (b : Bool) (h : (begs L)[p]? = some b) : (at_ L p).isSome = b := by
  cases b with
  | true =>
    obtain ⟨j, hj, e⟩ := (begs_at L p).1 h
    rw [at_some.2 ⟨hj, by rw [e]⟩]
    rfl
  | false =>
    cases ha : at_ L p with
    | none => rfl
    | some j =>
      obtain ⟨hj, e⟩ := at_some.1 ha
      have := (begs_at L p).2 ⟨j, hj, by omega⟩
      rw [h] at this
      cases this
theorem at_none_neg {L : List Ob} {p : Int} (h : p < 0) : at_ L p = none := by
  cases ha : at_ L p with
  | none => rfl
  | some j => have := (at_some.1 ha).2; omega
theorem at_none_big {L : List Ob} {p : Int} (h : (sizes L : Int) ≤ p) : at_ L p = none := by
  cases ha : at_ L p with
  | none => rfl
  | some j =>
    obtain ⟨h1, h2⟩ := at_some.1 ha
    have := place_fit h1
    omega
/-- The half that objects are copied to, when all is looked through. -/
theorem to_coll {L : List Ob} {roots : List Wd} {n : Nat} (h : (ord L roots n).length ≤ n) : tobjs L (ord L roots n) (ord L roots n).length 0 = collO L roots := by
  rw [to_end, ← ordF_eq h]
  rfl
end Go.Proofs.Ythblcfhflkapmaa
