/-
  The functions of an expression, by the code and by the document, are alike.
-/
import Derived.Test.YtpnihimoekkepaaCoBO
namespace Go.Proofs.Ytpnihimoekkepaa
open Go.ChangeShapes Go.WideShapes Go.ChangeAt Go.RowKit Go.Sort Go.Maps
set_option linter.unusedVariables false
set_option linter.unusedSimpArgs false

theorem eqv_symm : ∀ x y : Ex, x.eqv y → y.eqv x := fun x => Ex.rec (motive_1 := fun x => ∀ y : Ex, x.eqv y → y.eqv x) (motive_2 := fun l => ∀ m, exL l m → exL m l)
  (fun d l ih y h => by
    obtain ⟨e, m⟩ := y
    unfold Ex.eqv at h ⊢
    exact ⟨h.1.symm, h.2.1.symm, h.2.2.1.symm, h.2.2.2.1.symm, h.2.2.2.2.1.symm, ih m h.2.2.2.2.2⟩)
  (fun m h => by cases m with
    | nil => trivial
    | cons _ _ => simp [exL] at h)
  (fun x l h1 h2 m h => by cases m with
    | nil => simp [exL] at h
    | cons y m => unfold exL at h ⊢; exact ⟨h1 y h.1, h2 m h.2⟩) x
theorem eqv_trans : ∀ x y z : Ex, x.eqv y → y.eqv z → x.eqv z := fun x => Ex.rec (motive_1 := fun x => ∀ y z : Ex, x.eqv y → y.eqv z → x.eqv z) (motive_2 := fun l => ∀ m k, exL l m → exL m k → exL l k)
  (fun d l ih y z h k => by
    obtain ⟨e, m⟩ := y
    obtain ⟨f, n⟩ := z
    unfold Ex.eqv at h k ⊢
    exact ⟨h.1.trans k.1, h.2.1.trans k.2.1, h.2.2.1.trans k.2.2.1, h.2.2.2.1.trans k.2.2.2.1, h.2.2.2.2.1.trans k.2.2.2.2.1, ih m n h.2.2.2.2.2 k.2.2.2.2.2⟩)
  (fun m k h g => by cases m with
    | nil => exact g
    | cons _ _ => simp [exL] at h)
  (fun x l h1 h2 m k h g => by
    cases m with
    | nil => simp [exL] at h
    | cons y m => cases k with
      | nil => simp [exL] at g
      | cons z k => unfold exL at h g ⊢; exact ⟨h1 y z h.1 g.1, h2 m k h.2 g.2⟩) x
theorem part_eqv {x y : Ex} (h : x.eqv y) : (partOf x).eqv (partOf y) := by
  obtain ⟨d, l⟩ := x
  obtain ⟨e, m⟩ := y
  unfold Ex.eqv at h
  have hl := h.2.2.2.2.2
  match l, m, hl with
  | [], [], _ => exact eqv_refl _
  | a :: l, b :: m, hl => unfold exL at hl; exact hl.1
  | [], _ :: _, hl => simp [exL] at hl
  | _ :: _, [], hl => simp [exL] at hl
theorem exL_at : ∀ {a b : List Ex}, exL a b → ∀ (i : Nat) (x y : Ex), a[i]? = some x → b[i]? = some y → x.eqv y
  | [], [], _, i, x, y, h, _ => by simp at h
  | x :: a, y :: b, h, 0, x', y', h1, h2 => by simp at h1 h2; subst h1; subst h2; unfold exL at h; exact h.1
  | x :: a, y :: b, h, i + 1, x', y', h1, h2 => by unfold exL at h; exact exL_at h.2 i x' y' (by simpa using h1) (by simpa using h2)
  | [], _ :: _, h, _, _, _, _, _ => by simp [exL] at h
  | _ :: _, [], h, _, _, _, _, _ => by simp [exL] at h
/-- All names are short. -/
inductive Ex.Ln : Ex → Prop
  | mk (d : ExD) (l : List Ex) (h : d.s.length ≤ 4000000) (sub : ∀ x ∈ l, Ex.Ln x) : Ex.Ln (.mk d l)
theorem Ex.In.ln {w : World} {t : Ex} (h : t.In w) : t.Ln := by
  induction h with
  | mk d l nam par cap sub ih => exact .mk d l cap.2.2.1 ih
theorem freeLB_ex (d : ExD) (x : Str) : ∀ (l : List Ex) (i : Nat), freeLB d l i x = true → ∃ y ∈ l, y.freeB x = true
  | [], _, h => by simp [freeLB] at h
  | y :: l, i, h => by
    simp only [freeLB, Bool.or_eq_true, Bool.and_eq_true] at h
    rcases h with h | h
    · exact ⟨y, List.mem_cons_self .., h.1⟩
    · obtain ⟨z, hz, hf⟩ := freeLB_ex d x l (i + 1) h
      exact ⟨z, List.mem_cons_of_mem _ hz, hf⟩
theorem free_ln {t : Ex} (h : t.Ln) (x : Str) : t.freeB x = true → x.length ≤ 4000000 := by
  induction h with
  | mk d l hs sub ih =>
  intro hf
  have hf' : ((decide (d.kind = 3) && decide (x = d.s)) || freeLB d l 0 x) = true := hf
  rw [Bool.or_eq_true, Bool.and_eq_true] at hf'
  rcases hf' with h | h
  · have : x = d.s := by simpa using h.2
    rw [this]; exact hs
  · obtain ⟨y, hy, hfy⟩ := freeLB_ex d x l 0 h
    exact ih y hy hfy
mutual
theorem numE_ln : ∀ (t : Ex) (m : Nat), t.Ln → (numE t m).Ln
  | .mk d l, m, h => by
    cases h with
    | mk _ _ h1 h2 => exact .mk (d.numD m) (numL l (m + d.f)) (by rw [(numD_kind d m).2.1]; exact h1) (numL_ln l _ h2)
theorem numL_ln : ∀ (l : List Ex) (m : Nat), (∀ x ∈ l, x.Ln) → ∀ x ∈ numL l m, x.Ln
  | [], _, _, x, hx => by cases hx
  | y :: l, m, h, x, hx => by
    rw [numL] at hx
    rcases List.mem_cons.1 hx with rfl | q
    · exact numE_ln y m (h y (List.mem_cons_self ..))
    · exact numL_ln l _ (fun x hx => h x (List.mem_cons_of_mem _ hx)) x q
end
mutual
theorem fnsE_ln : ∀ (t : Ex) (m : Nat), t.Ln → ∀ x ∈ fnsE t m, x.Ln
  | .mk d l, m, h, x, hx => by
    have h' := h
    cases h with
    | mk _ _ h1 h2 =>
    unfold fnsE at hx
    rcases List.mem_append.1 hx with q | q
    · split at q
      · rw [List.mem_singleton] at q
        rw [q]
        exact numE_ln _ m h'
      · cases q
    · exact fnsL_ln l _ h2 x q
theorem fnsL_ln : ∀ (l : List Ex) (m : Nat), (∀ x ∈ l, x.Ln) → ∀ x ∈ fnsL l m, x.Ln
  | [], _, _, x, hx => by unfold fnsL at hx; cases hx
  | y :: l, m, h, x, hx => by
    unfold fnsL at hx
    rcases List.mem_append.1 hx with q | q
    · exact fnsE_ln y m (h y (List.mem_cons_self ..)) x q
    · exact fnsL_ln l _ (fun x hx => h x (List.mem_cons_of_mem _ hx)) x q
end
mutual
theorem fnsE_nm : ∀ (t : Ex) (m : Nat), t.Nm → ∀ x ∈ fnsE t m, x.Nm
  | .mk d l, m, h, x, hx => by
    have h' := h
    cases h with
    | mk _ _ h1 h2 =>
    unfold fnsE at hx
    rcases List.mem_append.1 hx with q | q
    · split at q
      · rw [List.mem_singleton] at q
        rw [q]
        exact numE_nm _ m h'
      · cases q
    · exact fnsL_nm l _ h2 x q
theorem fnsL_nm : ∀ (l : List Ex) (m : Nat), (∀ x ∈ l, x.Nm) → ∀ x ∈ fnsL l m, x.Nm
  | [], _, _, x, hx => by unfold fnsL at hx; cases hx
  | y :: l, m, h, x, hx => by
    unfold fnsL at hx
    rcases List.mem_append.1 hx with q | q
    · exact fnsE_nm y m (h y (List.mem_cons_self ..)) x q
    · exact fnsL_nm l _ (fun x hx => h x (List.mem_cons_of_mem _ hx)) x q
end
theorem part_nmX {x : Ex} (h : x.Nm) : (partOf x).Nm := by
  obtain ⟨d, l⟩ := x
  cases h with
  | mk _ _ h1 h2 =>
  cases l with
  | nil => exact zeroE_nm
  | cons y m => exact h2 y (List.mem_cons_self ..)
theorem part_lnX {x : Ex} (h : x.Ln) : (partOf x).Ln := by
  obtain ⟨d, l⟩ := x
  cases h with
  | mk _ _ h1 h2 =>
  cases l with
  | nil => exact .mk _ _ (Nat.zero_le _) (fun x hx => by cases hx)
  | cons y m => exact h2 y (List.mem_cons_self ..)
theorem capB_eqv {x y : Ex} (hx : x.Nm) (hy : y.Nm) (h : x.eqv y) : capB x = capB y := by
  have h1 := freeB_eqv hx hy h
  have h2 := freeB_eqv (part_nmX hx) (part_nmX hy) (part_eqv h)
  obtain ⟨d, l⟩ := x
  obtain ⟨e, m⟩ := y
  unfold Ex.eqv at h
  funext s
  unfold capB ownB
  rw [h1, h2, show (Ex.mk d l).d.kind = (Ex.mk e m).d.kind from h.1, show (Ex.mk d l).d.s = (Ex.mk e m).d.s from h.2.2.1, show (Ex.mk d l).d.t = (Ex.mk e m).d.t from h.2.2.2.1]
theorem capB_ln {z : Ex} (h : z.Ln) (x : Str) (hc : capB z x = true) : x.length ≤ maxLen := by
  have hm : maxLen = 9223372036854775807 := rfl
  unfold capB at hc
  split at hc
  · have := free_ln h x hc; omega
  · rw [Bool.and_eq_true] at hc
    have := free_ln (part_lnX h) x hc.1
    omega
/-- Two functions that tell the same. -/
structure FuSame (f g : Fu) : Prop where
  s : f.s = g.s
  t : f.t = g.t
  caps : f.caps = g.caps
  y : f.y.eqv g.y
theorem fu_same {z q : Ex} {f g : Fu} (hz : z.Nm) (hq : q.Nm) (hl : q.Ln) (he : z.eqv q) (hf : FunP z f) (hg : FunQ q g) : FuSame f g := by
  have hk := capB_eqv hz hq he
  refine ⟨?_, ?_, ?_, eqv_trans _ _ _ hf.y (eqv_trans _ _ _ (part_eqv he) (eqv_symm _ _ hg.y))⟩
  · rw [hf.s, hg.s]
    obtain ⟨d, l⟩ := z
    obtain ⟨e, m⟩ := q
    unfold Ex.eqv at he
    rw [show (Ex.mk d l).d.kind = (Ex.mk e m).d.kind from he.1, show (Ex.mk d l).d.s = (Ex.mk e m).d.s from he.2.2.1]
  · rw [hf.t, hg.t]
    obtain ⟨d, l⟩ := z
    obtain ⟨e, m⟩ := q
    unfold Ex.eqv at he
    rw [show (Ex.mk d l).d.kind = (Ex.mk e m).d.kind from he.1, show (Ex.mk d l).d.s = (Ex.mk e m).d.s from he.2.2.1, show (Ex.mk d l).d.t = (Ex.mk e m).d.t from he.2.2.2.1]
  · refine inOrder_ext hf.caps.nd.2 hg.so (fun x => ⟨fun hx => ?_, fun hx => ?_⟩)
    · rw [hg.caps x, ← hk]
      exact (hf.caps.h1 x hx).1
    · have h1 := (hg.caps x).1 hx
      exact hf.caps.h2 x (capB_ln hl x h1) (by rw [hk]; exact h1)
theorem all_same {t : Ex} {f0 : Fu} {fs gs : List Fu} {zs : List Ex} {y : Ex} (ht : t.Nm) (hl : t.Ln) (hs : f0.s = []) (h_t : f0.t = []) (hc : f0.caps = []) (h0 : f0.y.eqv (numE t 0)) (hz : exL zs (fnsE t 0)) (hlen : zs.length = fs.length) (hnm : ∀ z ∈ zs, z.Nm) (hp : ∀ (i : Nat) (z : Ex) (f : Fu), zs[i]? = some z → fs[i]? = some f → FunP z f) (hy : y.eqv (numE t 0)) (hg : FunL (fnsE t 0) gs) :
    fs.length = gs.length ∧ ∀ (i : Nat) (f g : Fu), (f0 :: fs)[i]? = some f → (fuO y :: gs)[i]? = some g → FuSame f g := by
  refine ⟨by rw [← hlen, exL_len hz, hg.len], fun i f g hf hgi => ?_⟩
  cases i with
  | zero =>
    injection hf with hf
    injection hgi with hgi
    subst hf hgi
    exact ⟨hs, h_t, hc, eqv_trans _ _ _ h0 (eqv_symm _ _ hy)⟩
  | succ i =>
    have hf : fs[i]? = some f := hf
    have hgi : gs[i]? = some g := hgi
    have hil := (List.getElem?_eq_some_iff.1 hf).1
    have hzi : zs[i]? = some (zs[i]'(by omega)) := List.getElem?_eq_getElem _
    have hl2 := exL_len hz
    have hqi : (fnsE t 0)[i]? = some ((fnsE t 0)[i]'(by omega)) := List.getElem?_eq_getElem _
    have hzm : zs[i]'(by omega) ∈ zs := List.getElem_mem _
    have hqm : (fnsE t 0)[i]'(by omega) ∈ fnsE t 0 := List.getElem_mem _
    exact fu_same (hnm _ hzm) (fnsE_nm t 0 ht _ hqm) (fnsE_ln t 0 hl _ hqm) (exL_at hz i _ _ hzi hqi) (hp i _ f hzi hf) (hg.at_ i _ g hqi hgi)
end Go.Proofs.Ytpnihimoekkepaa
