/-
  In a function's part no name is free but its own, its argument's, and those that it takes along.
-/
import Derived.Test.YtpnihimoekkepaaCoAB
import Derived.Test.YtpnihimoekkepaaCoZ
namespace Go.Proofs.Ytpnihimoekkepaa
open Go.ChangeShapes Go.WideShapes Go.ChangeAt Go.RowKit Go.Sort Go.Maps
set_option linter.unusedVariables false
set_option linter.unusedSimpArgs false

theorem numD_bound (d : ExD) (m i : Nat) : (d.numD m).boundF i = d.boundF i := by
  unfold ExD.numD
  split <;> rfl
mutual
theorem numE_free : ∀ (t : Ex) (m : Nat) (x : Str), (numE t m).freeB x = t.freeB x
  | .mk d l, m, x => by
    have h1 : (d.numD m).kind = d.kind := by unfold ExD.numD; split <;> rfl
    have h2 : (d.numD m).s = d.s := by unfold ExD.numD; split <;> rfl
    show ((decide ((d.numD m).kind = 3) && decide (x = (d.numD m).s)) || freeLB (d.numD m) (numL l (m + d.f)) 0 x) = ((decide (d.kind = 3) && decide (x = d.s)) || freeLB d l 0 x)
    rw [h1, h2, numL_free d m l]
theorem numL_free : ∀ (d : ExD) (m0 : Nat) (l : List Ex) (m i : Nat) (x : Str), freeLB (d.numD m0) (numL l m) i x = freeLB d l i x
  | _, _, [], _, _, _ => by simp only [numL, freeLB]
  | d, m0, y :: l, m, i, x => by
    simp only [numL, freeLB]
    rw [numE_free y, numL_free d m0 l, numD_bound]
end
mutual
theorem numE_ok : ∀ (t : Ex) (m : Nat), t.Ok → (numE t m).Ok
  | .mk d l, m, h => by
    cases h with
    | mk _ _ h1 h2 =>
    have hk : (d.numD m).kind = d.kind := by unfold ExD.numD; split <;> rfl
    exact .mk (d.numD m) (numL l (m + d.f)) (fun h => by rw [numL_len]; exact h1 (by rw [← hk]; exact h)) (numL_ok l _ h2)
theorem numL_ok : ∀ (l : List Ex) (m : Nat), (∀ x ∈ l, x.Ok) → ∀ x ∈ numL l m, x.Ok
  | [], _, _, x, hx => by cases hx
  | y :: l, m, h, x, hx => by
    rw [numL] at hx
    rcases List.mem_cons.1 hx with rfl | q
    · exact numE_ok y m (h y (List.mem_cons_self ..))
    · exact numL_ok l _ (fun x hx => h x (List.mem_cons_of_mem _ hx)) x q
end
mutual
theorem fnsE_ok : ∀ (t : Ex) (m : Nat), t.Ok → ∀ x ∈ fnsE t m, x.Ok
  | .mk d l, m, h, x, hx => by
    have h' := h
    cases h with
    | mk _ _ h1 h2 =>
    unfold fnsE at hx
    rcases List.mem_append.1 hx with q | q
    · split at q
      · rw [List.mem_singleton] at q
        rw [q]
        exact numE_ok _ m h'
      · cases q
    · exact fnsL_ok l _ h2 x q
theorem fnsL_ok : ∀ (l : List Ex) (m : Nat), (∀ x ∈ l, x.Ok) → ∀ x ∈ fnsL l m, x.Ok
  | [], _, _, x, hx => by unfold fnsL at hx; cases hx
  | y :: l, m, h, x, hx => by
    unfold fnsL at hx
    rcases List.mem_append.1 hx with q | q
    · exact fnsE_ok y m (h y (List.mem_cons_self ..)) x q
    · exact fnsL_ok l _ (fun x hx => h x (List.mem_cons_of_mem _ hx)) x q
end
theorem eqv_one {x y : Ex} (h : x.eqv y) (hy : y.Ok) : x.d.kind = 4 → x.l.length = 1 := by
  obtain ⟨d, l⟩ := x
  cases hy with
  | mk e m h1 h2 =>
  unfold Ex.eqv at h
  intro hk
  show l.length = 1
  rw [exL_len h.2.2.2.2.2]
  exact h1 (by rw [← h.1]; exact hk)
/-- What the law asks of each function. -/
structure LawF (i : Nat) (f : Fu) : Prop where
  h1 : ∀ x : Str, f.y.freeB x = true → x.length ≤ maxLen → x ∈ f.caps ∨ (i ≠ 0 ∧ (x = f.s ∨ x = f.t))
  h2 : ∀ x ∈ f.caps, f.y.freeB x = true ∧ x.length ≤ maxLen
theorem law_fun {z : Ex} {f : Fu} (i : Nat) (hi : i ≠ 0) (hz : z.Nm) (hy : f.y.Nm) (hp : FunP z f) (h4 : z.d.kind = 4 → z.l.length = 1) : LawF i f := by
  obtain ⟨d, l⟩ := z
  have hpn : (partOf (.mk d l)).Nm := by
    cases hz with
    | mk _ _ h1 h2 =>
    cases l with
    | nil => exact zeroE_nm
    | cons x m => exact h2 x (List.mem_cons_self ..)
  have hfy : f.y.freeB = (partOf (.mk d l)).freeB := freeB_eqv hy hpn hp.y
  by_cases hk : d.kind = 4
  · have hl := h4 hk
    have hl : l.length = 1 := hl
    match l, hl with
    | [x1], _ =>
      have hs : f.s = [] := by rw [hp.s, if_pos (show (Ex.mk d [x1]).d.kind = 4 from hk)]
      have ht : f.t = d.s := by rw [hp.t, if_pos (show (Ex.mk d [x1]).d.kind = 4 from hk)]; rfl
      have hb : d.boundF 0 = [d.s] := by unfold ExD.boundF; rw [if_pos (.inl ⟨hk, rfl⟩)]
      have hc : ∀ x, capB (.mk d [x1]) x = (x1.freeB x && !decide (x = d.s)) := fun x => by
        unfold capB
        rw [if_pos (show (Ex.mk d [x1]).d.kind = 4 from hk)]
        show ((decide (d.kind = 3) && decide (x = d.s)) || ((x1.freeB x && !decide (x ∈ d.boundF 0)) || false)) = _
        rw [hb, hk]
        simp
      have hfy : f.y.freeB = x1.freeB := hfy
      refine ⟨fun x hx hxl => ?_, fun x hx => ?_⟩
      · by_cases hxs : x = d.s
        · exact .inr ⟨hi, .inr (by rw [ht, hxs])⟩
        · exact .inl (hp.caps.h2 x hxl (by rw [hc, ← hfy, hx]; simp [hxs]))
      · have h := hp.caps.h1 x hx
        rw [hc, Bool.and_eq_true] at h
        exact ⟨by rw [hfy]; exact h.1.1, h.2⟩
  · have hs : f.s = d.s := by rw [hp.s, if_neg (show ¬ (Ex.mk d l).d.kind = 4 from hk)]; rfl
    have ht : f.t = d.t := by rw [hp.t, if_neg (show ¬ (Ex.mk d l).d.kind = 4 from hk)]; rfl
    have hc : ∀ x, capB (.mk d l) x = (f.y.freeB x && !ownB d x) := fun x => by unfold capB; rw [if_neg (show ¬ (Ex.mk d l).d.kind = 4 from hk), hfy]; rfl
    refine ⟨fun x hx hxl => ?_, fun x hx => ?_⟩
    · cases ho : ownB d x with
      | true =>
        refine .inr ⟨hi, ?_⟩
        rw [hs, ht]
        simpa [ownB] using ho
      | false => exact .inl (hp.caps.h2 x hxl (by rw [hc, hx, ho]; rfl))
    · have h := hp.caps.h1 x hx
      rw [hc, Bool.and_eq_true] at h
      exact ⟨h.1.1, h.2⟩
theorem law_all {t : Ex} {w' : World} {f0 : Fu} {fs : List Fu} {zs : List Ex} (ht : t.Nm) (hok : t.Ok) (hin : ∀ f ∈ f0 :: fs, f.In w') (hc0 : f0.caps = []) (h0 : f0.y.eqv (numE t 0)) (hz : exL zs (fnsE t 0)) (hl : zs.length = fs.length) (hnm : ∀ z ∈ zs, z.Nm) (hp : ∀ (i : Nat) (z : Ex) (f : Fu), zs[i]? = some z → fs[i]? = some f → FunP z f) (hnf : ∀ x : Str, x.length ≤ maxLen → t.freeB x = false) (hn0 : (numE t 0).Nm) :
    ∀ (i : Nat) (f : Fu), (f0 :: fs)[i]? = some f → LawF i f := by
  intro i f hf
  cases i with
  | zero =>
    injection hf with hf
    subst hf
    have hfr : f0.y.freeB = (numE t 0).freeB := freeB_eqv (hin f0 (List.mem_cons_self ..)).y.nm hn0 h0
    exact ⟨(fun x hx hxl => by rw [hfr, numE_free, hnf x hxl] at hx; cases hx), (fun x hx => by rw [hc0] at hx; cases hx)⟩
  | succ i =>
    have hf : fs[i]? = some f := hf
    have hil := (List.getElem?_eq_some_iff.1 hf).1
    have hzi : zs[i]? = some (zs[i]'(by omega)) := List.getElem?_eq_getElem _
    have hzm : zs[i]'(by omega) ∈ zs := List.getElem_mem _
    obtain ⟨y, hy, he⟩ := exL_mem hz hzm
    exact law_fun (i + 1) (by omega) (hnm _ hzm) (hin f (List.mem_cons_of_mem _ (List.mem_of_getElem? hf))).y.nm (hp i _ f hzi hf) (eqv_one he (fnsE_ok t 0 hok y hy))
mutual
theorem numE_nm : ∀ (t : Ex) (m : Nat), t.Nm → (numE t m).Nm
  | .mk d l, m, h => by
    cases h with
    | mk _ _ h1 h2 =>
    have hk : (d.numD m).names = d.names ∧ (d.numD m).nn = d.nn := by unfold ExD.numD; split <;> exact ⟨rfl, rfl⟩
    exact .mk (d.numD m) (numL l (m + d.f)) (by rw [hk.1, hk.2]; exact h1) (numL_nm l _ h2)
theorem numL_nm : ∀ (l : List Ex) (m : Nat), (∀ x ∈ l, x.Nm) → ∀ x ∈ numL l m, x.Nm
  | [], _, _, x, hx => by cases hx
  | y :: l, m, h, x, hx => by
    rw [numL] at hx
    rcases List.mem_cons.1 hx with rfl | q
    · exact numE_nm y m (h y (List.mem_cons_self ..))
    · exact numL_nm l _ (fun x hx => h x (List.mem_cons_of_mem _ hx)) x q
end
end Go.Proofs.Ytpnihimoekkepaa
