/-
  A name with a number is a name.
  Numbers given twice, the binders' names, and what is closed. About no program.
  Numbers given twice are the same; what is closed stays closed, and is one that may be. About no program.
  What is numbered may be an expression, where it was one. About no program.
  The names that are bound, by the law's own words.
  Sets of names as maps: joined, by the code.
  The free names of an expression, by the code.
  The free names as a list; how deep; how many nodes: by the code.
  The stage's own law on binders and on what is closed, walked.
  From a walk to a statement of the first form, a handle among the tied variables.
-/
import Derived.Test.YtaglmmcjhlehjaaGreatDoorK18
import Derived.Test.YtaglmmcjhlehjaaGreatDoorK24
import Derived.Test.YtaglmmcjhlehjaaGreatDoorK19
import Derived.Test.YtaglmmcjhlehjaaGreatDoorK25
import Derived.BigQuiet
import Derived.Deep.CutBlock
import Derived.Deep.CutRange
import Derived.Test.YtaglmmcjhlehjaaGreatDoorK00
import Derived.Maps.OwnSet
import Derived.Maps.RangeWalk
import Derived.Maps.Ext
import Derived.StringKeys
import Derived.Test.YtaglmmcjhlehjaaGreatDoorK03
import Derived.Test.YtaglmmcjhlehjaaGreatDoorIter
import Derived.CallsIn
import Derived.Test.YtaglmmcjhlehjaaGreatDoorK12
import Derived.Test.YtaglmmcjhlehjaaGreatDoorK26
namespace Go.Proofs.YtaglmmcjhlehjaaGreatDoor
open Go.ChangeShapes Go.WideShapes Go.ChangeAt Go.RowKit Go.Sort
set_option linter.unusedVariables false
set_option maxRecDepth 100000 in
theorem tokVn_0 : ((List.range 5).all fun a => (List.range 60).all fun b => tokB (vName (0 + (60 * a + b))) 1) = true := by kernel_rfl
set_option maxRecDepth 100000 in
theorem tokVn_1 : ((List.range 5).all fun a => (List.range 60).all fun b => tokB (vName (300 + (60 * a + b))) 1) = true := by kernel_rfl
set_option maxRecDepth 100000 in
theorem tokVn_2 : ((List.range 5).all fun a => (List.range 60).all fun b => tokB (vName (600 + (60 * a + b))) 1) = true := by kernel_rfl
set_option maxRecDepth 100000 in
theorem tokVn_3 : ((List.range 5).all fun a => (List.range 60).all fun b => tokB (vName (900 + (60 * a + b))) 1) = true := by kernel_rfl
set_option maxRecDepth 100000 in
theorem tokVn_4 : ((List.range 5).all fun a => (List.range 60).all fun b => tokB (vName (1200 + (60 * a + b))) 1) = true := by kernel_rfl
theorem tokVn (k : Nat) (h : k < 1500) : tokB (vName k) 1 = true := by
  have key : ∀ c, ((List.range 5).all fun a => (List.range 60).all fun b => tokB (vName (c + (60 * a + b))) 1) = true → c ≤ k → k < c + 300 → tokB (vName k) 1 = true := fun c hc h1 h2 => by
    have h3 := List.all_eq_true.1 hc ((k - c) / 60) (List.mem_range.2 (by omega))
    have h4 := List.all_eq_true.1 h3 ((k - c) % 60) (List.mem_range.2 (by omega))
    rwa [show c + (60 * ((k - c) / 60) + (k - c) % 60) = k from by omega] at h4
  by_cases h1 : k < 300
  · exact key 0 tokVn_0 (by omega) (by omega)
  by_cases h2 : k < 600
  · exact key 300 tokVn_1 (by omega) (by omega)
  by_cases h3 : k < 900
  · exact key 600 tokVn_2 (by omega) (by omega)
  by_cases h4 : k < 1200
  · exact key 900 tokVn_3 (by omega) (by omega)
  · exact key 1200 tokVn_4 (by omega) (by omega)
end Go.Proofs.YtaglmmcjhlehjaaGreatDoor

namespace Go.Proofs.YtaglmmcjhlehjaaGreatDoor
open Go.ChangeShapes Go.WideShapes Go.ChangeAt Go.RowKit Go.Sort
set_option linter.unusedVariables false
set_option linter.unusedSimpArgs false

/-! ### The names that are bound -/
mutual
def Ex.bnd : Ex → List Str
  | .mk d l => d.bs ++ bndL l
def bndL : List Ex → List Str
  | [] => []
  | x :: l => x.bnd ++ bndL l
end
theorem bndL_app : ∀ (l m : List Ex), bndL (l ++ m) = bndL l ++ bndL m
  | [], m => rfl
  | x :: l, m => by simp only [List.cons_append, bndL, bndL_app l m, List.append_assoc]
mutual
theorem bnd_len : ∀ t : Ex, t.bnd.length = t.bsN
  | .mk d l => by simp only [Ex.bnd, Ex.bsN, List.length_append, bndL_len l]
theorem bndL_len : ∀ l : List Ex, (bndL l).length = bsNL l
  | [] => rfl
  | x :: l => by simp only [bndL, bsNL, List.length_append, bnd_len x, bndL_len l]
end
theorem bs_lk {d e : ExD} (h : d.lk e) : d.bs = e.bs := by
  obtain ⟨h1, _, _, h4, h5, _, h7⟩ := h
  unfold ExD.bs
  rw [h1, h4, h5, h7]
mutual
theorem bnd_lk : ∀ {t u : Ex}, t.lk u → t.bnd = u.bnd
  | .mk d l, .mk e m, h => by
    simp only [Ex.lk] at h
    simp only [Ex.bnd]
    rw [bs_lk h.1, bndL_lk h.2]
theorem bndL_lk : ∀ {l m : List Ex}, lkL l m → bndL l = bndL m
  | [], [], _ => rfl
  | x :: l, y :: m, h => by
    simp only [lkL] at h
    simp only [bndL]
    rw [bnd_lk h.1, bndL_lk h.2]
  | [], _ :: _, h => by simp [lkL] at h
  | _ :: _, [], h => by simp [lkL] at h
end
theorem vNames_add : ∀ (m n k : Nat), vNames (m + n) k = vNames m k ++ vNames n (k + m)
  | 0, n, k => by simp [vNames]
  | m + 1, n, k => by
    rw [show m + 1 + n = (m + n) + 1 from by omega, vNames, vNames_add m n (k + 1), vNames, List.cons_append, show k + 1 + m = k + (m + 1) from by omega]
theorem vName_ne (k : Nat) : vName k ≠ [] := by intro e; cases e
theorem vName_inj {i j : Nat} (h : vName i = vName j) : i = j := by
  unfold vName at h
  injection h with _ h
  have := itoa_inj (by omega) (by omega) h
  omega
theorem bs_numV (d : ExD) (k : Nat) (env : List Bd) : (d.numV k env).bs = vNames d.bs.length k := by
  by_cases h3 : d.kind = 3
  · unfold ExD.bs ExD.numV ExD.numD; simp [h3, vNames]
  unfold ExD.numV
  rw [if_neg h3]
  by_cases h4 : d.kind = 4
  · unfold ExD.bs ExD.numD; simp [h4, vNames]
  by_cases h6 : d.kind = 6
  · unfold ExD.bs ExD.numD; simp [h6, vNames]
  by_cases h7 : d.kind = 7
  · unfold ExD.bs ExD.numD; simp [h7, vNames]
  by_cases h14 : d.kind = 14
  · by_cases ht : d.t = []
    · unfold ExD.bs ExD.numD; simp [h14, ht]
    · unfold ExD.bs ExD.numD
      simp [h14, ht, vName_ne]
      rw [← vNames_snoc]
  · unfold ExD.bs ExD.numD; simp [h4, h6, h7, h14, vNames]
mutual
theorem bnd_num : ∀ (t : Ex) (env : List Bd) (ol : List Str), (t.num env ol).1.bnd = vNames t.bsN ol.length
  | .mk d l, env, ol => by
    simp only [Ex.num, Ex.bnd, Ex.bsN]
    rw [bs_numV, bndL_num d (d.numD ol.length) l 0 env, vNames_add, List.length_append]
theorem bndL_num (d d1 : ExD) : ∀ (l : List Ex) (i : Nat) (env : List Bd) (ol : List Str), bndL (numL d d1 l i env ol).1 = vNames (bsNL l) ol.length
  | [], _, _, _ => rfl
  | x :: l, i, env, ol => by
    simp only [numL, bndL, bsNL]
    rw [bnd_num x, bndL_num d d1 l, num_len, vNames_add]
end
theorem bsN_num (t : Ex) (env : List Bd) (ol : List Str) : (t.num env ol).1.bsN = t.bsN := by rw [← bnd_len, bnd_num, vNames_len]

/-! ### How many -/
mutual
def Ex.CtE : Ex → Prop
  | .mk d l => d.names.length = d.nn ∧ d.labels.length = d.ln ∧ l.length = d.pn ∧ CtL l
def CtL : List Ex → Prop
  | [] => True
  | x :: l => x.CtE ∧ CtL l
end
mutual
theorem ct_in (w : World) : ∀ (t : Ex), t.In w → t.CtE
  | .mk d l, h => by
    simp only [Ex.CtE]
    exact ⟨h.namLen, h.labLen, h.len, ctL_in w l (fun x hx => h.sub x hx)⟩
theorem ctL_in (w : World) : ∀ (l : List Ex), (∀ x ∈ l, x.In w) → CtL l
  | [], _ => trivial
  | x :: l, h => ⟨ct_in w x (h x (List.mem_cons_self ..)), ctL_in w l (fun y hy => h y (List.mem_cons_of_mem _ hy))⟩
end
theorem numV_kind (d : ExD) (k : Nat) (env : List Bd) : (d.numV k env).kind = d.kind ∧ (d.numV k env).n = d.n ∧ (d.numV k env).labels = d.labels ∧ (d.numV k env).ln = d.ln ∧ (d.numV k env).pn = d.pn ∧ (d.numV k env).t = (d.numD k).t ∧ (d.numV k env).names = (d.numD k).names ∧ (d.numV k env).nn = (d.numD k).nn ∧ (d.kind ≠ 3 → (d.numV k env).s = (d.numD k).s) ∧ (d.kind = 3 → (d.numV k env).s = nowF d.s env) := by
  unfold ExD.numV
  by_cases h3 : d.kind = 3
  · rw [if_pos h3]; exact ⟨rfl, rfl, rfl, rfl, rfl, rfl, rfl, rfl, fun h => absurd h3 h, fun _ => rfl⟩
  · rw [if_neg h3]; exact ⟨rfl, rfl, rfl, rfl, rfl, rfl, rfl, rfl, fun _ => rfl, fun h => absurd h h3⟩
theorem numD_nn (d : ExD) (k : Nat) : (d.numD k).names.length = (d.numD k).nn := by
  show (if d.kind = 14 then vNames d.names.length k else []).length = if d.kind = 14 then d.names.length else 0
  split
  · exact vNames_len _ _
  · rfl
mutual
theorem ct_num : ∀ (t : Ex), t.CtE → ∀ (env : List Bd) (ol : List Str), (t.num env ol).1.CtE
  | .mk d l, h, env, ol => by
    simp only [Ex.CtE] at h
    simp only [Ex.num, Ex.CtE]
    obtain ⟨h1, h2, h3, h4, h5, h6, h7, h8, _, _⟩ := numV_kind d ol.length env
    rw [h7, h8, h3, h4, h5, numL_len1]
    exact ⟨numD_nn d _, h.2.1, h.2.2.1, ctL_num d (d.numD ol.length) l h.2.2.2 0 env _⟩
theorem ctL_num (d d1 : ExD) : ∀ (l : List Ex), CtL l → ∀ (i : Nat) (env : List Bd) (ol : List Str), CtL (numL d d1 l i env ol).1
  | [], _, _, _, _ => trivial
  | x :: l, h, i, env, ol => by
    simp only [numL]
    exact ⟨ct_num x h.1 _ _, ctL_num d d1 l h.2 _ _ _⟩
end

/-! ### Alike trees -/
theorem boundC_lk {d e : ExD} (h : d.lk e) (hn : d.nn = e.nn) (i : Nat) : d.boundC i = e.boundC i := by
  obtain ⟨h1, _, _, h4, h5, _, h7⟩ := h
  unfold ExD.boundC
  rw [h1, h4, h5, h7, hn]
theorem nn_lk {d e : ExD} (h : d.lk e) (hd : d.names.length = d.nn) (he : e.names.length = e.nn) : d.nn = e.nn := by rw [← hd, ← he, h.2.2.2.2.2.2]
mutual
theorem firstF_lk : ∀ {t u : Ex}, t.lk u → t.CtE → u.CtE → ∀ ns, t.firstF ns = u.firstF ns
  | .mk d l, .mk e m, h, ht, hu, ns => by
    simp only [Ex.lk] at h
    simp only [Ex.CtE] at ht hu
    simp only [Ex.firstF]
    rw [h.1.1, h.1.2.1, h.1.2.2.2.1, firstFL_lk h.1 (nn_lk h.1 ht.1 hu.1) h.2 ht.2.2.2 hu.2.2.2 0 ns]
theorem firstFL_lk {d e : ExD} (hde : d.lk e) (hn : d.nn = e.nn) : ∀ {l m : List Ex}, lkL l m → CtL l → CtL m → ∀ i ns, firstFL d l i ns = firstFL e m i ns
  | [], [], _, _, _, _, _ => rfl
  | x :: l, y :: m, h, hl, hm, i, ns => by
    simp only [lkL] at h
    simp only [firstFL]
    rw [boundC_lk hde hn i, firstF_lk h.1 hl.1 hm.1, firstFL_lk hde hn h.2 hl.2 hm.2 (i + 1) ns]
  | [], _ :: _, h, _, _, _, _ => by simp [lkL] at h
  | _ :: _, [], h, _, _, _, _ => by simp [lkL] at h
end
theorem numD_lk {d e : ExD} (h : d.lk e) (k : Nat) : (d.numD k).lk (e.numD k) ∧ (d.numD k).nn = (e.numD k).nn := by
  obtain ⟨h1, h2, h3, h4, h5, h6, h7⟩ := h
  unfold ExD.numD ExD.lk
  simp only
  rw [h1, h2, h3, h4, h5, h6, h7]
  exact ⟨⟨rfl, rfl, rfl, rfl, rfl, rfl, rfl⟩, rfl⟩
theorem numV_lk {d e : ExD} (h : d.lk e) (k : Nat) (env : List Bd) : (d.numV k env).lk (e.numV k env) := by
  have h1 := (numD_lk h k).1
  unfold ExD.numV
  rw [h.1]
  split
  · obtain ⟨k1, k2, k3, k4, k5, k6, k7⟩ := h1
    exact ⟨k1, k2, k3, by show nowF d.s env = nowF e.s env; rw [h.2.2.2.1], k5, k6, k7⟩
  · exact h1
mutual
theorem num_lk2 : ∀ {t u : Ex}, t.lk u → t.CtE → u.CtE → ∀ env ol, (t.num env ol).1.lk (u.num env ol).1 ∧ (t.num env ol).2.length = (u.num env ol).2.length
  | .mk d l, .mk e m, h, ht, hu, env, ol => by
    simp only [Ex.lk] at h
    simp only [Ex.CtE] at ht hu
    have hb := bs_lk h.1
    have hk := numL_lk2 h.1 (nn_lk h.1 ht.1 hu.1) (numD_lk h.1 ol.length).1 (numD_lk h.1 ol.length).2 h.2 ht.2.2.2 hu.2.2.2 0 env (ol ++ d.bs) (ol ++ e.bs) (by rw [hb])
    simp only [Ex.num, Ex.lk]
    exact ⟨⟨numV_lk h.1 _ _, hk.1⟩, hk.2⟩
theorem numL_lk2 {d e d1 e1 : ExD} (hde : d.lk e) (hn : d.nn = e.nn) (hde1 : d1.lk e1) (hn1 : d1.nn = e1.nn) : ∀ {l m : List Ex}, lkL l m → CtL l → CtL m → ∀ i env ol ol', ol.length = ol'.length → lkL (numL d d1 l i env ol).1 (numL e e1 m i env ol').1 ∧ (numL d d1 l i env ol).2.length = (numL e e1 m i env ol').2.length
  | [], [], _, _, _, _, _, _, _, hl => by simp only [numL, lkL]; exact ⟨trivial, hl⟩
  | x :: l, y :: m, h, hl, hm, i, env, ol, ol', hlen => by
    simp only [lkL] at h
    simp only [numL, lkL]
    rw [boundC_lk hde hn i, boundC_lk hde1 hn1 i]
    have h1 := num_lk3 h.1 hl.1 hm.1 (env ++ (e.boundC i).zip (e1.boundC i)) ol ol' hlen
    have h2 := numL_lk2 hde hn hde1 hn1 h.2 hl.2 hm.2 (i + 1) env _ _ h1.2
    exact ⟨⟨h1.1, h2.1⟩, h2.2⟩
  | [], _ :: _, h, _, _, _, _, _, _, _ => by simp [lkL] at h
  | _ :: _, [], h, _, _, _, _, _, _, _ => by simp [lkL] at h
theorem num_lk3 : ∀ {t u : Ex}, t.lk u → t.CtE → u.CtE → ∀ env ol ol', ol.length = ol'.length → (t.num env ol).1.lk (u.num env ol').1 ∧ (t.num env ol).2.length = (u.num env ol').2.length
  | .mk d l, .mk e m, h, ht, hu, env, ol, ol', hlen => by
    simp only [Ex.lk] at h
    simp only [Ex.CtE] at ht hu
    have hb := bs_lk h.1
    have hk := numL_lk2 h.1 (nn_lk h.1 ht.1 hu.1) (numD_lk h.1 ol.length).1 (numD_lk h.1 ol.length).2 h.2 ht.2.2.2 hu.2.2.2 0 env (ol ++ d.bs) (ol' ++ e.bs) (by rw [hb, List.length_append, List.length_append, hlen])
    simp only [Ex.num, Ex.lk]
    rw [← hlen]
    exact ⟨⟨numV_lk h.1 _ _, hk.1⟩, hk.2⟩
end
theorem lk_trans_d {a b c : ExD} (h : a.lk b) (k : b.lk c) : a.lk c := ⟨h.1.trans k.1, h.2.1.trans k.2.1, h.2.2.1.trans k.2.2.1, h.2.2.2.1.trans k.2.2.2.1, h.2.2.2.2.1.trans k.2.2.2.2.1, h.2.2.2.2.2.1.trans k.2.2.2.2.2.1, h.2.2.2.2.2.2.trans k.2.2.2.2.2.2⟩
mutual
theorem lk_trans : ∀ {a b c : Ex}, a.lk b → b.lk c → a.lk c
  | .mk _ _, .mk _ _, .mk _ _, h, k => by
    simp only [Ex.lk] at h k ⊢
    exact ⟨lk_trans_d h.1 k.1, lkL_trans h.2 k.2⟩
theorem lkL_trans : ∀ {a b c : List Ex}, lkL a b → lkL b c → lkL a c
  | [], [], [], _, _ => trivial
  | _ :: _, _ :: _, _ :: _, h, k => by
    simp only [lkL] at h k ⊢
    exact ⟨lk_trans h.1 k.1, lkL_trans h.2 k.2⟩
  | [], _ :: _, _, h, _ => by simp [lkL] at h
  | _ :: _, [], _, h, _ => by simp [lkL] at h
  | [], [], _ :: _, _, k => by simp [lkL] at k
  | _ :: _, _ :: _, [], _, k => by simp [lkL] at k
end
end Go.Proofs.YtaglmmcjhlehjaaGreatDoor

namespace Go.Proofs.YtaglmmcjhlehjaaGreatDoor
open Go.ChangeShapes Go.WideShapes Go.ChangeAt Go.RowKit Go.Sort
set_option linter.unusedVariables false
set_option linter.unusedSimpArgs false

def IdE (env : List Bd) : Prop := ∀ p ∈ env, p.1 = p.2
theorem nowF_id {env : List Bd} (h : IdE env) (s : Str) : nowF s env = s := by
  unfold nowF lookF
  cases hf : env.reverse.find? fun p => decide (p.1 = s) with
  | none => rfl
  | some p =>
    have h1 := List.find?_some hf
    have h2 := h p (List.mem_reverse.1 (List.mem_of_find?_eq_some hf))
    show p.2 = s
    rw [← h2]; simpa using h1
theorem id_zip : ∀ (l : List Str), IdE (l.zip l)
  | [] => by intro p hp; cases hp
  | x :: l => by
    intro p hp
    rw [List.zip_cons_cons] at hp
    rcases List.mem_cons.1 hp with rfl | hp
    · rfl
    · exact id_zip l p hp
theorem IdE.app {a b : List Bd} (h : IdE a) (k : IdE b) : IdE (a ++ b) := fun p hp => by
  rcases List.mem_append.1 hp with hp | hp
  · exact h p hp
  · exact k p hp
theorem again (d : ExD) (k : Nat) (env : List Bd) : ((d.kind = 4 ∨ d.kind = 6 ∨ d.kind = 7) → ((d.numV k env).numD k).s = (d.numV k env).s) ∧ ((d.numV k env).numD k).t = (d.numV k env).t ∧ ((d.numV k env).numD k).names = (d.numV k env).names ∧ ((d.numV k env).numD k).nn = (d.numV k env).nn := by
  by_cases h3 : d.kind = 3
  · unfold ExD.numV ExD.numD; simp [h3]
  unfold ExD.numV
  rw [if_neg h3]
  by_cases h4 : d.kind = 4
  · unfold ExD.numD; simp [h4]
  by_cases h6 : d.kind = 6
  · unfold ExD.numD; simp [h6]
  by_cases h7 : d.kind = 7
  · unfold ExD.numD; simp [h7]
  by_cases h14 : d.kind = 14
  · by_cases ht : d.t = []
    · unfold ExD.numD; simp [h14, ht, vNames_len]
    · unfold ExD.numD; simp [h14, ht, vNames_len, vName_ne]
  · unfold ExD.numD; simp [h4, h6, h7, h14]
theorem again_bound (d : ExD) (k : Nat) (env : List Bd) (i : Nat) : ((d.numV k env).numD k).boundC i = (d.numV k env).boundC i := by
  obtain ⟨h1, h2, h3, h4⟩ := again d k env
  have hk : ((d.numV k env).numD k).kind = (d.numV k env).kind := rfl
  have hk2 := (numV_kind d k env).1
  unfold ExD.boundC
  rw [hk, h2, h3, h4]
  by_cases c1 : (d.numV k env).kind = 4 ∨ ((d.numV k env).kind = 6 ∨ (d.numV k env).kind = 7) ∧ i = 1
  · rw [if_pos c1, if_pos c1, h1 (by rw [← hk2]; rcases c1 with c | ⟨c | c, _⟩; exact .inl c; exact .inr (.inl c); exact .inr (.inr c))]
  rw [if_neg c1, if_neg c1]
  by_cases c2 : (d.numV k env).kind = 7
  · rw [if_pos c2, if_pos c2, h1 (.inr (.inr (hk2.symm.trans c2)))]
  rw [if_neg c2, if_neg c2]
theorem numV_at (d : ExD) (k : Nat) (env : List Bd) : (d.numV k env).at_ = d.at_ := by unfold ExD.numV; split <;> rfl
theorem again_lk (d : ExD) (k : Nat) (env0 env : List Bd) (h : IdE env) : ((d.numV k env0).numV k env).lk (d.numV k env0) := by
  obtain ⟨h1, h2, h3, h4⟩ := again d k env0
  have hk2 := (numV_kind d k env0).1
  generalize d.numV k env0 = D at *
  obtain ⟨e1, e2, e3, _, _, e6, e7, _, e9, e10⟩ := numV_kind D k env
  refine ⟨e1, numV_at D k env, e2, ?_, e6.trans h2, e3, e7.trans h3⟩
  by_cases c : D.kind = 3
  · rw [e10 c, nowF_id h]
  · rw [e9 c]
    by_cases c4 : d.kind = 4 ∨ d.kind = 6 ∨ d.kind = 7
    · exact h1 c4
    · show (if D.kind = 4 ∨ D.kind = 6 ∨ D.kind = 7 then vName k else D.s) = D.s
      rw [hk2, if_neg c4]
mutual
/-- Numbered again, it is the same. -/
theorem num_id : ∀ (t : Ex) (env0 env : List Bd) (ol ol' : List Str), IdE env → ol'.length = ol.length → ((t.num env0 ol).1.num env ol').1.lk (t.num env0 ol).1 ∧ ((t.num env0 ol).1.num env ol').2.length = (t.num env0 ol).2.length
  | .mk d l, env0, env, ol, ol', h, hl => by
    simp only [Ex.num, Ex.lk]
    rw [hl]
    have hb : (ol' ++ (d.numV ol.length env0).bs).length = (ol ++ d.bs).length := by
      rw [List.length_append, List.length_append, bs_numV, vNames_len, hl]
    have hk := numL_id d (d.numD ol.length) (d.numV ol.length env0) ((d.numV ol.length env0).numD ol.length) (fun i => by rw [again_bound]; exact id_zip _) l 0 env0 env (ol ++ d.bs) _ h hb
    exact ⟨⟨again_lk d _ env0 env h, hk.1⟩, hk.2⟩
theorem numL_id (d d1 D D1 : ExD) (hz : ∀ i, IdE ((D.boundC i).zip (D1.boundC i))) : ∀ (l : List Ex) (i : Nat) (env0 env : List Bd) (ol ol' : List Str), IdE env → ol'.length = ol.length → lkL (numL D D1 (numL d d1 l i env0 ol).1 i env ol').1 (numL d d1 l i env0 ol).1 ∧ (numL D D1 (numL d d1 l i env0 ol).1 i env ol').2.length = (numL d d1 l i env0 ol).2.length
  | [], _, _, _, _, _, _, hl => by simp only [numL, lkL]; exact ⟨trivial, hl⟩
  | x :: l, i, env0, env, ol, ol', h, hl => by
    simp only [numL, lkL]
    have h1 := num_id x (env0 ++ (d.boundC i).zip (d1.boundC i)) (env ++ (D.boundC i).zip (D1.boundC i)) ol ol' (h.app (hz i)) hl
    have h2 := numL_id d d1 D D1 hz l (i + 1) env0 env _ _ h h1.2
    exact ⟨⟨h1.1, h2.1⟩, h2.2⟩
end

/-! ### What is closed -/
theorem bound_CF {d : ExD} {l : List Ex} (h : (Ex.mk d l).fineE = true) {w : World} (hI : (Ex.mk d l).In w) {i : Nat} (hi : i < d.pn) : d.boundC i = d.boundF i := by
  obtain ⟨_, p4, p67, p14⟩ := fine_parts h hI
  unfold ExD.boundC ExD.boundF
  by_cases h4 : d.kind = 4
  · have := p4 h4
    rw [if_pos (.inl h4), if_pos (.inl ⟨h4, by omega⟩)]
  by_cases h6 : d.kind = 6
  · by_cases hi1 : i = 1
    · rw [if_pos (.inr ⟨.inl h6, hi1⟩), if_pos (.inr (.inl ⟨h6, hi1⟩))]
    · rw [if_neg (by omega), if_neg (by omega), if_neg (by omega), if_neg (by omega), if_neg (by omega), if_neg (by omega), if_neg (by omega), if_neg (by omega)]
  by_cases h7 : d.kind = 7
  · have := p67 (.inr h7)
    by_cases hi1 : i = 1
    · rw [if_pos (.inr ⟨.inr h7, hi1⟩), if_pos (.inr (.inr ⟨h7, hi1⟩))]
    · rw [if_neg (by omega), if_pos h7, if_neg (by omega), if_pos ⟨h7, by omega⟩]
  by_cases h14 : d.kind = 14
  · have hn := (p14 h14).2
    have hF : d.boundF i = if d.ln < i then [d.t] else if 0 < i ∧ i ≤ d.nn then (d.names.drop (i - 1)).take 1 else [] := by
      unfold ExD.boundF
      rw [if_neg (by omega), if_neg (by omega)]
      simp only [h14, true_and]
    have hC : d.boundC i = if d.nn < i then [d.t] else if 0 < i then (d.names.drop (i - 1)).take 1 else [] := by
      unfold ExD.boundC
      rw [if_neg (by omega), if_neg h7]
      simp only [h14, true_and]
    have hFC : d.boundC i = d.boundF i := by
      rw [hF, hC, hn]
      by_cases hlt : d.ln < i
      · simp only [if_pos hlt]
      · have hle : i ≤ d.ln := by omega
        simp only [if_neg hlt]
        by_cases h0 : 0 < i
        · simp [h0, hle]
        · simp [h0]
    exact hFC
  · rw [if_neg (by omega), if_neg h7, if_neg (by omega), if_neg (by omega), if_neg (by omega), if_neg (by omega), if_neg (by omega), if_neg (by omega)]
mutual
theorem closed_iff (w : World) : ∀ (t : Ex), t.In w → t.fineE = true → ∀ ns, t.firstF ns = none ↔ ∀ x, t.freeB x = true → x ∈ ns
  | .mk d l, hI, hf, ns => by
    have hlen : l.length = d.pn := hI.len
    have hk := closedL_iff w d l (fun x hx => hI.sub x hx) (fun x hx => fine_sub hf x hx) 0 (fun j _ hj => bound_CF hf hI (by omega)) ns
    simp only [Ex.firstF, Ex.freeB]
    by_cases h3 : d.kind = 3
    · have hl := (fine_parts hf hI).1 h3
      subst hl
      by_cases hm : d.s ∉ ns
      · rw [if_pos ⟨h3, hm⟩]
        refine ⟨fun h => (by cases h), fun h => absurd (h d.s (by simp [h3])) hm⟩
      · rw [if_neg (fun q => hm q.2)]
        have hm' : d.s ∈ ns := Classical.not_not.1 hm
        refine ⟨fun _ x hx => ?_, fun _ => rfl⟩
        simp only [freeLB, Bool.or_false, Bool.and_eq_true, decide_eq_true_eq] at hx
        rw [hx.2]; exact hm'
    · rw [if_neg (fun q => h3 q.1), hk]
      refine forall_congr' fun x => ?_
      rw [decide_eq_false h3, Bool.false_and, Bool.false_or]
theorem closedL_iff (w : World) (d : ExD) : ∀ (l : List Ex), (∀ x ∈ l, x.In w) → (∀ x ∈ l, x.fineE = true) → ∀ (i : Nat), (∀ j, i ≤ j → j < i + l.length → d.boundC j = d.boundF j) → ∀ ns, firstFL d l i ns = none ↔ ∀ x, freeLB d l i x = true → x ∈ ns
  | [], _, _, i, _, ns => by simp [firstFL, freeLB]
  | y :: l, hI, hf, i, hb, ns => by
    have h1 := closed_iff w y (hI y (List.mem_cons_self ..)) (hf y (List.mem_cons_self ..)) (ns ++ d.boundC i)
    have h2 := closedL_iff w d l (fun x hx => hI x (List.mem_cons_of_mem _ hx)) (fun x hx => hf x (List.mem_cons_of_mem _ hx)) (i + 1) (fun j h3 h4 => hb j (by omega) (by rw [List.length_cons]; omega)) ns
    have hbi := hb i (Nat.le_refl _) (by rw [List.length_cons]; omega)
    simp only [firstFL, freeLB]
    cases hy : y.firstF (ns ++ d.boundC i) with
    | some a =>
      rw [hy] at h1
      refine ⟨fun h => (by cases h), fun h => ?_⟩
      exact absurd (h1.2 (fun x hx => by
        by_cases hm : x ∈ d.boundC i
        · exact List.mem_append_right _ hm
        · exact List.mem_append_left _ (h x (by rw [← hbi]; simp [hx, hm])))) (by simp)
    | none =>
      rw [hy] at h1
      have h1' := h1.1 rfl
      show firstFL d l (i + 1) ns = none ↔ _
      rw [h2]
      refine ⟨fun h x hx => ?_, fun h x hx => h x (by rw [hx, Bool.or_true])⟩
      simp only [Bool.or_eq_true, Bool.and_eq_true, Bool.not_eq_true', decide_eq_false_iff_not] at hx
      rcases hx with ⟨hx, hm⟩ | hx
      · rcases List.mem_append.1 (h1' x hx) with q | q
        · exact q
        · exact absurd (hbi ▸ q) hm
      · exact h x hx
end
theorem numV_bound (d : ExD) (k : Nat) (env : List Bd) (i : Nat) : (d.numV k env).boundC i = (d.numD k).boundC i := by
  by_cases h3 : d.kind = 3
  · rw [boundC_3 (d := d.numV k env) ((numV_kind d k env).1.trans h3), boundC_3 (d := d.numD k) h3]
  · unfold ExD.numV; rw [if_neg h3]
theorem lookF_mem {s : Str} {env : List Bd} (h : s ∈ env.map (·.1)) : nowF s env ∈ env.map (·.2) := by
  unfold nowF
  cases hl : lookF s env with
  | none => exact absurd h (lookF_none.1 hl)
  | some v =>
    unfold lookF at hl
    cases hf : env.reverse.find? fun p => decide (p.1 = s) with
    | none => rw [hf] at hl; cases hl
    | some p =>
      rw [hf] at hl
      have hv : p.2 = v := by simpa using hl
      show v ∈ _
      exact List.mem_map.2 ⟨p, List.mem_reverse.1 (List.mem_of_find?_eq_some hf), hv⟩
mutual
/-- What is closed stays so. -/
theorem closed_num : ∀ (t : Ex), t.CtE → ∀ (env : List Bd) (ol : List Str), t.firstF (env.map (·.1)) = none → (t.num env ol).1.firstF (env.map (·.2)) = none
  | .mk d l, hc, env, ol, h => by
    simp only [Ex.CtE] at hc
    simp only [Ex.firstF] at h
    by_cases hcond : d.kind = 3 ∧ d.s ∉ env.map (·.1)
    · rw [if_pos hcond] at h; cases h
    rw [if_neg hcond] at h
    have hk := closedL_num d (d.numV ol.length env) (d.numD ol.length) (fun i => numV_bound d _ env i) (fun i => by rw [boundC_numLen d ol.length i hc.1]) l hc.2.2.2 0 env (ol ++ d.bs) h
    simp only [Ex.num, Ex.firstF]
    rw [if_neg, hk]
    rintro ⟨q1, q2⟩
    have h3 : d.kind = 3 := (numV_kind d ol.length env).1.symm.trans q1
    rw [(numV_kind d ol.length env).2.2.2.2.2.2.2.2.2 h3] at q2
    exact q2 (lookF_mem (Classical.not_not.1 (fun q => hcond ⟨h3, q⟩)))
theorem closedL_num (d D d1 : ExD) (hD : ∀ i, D.boundC i = d1.boundC i) (hl : ∀ i, (d1.boundC i).length = (d.boundC i).length) : ∀ (l : List Ex), CtL l → ∀ (i : Nat) (env : List Bd) (ol : List Str), firstFL d l i (env.map (·.1)) = none → firstFL D (numL d d1 l i env ol).1 i (env.map (·.2)) = none
  | [], _, _, _, _, _ => rfl
  | x :: l, hc, i, env, ol, h => by
    simp only [firstFL] at h
    simp only [numL, firstFL]
    cases hx : x.firstF (env.map (·.1) ++ d.boundC i) with
    | some a => rw [hx] at h; cases h
    | none =>
      rw [hx] at h
      have h1 := closed_num x hc.1 (env ++ (d.boundC i).zip (d1.boundC i)) ol (by
        rw [List.map_append, List.map_fst_zip (by rw [hl i]; exact Nat.le_refl _)]; exact hx)
      rw [List.map_append, List.map_snd_zip (by rw [hl i]; exact Nat.le_refl _)] at h1
      rw [hD i, h1]
      exact closedL_num d D d1 hD hl l hc.2 (i + 1) env _ h
end
end Go.Proofs.YtaglmmcjhlehjaaGreatDoor

namespace Go.Proofs.YtaglmmcjhlehjaaGreatDoor
open Go.ChangeShapes Go.WideShapes Go.ChangeAt Go.RowKit Go.Sort
set_option linter.unusedVariables false
set_option linter.unusedSimpArgs false

theorem bs_le2 {d : ExD} {l : List Ex} (h : (Ex.mk d l).fineE = true) {w : World} (hI : (Ex.mk d l).In w) : d.bs.length ≤ l.length := by
  obtain ⟨_, p4, p67, p14⟩ := fine_parts h hI
  have hlen : l.length = d.pn := hI.len
  by_cases h14 : d.kind = 14
  · have := (p14 h14).1; omega
  unfold ExD.bs
  by_cases h1 : d.kind = 4 ∨ d.kind = 6
  · rw [if_pos h1, List.length_singleton]
    rcases h1 with h | h
    · have := p4 h; omega
    · have := p67 (.inl h); omega
  rw [if_neg h1]
  by_cases h7 : d.kind = 7
  · rw [if_pos h7]; have := p67 (.inr h7); show 2 ≤ _; omega
  rw [if_neg h7, if_neg h14]; exact Nat.zero_le _
mutual
theorem bsN_le2 (w : World) : ∀ e : Ex, e.In w → e.fineE = true → e.bsN + 1 ≤ e.nodes
  | .mk d l, hI, hf => by
    have h1 := bs_le2 hf hI
    have h2 := bsNL_le2 w l (fun x hx => hI.sub x hx) (fun x hx => fine_sub hf x hx)
    simp only [Ex.bsN, Ex.nodes]
    omega
theorem bsNL_le2 (w : World) : ∀ l : List Ex, (∀ x ∈ l, x.In w) → (∀ x ∈ l, x.fineE = true) → bsNL l + l.length ≤ enodesL l
  | [], _, _ => by simp [bsNL, enodesL]
  | x :: l, hI, hf => by
    have h1 := bsN_le2 w x (hI x (List.mem_cons_self ..)) (hf x (List.mem_cons_self ..))
    have h2 := bsNL_le2 w l (fun y hy => hI y (List.mem_cons_of_mem _ hy)) (fun y hy => hf y (List.mem_cons_of_mem _ hy))
    simp only [bsNL, enodesL, List.length_cons]
    omega
end
mutual
theorem depth_num : ∀ (t : Ex) (env : List Bd) (ol : List Str), (t.num env ol).1.depth = t.depth ∧ (t.num env ol).1.nodes = t.nodes
  | .mk d l, env, ol => by
    have h := depthL_num d (d.numD ol.length) l 0 env (ol ++ d.bs)
    simp only [Ex.num, Ex.depth, Ex.nodes]
    rw [h.1, h.2]
    exact ⟨rfl, rfl⟩
theorem depthL_num (d d1 : ExD) : ∀ (l : List Ex) (i : Nat) (env : List Bd) (ol : List Str), depthL (numL d d1 l i env ol).1 = depthL l ∧ enodesL (numL d d1 l i env ol).1 = enodesL l
  | [], _, _, _ => ⟨rfl, rfl⟩
  | x :: l, i, env, ol => by
    have h1 := depth_num x (env ++ (d.boundC i).zip (d1.boundC i)) ol
    have h2 := depthL_num d d1 l (i + 1) env (x.num (env ++ (d.boundC i).zip (d1.boundC i)) ol).2
    simp only [numL, depthL, enodesL]
    rw [h1.1, h1.2, h2.1, h2.2]
    exact ⟨rfl, rfl⟩
end
mutual
theorem depth_lk : ∀ {t u : Ex}, t.lk u → t.depth = u.depth ∧ t.nodes = u.nodes
  | .mk d l, .mk e m, h => by
    simp only [Ex.lk] at h
    have hk := depthL_lk h.2
    simp only [Ex.depth, Ex.nodes]
    rw [hk.1, hk.2]
    exact ⟨rfl, rfl⟩
theorem depthL_lk : ∀ {l m : List Ex}, lkL l m → depthL l = depthL m ∧ enodesL l = enodesL m
  | [], [], _ => ⟨rfl, rfl⟩
  | x :: l, y :: m, h => by
    simp only [lkL] at h
    have h1 := depth_lk h.1
    have h2 := depthL_lk h.2
    simp only [depthL, enodesL]
    rw [h1.1, h1.2, h2.1, h2.2]
    exact ⟨rfl, rfl⟩
  | [], _ :: _, h => by simp [lkL] at h
  | _ :: _, [], h => by simp [lkL] at h
end
theorem fields_lk {d e : ExD} (h : d.lk e) (h1 : d.nn = e.nn) (h2 : d.ln = e.ln) (h3 : d.pn = e.pn) : d.fieldsB = e.fieldsB := by
  obtain ⟨k1, _, k3, k4, k5, k6, k7⟩ := h
  unfold ExD.fieldsB ExD.sB ExD.tB ExD.listsB
  rw [k1, k3, k4, k5, k6, k7, h1, h2, h3]
mutual
theorem fine_lk : ∀ {t u : Ex}, t.lk u → t.CtE → u.CtE → t.fineE = u.fineE
  | .mk d l, .mk e m, h, ht, hu => by
    simp only [Ex.lk] at h
    simp only [Ex.CtE] at ht hu
    simp only [Ex.fineE]
    rw [fields_lk h.1 (nn_lk h.1 ht.1 hu.1) (by rw [← ht.2.1, ← hu.2.1, h.1.2.2.2.2.2.1]) (by rw [← ht.2.2.1, ← hu.2.2.1, lkL_len h.2]), fineL_lk h.2 ht.2.2.2 hu.2.2.2]
theorem fineL_lk : ∀ {l m : List Ex}, lkL l m → CtL l → CtL m → fineEL l = fineEL m
  | [], [], _, _, _ => rfl
  | x :: l, y :: m, h, hl, hm => by
    simp only [lkL] at h
    simp only [fineEL]
    rw [fine_lk h.1 hl.1 hm.1, fineL_lk h.2 hl.2 hm.2]
  | [], _ :: _, h, _, _ => by simp [lkL] at h
  | _ :: _, [], h, _, _ => by simp [lkL] at h
end
theorem vNames_tok : ∀ (n k : Nat), k + n ≤ 1500 → ∀ s ∈ vNames n k, tokB s 1 = true
  | n + 1, k, h, s, hs => by
    rcases List.mem_cons.1 hs with rfl | hs
    · exact tokVn k (by omega)
    · exact vNames_tok n (k + 1) (by omega) s hs
/-- What is bound in a part is a name with a number. -/
theorem iz_val {d : ExD} {l : List Ex} (h : (Ex.mk d l).fineE = true) {w : World} (hI : (Ex.mk d l).In w) (k : Nat) {i : Nat} (hi : i < d.pn) : ∀ p ∈ d.iz k i, ∃ j, p.2 = vName (k + j) ∧ j < d.bs.length := by
  obtain ⟨_, p4, p67, p14⟩ := fine_parts h hI
  by_cases h4 : d.kind = 4
  · have hb : d.bs.length = 1 := by unfold ExD.bs; rw [if_pos (.inl h4)]; rfl
    rw [iz_4 h4]
    intro p hp
    obtain rfl := List.mem_singleton.1 hp
    exact ⟨0, rfl, by omega⟩
  by_cases h6 : d.kind = 6
  · have hb : d.bs.length = 1 := by unfold ExD.bs; rw [if_pos (.inr h6)]; rfl
    by_cases hi1 : i = 1
    · subst hi1
      rw [iz_67 (.inl h6)]
      intro p hp
      obtain rfl := List.mem_singleton.1 hp
      exact ⟨0, rfl, by omega⟩
    · rw [iz_6 h6 hi1]; intro p hp; cases hp
  by_cases h7 : d.kind = 7
  · have hb : d.bs.length = 2 := by unfold ExD.bs; rw [if_neg (by omega), if_pos h7]; rfl
    have := p67 (.inr h7)
    by_cases hi1 : i = 1
    · subst hi1
      rw [iz_67 (.inr h7)]
      intro p hp
      obtain rfl := List.mem_singleton.1 hp
      exact ⟨0, rfl, by omega⟩
    · obtain rfl : i = 0 := by omega
      rw [iz_7 h7]
      intro p hp
      simp only [List.mem_cons, List.not_mem_nil, or_false] at hp
      rcases hp with rfl | rfl
      · exact ⟨0, rfl, by omega⟩
      · exact ⟨1, rfl, by omega⟩
  by_cases h14 : d.kind = 14
  · by_cases h0 : i = 0
    · rw [iz_0 ⟨h4, h6, h7, .inr h0⟩]; intro p hp; cases hp
    · have hpn := (p14 h14).1
      obtain ⟨q, hq, hz⟩ := iz_14 (k := k) h14 hI.namLen (by omega : 0 < i) (by omega)
      rw [ob_get (show i - 1 < d.bs.length by omega)] at hq
      injection hq with hq
      subst hq
      rw [hz]
      intro p hp
      obtain rfl := List.mem_singleton.1 hp
      exact ⟨i - 1, rfl, by omega⟩
  · rw [iz_0 ⟨h4, h6, h7, .inl h14⟩]; intro p hp; cases hp
theorem nowF_or (s : Str) (env : List Bd) : nowF s env = s ∨ nowF s env ∈ env.map (·.2) := by
  by_cases h : s ∈ env.map (·.1)
  · exact .inr (lookF_mem h)
  · left
    unfold nowF
    rw [lookF_none.2 h]; rfl
theorem parts_other {kind ln : Int} (h : kind ≠ 14) (a b : Bool) : partsF kind ln a = partsF kind ln b := by
  unfold partsF
  simp only [h, if_false]
theorem fields_num {d : ExD} {l : List Ex} (h : (Ex.mk d l).fineE = true) {w : World} (hI : (Ex.mk d l).In w) (k : Nat) (env : List Bd) (he : ∀ p ∈ env, tokB p.2 1 = true) (hk : k + d.bs.length ≤ 1500) : (d.numV k env).fieldsB = true := by
  have hF := fine_own h
  unfold ExD.fieldsB at hF
  simp only [Bool.and_eq_true] at hF
  obtain ⟨⟨⟨⟨f1, f2⟩, f3⟩, f4⟩, f5⟩ := hF
  have hnl : d.names.length = d.nn := hI.namLen
  obtain ⟨e1, e2, e3, e4, e5, e6, e7, e8, e9, e10⟩ := numV_kind d k env
  have ht : (d.numD k).t = if d.kind = 7 then vName (k + 1) else if d.kind = 14 ∧ d.t ≠ [] then vName (k + d.names.length) else d.t := rfl
  have hs : (d.numD k).s = if d.kind = 4 ∨ d.kind = 6 ∨ d.kind = 7 then vName k else d.s := rfl
  have hn : (d.numD k).names = if d.kind = 14 then vNames d.names.length k else [] := rfl
  have hnn : (d.numD k).nn = if d.kind = 14 then d.names.length else 0 := rfl
  have htn : (decide ((d.numV k env).t = []) = decide (d.t = [])) ∨ d.kind ≠ 14 := by
    by_cases h14 : d.kind = 14
    · left
      rw [e6, ht, if_neg (by omega)]
      by_cases htt : d.t = []
      · rw [if_neg (fun q => q.2 htt)]
      · rw [if_pos ⟨h14, htt⟩, decide_eq_false (vName_ne _), decide_eq_false htt]
    · exact .inr h14
  unfold ExD.fieldsB
  simp only [Bool.and_eq_true]
  refine ⟨⟨⟨⟨?_, ?_⟩, ?_⟩, ?_⟩, ?_⟩
  · rw [e1, e4, e5]
    rcases htn with q | q
    · rw [q]; exact f1
    · rw [parts_other q _ (!decide (d.t = []))]; exact f1
  · rw [e1, e2]; exact f2
  · by_cases h3 : d.kind = 3
    · unfold ExD.sB at f3 ⊢
      rw [if_pos (.inl h3)] at f3
      rw [e1, if_pos (.inl h3), e10 h3]
      rcases nowF_or d.s env with q | q
      · rw [q]; exact f3
      · obtain ⟨p, hp, hq⟩ := List.mem_map.1 q
        rw [← hq]; exact he p hp
    · by_cases hc : d.kind = 4 ∨ d.kind = 6 ∨ d.kind = 7
      · have hb : 1 ≤ d.bs.length := by
          unfold ExD.bs
          by_cases h7 : d.kind = 7
          · rw [if_neg (by omega), if_pos h7]; show 1 ≤ 2; omega
          · rw [if_pos (by omega)]; exact Nat.le_refl _
        unfold ExD.sB
        rw [e1, if_pos (by omega), e9 h3, hs, if_pos hc]
        exact tokVn k (by omega)
      · have q : (d.numV k env).s = d.s := by rw [e9 h3, hs, if_neg hc]
        unfold ExD.sB at f3 ⊢
        rw [e1, q]; exact f3
  · unfold ExD.tB at f4 ⊢
    rw [e1, e6, ht]
    by_cases h7 : d.kind = 7
    · have hb : d.bs.length = 2 := by unfold ExD.bs; rw [if_neg (by omega), if_pos h7]; rfl
      simp only [if_pos h7]
      exact tokVn (k + 1) (by omega)
    · simp only [if_neg h7] at f4 ⊢
      by_cases h14 : d.kind = 14
      · simp only [if_pos h14] at f4 ⊢
        by_cases htt : d.t = []
        · simp [htt]
        · have hb : d.bs.length = d.names.length + 1 := by
            unfold ExD.bs; rw [if_neg (by omega), if_neg h7, if_pos h14, if_neg htt, List.length_append]; rfl
          rw [if_pos ⟨h14, htt⟩, tokVn _ (by omega), Bool.or_true]
      · simp only [if_neg h14] at f4 ⊢
        rw [if_neg (fun q => h14 q.1)]; exact f4
  · unfold ExD.listsB at f5 ⊢
    rw [e1, e3, e4, e7, e8, hn, hnn]
    by_cases h8 : d.kind = 8
    · simp only [if_pos h8, Bool.and_eq_true] at f5 ⊢
      rw [if_neg (show ¬ d.kind = 14 by omega)]
      exact ⟨f5.1, rfl⟩
    · simp only [if_neg h8] at f5 ⊢
      by_cases h14 : d.kind = 14
      · have hb : d.names.length ≤ d.bs.length := by
          unfold ExD.bs; rw [if_neg (by omega), if_neg (by omega), if_pos h14, List.length_append]; omega
        simp only [if_pos h14, Bool.and_eq_true] at f5 ⊢
        obtain ⟨⟨⟨g1, g2⟩, g3⟩, g4⟩ := f5
        refine ⟨⟨⟨g1, by rw [hnl]; exact g2⟩, List.all_eq_true.2 (fun s hs => vNames_tok _ _ (by omega) s hs)⟩, ?_⟩
        rcases htn with q | q
        · rw [q]; exact g4
        · exact absurd h14 q
      · simp only [if_neg h14, Bool.and_eq_true] at f5 ⊢
        exact ⟨f5.1, rfl⟩
mutual
theorem fine_num (w : World) : ∀ (t : Ex), t.In w → t.fineE = true → ∀ (env : List Bd) (ol : List Str), (∀ p ∈ env, tokB p.2 1 = true) → ol.length + t.bsN ≤ 1500 → (t.num env ol).1.fineE = true
  | .mk d l, hI, hf, env, ol, he, hb => by
    simp only [Ex.bsN] at hb
    have hlen : l.length = d.pn := hI.len
    simp only [Ex.num, Ex.fineE]
    rw [fields_num hf hI ol.length env he (by omega), Bool.true_and]
    refine fineL_num w d (d.numD ol.length) l (fun x hx => hI.sub x hx) (fun x hx => fine_sub hf x hx) 0 (fun i _ hi p hp => ?_) env (ol ++ d.bs) he (by rw [List.length_append]; omega)
    obtain ⟨j, hj, hjb⟩ := iz_val hf hI ol.length (show i < d.pn by omega) p hp
    rw [hj]
    exact tokVn _ (by omega)
theorem fineL_num (w : World) (d d1 : ExD) : ∀ (l : List Ex), (∀ x ∈ l, x.In w) → (∀ x ∈ l, x.fineE = true) → ∀ (i : Nat), (∀ j, i ≤ j → j < i + l.length → ∀ p ∈ (d.boundC j).zip (d1.boundC j), tokB p.2 1 = true) → ∀ (env : List Bd) (ol : List Str), (∀ p ∈ env, tokB p.2 1 = true) → ol.length + bsNL l ≤ 1500 → fineEL (numL d d1 l i env ol).1 = true
  | [], _, _, _, _, _, _, _, _ => rfl
  | x :: l, hI, hf, i, hz, env, ol, he, hb => by
    simp only [bsNL] at hb
    simp only [numL, fineEL]
    rw [fine_num w x (hI x (List.mem_cons_self ..)) (hf x (List.mem_cons_self ..)) _ _ (fun p hp => by
      rcases List.mem_append.1 hp with hp | hp
      · exact he p hp
      · exact hz i (Nat.le_refl _) (by rw [List.length_cons]; omega) p hp) (by omega), Bool.true_and]
    exact fineL_num w d d1 l (fun y hy => hI y (List.mem_cons_of_mem _ hy)) (fun y hy => hf y (List.mem_cons_of_mem _ hy)) (i + 1) (fun j h1 h2 => hz j (by omega) (by rw [List.length_cons]; omega)) env _ he (by rw [num_len]; omega)
end
/-- What is numbered may be. -/
theorem may_num {w w' : World} {t t' : Ex} (hI : t.In w) (hI' : t'.In w') (hm : (mayE t 1 0).isSome = true) (h : t'.lk (t.num [] []).1) : (mayE t' 1 0).isSome = true := by
  have hf := may_fine hm
  have hle := may_le hm
  have hb := bsN_le2 w t hI hf
  have hct := ct_in w t hI
  have h1 : t'.fineE = true := by
    rw [fine_lk h (ct_in w' t' hI') (ct_num t hct [] [])]
    exact fine_num w t hI hf [] [] (fun p hp => by cases hp) (by simp only [List.length_nil]; omega)
  have h2 := depth_lk h
  have h3 := depth_num t [] []
  rw [mayE_spec, if_pos ⟨h1, by rw [h2.1, h3.1]; omega, by rw [h2.2, h3.2]; omega⟩]
  rfl
end Go.Proofs.YtaglmmcjhlehjaaGreatDoor

namespace Go.Proofs.YtaglmmcjhlehjaaGreatDoor
open Go.ChangeShapes Go.WideShapes Go.ChangeAt Go.RowKit Go.Sort
set_option linter.unusedVariables false
set_option linter.unusedSimpArgs false

/-- What binders tells. -/
def BnR (t : Ex) (W : World) (e : Ending) (w' : World) : Prop := ∃ A c, e = .returned (.slice A t.bnd.length c) ∧ Rd w' 1 A t.bnd.length (strs t.bnd) ∧ Below W.heap.size W w'
def KidsB (w0 : World) (l : List Ex) : Prop := ∀ x ∈ l, ∀ (W : World), Below w0.heap.size w0 W → x.bsN ≤ 4000000 → Calls Tryz.prog 26 #[.agg x.d.arr] W fun e w' => BnR x W e w'
theorem strs_ones (l : List Str) : ∀ u ∈ strs l, u.oneCell' = true := strs_one l

set_option maxRecDepth 100000 in
set_option maxHeartbeats 4000000 in
theorem binders_one (w0 : World) (d : ExD) (l : List Ex) (hI : (Ex.mk d l).In w0) (hK : KidsB w0 l) (W : World) (hb : Below w0.heap.size w0 W) (hm : (Ex.mk d l).bsN ≤ 4000000) :
    Calls Tryz.prog 26 #[.agg d.arr] W fun e w' => BnR (.mk d l) W e w' := by
  have hE := ex_box W d
  have hb1 : Below W.heap.size W (W.alloc (.cells d.arr 25)) := (Below.refl _ _).alloc (Nat.le_refl _) _
  have HI := Lib.hid hI
  have HK := Lib.hid hK
  have HB := Lib.hid hb
  have HM := Lib.hid (show d.bs.length + bsNL l ≤ 4000000 from by simpa [Ex.bsN] using hm)
  have HPN := Lib.hid (show l.length = d.pn from hI.len)
  have HP4 := Lib.hid (show d.pn ≤ 9223372036854775807 from hI.cap.2.2.1.2.2)
  have HNL := Lib.hid (show d.names.length = d.nn from hI.namLen)
  clear hI hK hb hm
  go_enter Tryz.func26, Tryz.ntmps26
  go_upto_region 2 with fail
  generalize W.alloc (.cells d.arr 25) = w1 at *
  obtain ⟨E, hEE⟩ : ∃ E, W.heap.size = E := ⟨_, rfl⟩
  have HEE := Lib.hid hEE
  rw [hEE] at hE ⊢
  have hEl : E < w1.heap.size := hE.lt
  have HEL := Lib.hid hEl
  have HE := Lib.hid hE
  have HB1 := Lib.hid hb1
  clear hE hb1 hEE hEl
  obtain ⟨c0, _, _, _, _, _, _, _⟩ := HE.out
  go_upto_block 0 with fail
  clear c0
  obtain ⟨w2, rfl⟩ : ∃ x, x = w1 := ⟨_, rfl⟩
  go_cut [3] from 5 to 53 (fun x3 wx => wx.ownsRow w2.heap.size 9 1 x3 d.bs.length (strs d.bs) ∧ Below w2.heap.size w2 wx)
  case first =>
    have HNI := Lib.hid (World.ownsRow_nil w2 w2.heap.size 9 1)
    obtain ⟨c0, _, _, c3, c4, _, c6, _⟩ := HE.out
    by_cases h4 : d.kind = 4 ∨ d.kind = 6
    · have HBS := Lib.hid (show d.bs = [d.s] by unfold ExD.bs; rw [if_pos h4])
      have key : ∀ (b : Bool), (d.kind == 4) = b → (d.kind == 4) = true ∨ (d.kind == 6) = true := fun b _ => by rcases h4 with h | h <;> simp [h]
      rcases key _ rfl with q4 | q6
      · clear key
        go_wp2_with (at_builtin; refine wpList_app elStr _ rfl (.tmp 10) (.tmp 13) rfl w2.heap.size (.slice none 0 0) 0 [] rfl (HNI.out.alloc _) (some ⟨w2.heap.size, 0, none⟩) 1 1 (strs [d.s]) rfl (Rd.lit w2 #[.string (bstr d.s)] _ rfl) (strs_one _) (by decide) (by simp) ?_; intro v6 w6 hown6 hb6 hg6 hat6; rw [Nat.zero_add] at hown6; rw [List.nil_append] at hown6; have H6 := Lib.hid (And.intro hown6 hb6); clear hown6 hb6 hg6 hat6)
        go_meet
        rw [HBS.out]
        exact ⟨H6.out.1, (Below.refl _ _).alloc (Nat.le_refl _) _ |>.trans H6.out.2⟩
      · have q4 : (d.kind == 4) = false := by have h : d.kind = 6 := by simpa using q6
                                              rw [h]; rfl
        clear key
        go_wp2_with (at_builtin; refine wpList_app elStr _ rfl (.tmp 10) (.tmp 13) rfl w2.heap.size (.slice none 0 0) 0 [] rfl (HNI.out.alloc _) (some ⟨w2.heap.size, 0, none⟩) 1 1 (strs [d.s]) rfl (Rd.lit w2 #[.string (bstr d.s)] _ rfl) (strs_one _) (by decide) (by simp) ?_; intro v6 w6 hown6 hb6 hg6 hat6; rw [Nat.zero_add] at hown6; rw [List.nil_append] at hown6; have H6 := Lib.hid (And.intro hown6 hb6); clear hown6 hb6 hg6 hat6)
        go_meet
        rw [HBS.out]
        exact ⟨H6.out.1, (Below.refl _ _).alloc (Nat.le_refl _) _ |>.trans H6.out.2⟩
    have q4 : (d.kind == 4) = false := by have h : ¬ d.kind = 4 := fun e => h4 (.inl e)
                                          simpa using h
    have q6 : (d.kind == 6) = false := by have h : ¬ d.kind = 6 := fun e => h4 (.inr e)
                                          simpa using h
    by_cases h7 : d.kind = 7
    · have HBS := Lib.hid (show d.bs = [d.s, d.t] by unfold ExD.bs; rw [if_neg h4, if_pos h7])
      have q7 : (d.kind == 7) = true := by simpa using h7
      clear h4 h7
      go_wp2_with (at_builtin; refine wpList_app elStr _ rfl (.tmp 17) (.tmp 22) rfl w2.heap.size (.slice none 0 0) 0 [] rfl (HNI.out.alloc _) (some ⟨w2.heap.size, 0, none⟩) 2 2 (strs [d.s, d.t]) rfl (Rd.lit w2 #[.string (bstr d.s), .string (bstr d.t)] _ rfl) (strs_one _) (by decide) (by simp) ?_; intro v6 w6 hown6 hb6 hg6 hat6; rw [Nat.zero_add] at hown6; rw [List.nil_append] at hown6; have H6 := Lib.hid (And.intro hown6 hb6); clear hown6 hb6 hg6 hat6)
      go_meet
      rw [HBS.out]
      exact ⟨H6.out.1, (Below.refl _ _).alloc (Nat.le_refl _) _ |>.trans H6.out.2⟩
    have q7 : (d.kind == 7) = false := by simpa using h7
    by_cases h14 : d.kind = 14
    · have q14 : (d.kind == 14) = true := by simpa using h14
      have HBS := Lib.hid (show d.bs = d.names ++ (if d.t = [] then [] else [d.t]) by unfold ExD.bs; rw [if_neg h4, if_neg h7, if_pos h14])
      have HNB := Lib.hid (show d.nn ≤ 4000000 by
        have h := HM.out
        rw [HBS.out, List.length_append, HNL.out] at h
        omega)
      have HNR := Lib.hid ((show Rd w0 1 d.nA d.nn (strs d.names) from HI.out.nam).below (HB.out.trans (HB1.out.mono HB.out.size)))
      have HC4 := Lib.hid c4
      clear h4 h7 h14
      by_cases ht : d.t = []
      · have p4 : (bstr d.t).toList.isEmpty = true := by rw [ht, bstr_toList]; rfl
        have p5 : (!(bstr d.t).toList.isEmpty) = false := by rw [p4]; rfl
        have HT := Lib.hid ht
        clear ht
        go_wp2_with (at_builtin; refine wpList_app elStr _ rfl (.tmp 26) (.tmp 28) rfl w2.heap.size (.slice none 0 0) 0 [] rfl HNI.out d.nA d.nn d.nc (strs d.names) rfl HNR.out (strs_one _) (by have := HNB.out; omega) (Nat.le_refl _) ?_; intro v6 w6 hown6 hb6 hg6 hat6; rw [Nat.zero_add] at hown6; rw [List.nil_append] at hown6; have H6 := Lib.hid (And.intro hown6 hb6); have c4' := cell_below hb6 HC4.out; clear hown6 hb6 hg6 hat6)
        go_meet
        rw [HBS.out, if_pos HT.out, List.append_nil, HNL.out]
        exact ⟨H6.out.1, H6.out.2⟩
      · have p4 : (bstr d.t).toList.isEmpty = false := str_empty ht
        have p5 : (!(bstr d.t).toList.isEmpty) = true := by rw [p4]; rfl
        have HT := Lib.hid ht
        clear ht
        go_upto_region 11 with (at_builtin; refine wpList_app elStr _ rfl (.tmp 26) (.tmp 28) rfl w2.heap.size (.slice none 0 0) 0 [] rfl HNI.out d.nA d.nn d.nc (strs d.names) rfl HNR.out (strs_one _) (by have := HNB.out; omega) (Nat.le_refl _) ?_; intro v6 w6 hown6 hb6 hg6 hat6; rw [Nat.zero_add] at hown6; rw [List.nil_append] at hown6; have H6 := Lib.hid (And.intro hown6 hb6); have c4' := cell_below hb6 HC4.out; clear hown6 hb6 hg6 hat6)
        go_wp2_with (at_builtin; refine wpList_app elStr _ rfl (.tmp 33) (.tmp 36) rfl w2.heap.size v6 d.nn (strs d.names) rfl (H6.out.1.alloc _) (some ⟨w6.heap.size, 0, none⟩) 1 1 (strs [d.t]) rfl (Rd.lit w6 #[.string (bstr d.t)] _ rfl) (strs_one _) (by have := HNB.out; omega) (by have := H6.out.2.size; simp; omega) ?_; intro v8 w8 hown8 hb8 hg8 hat8; have H8 := Lib.hid (And.intro hown8 hb8); clear hown8 hb8 hg8 hat8)
        go_meet
        rw [HBS.out, if_neg HT.out, strs_append, List.length_append, HNL.out]
        exact ⟨H8.out.1, H6.out.2.trans (((Below.refl _ _).alloc H6.out.2.size _).trans H8.out.2)⟩
    · have HBS := Lib.hid (show d.bs = [] by unfold ExD.bs; rw [if_neg h4, if_neg h7, if_neg h14])
      have q14 : (d.kind == 14) = false := by simpa using h14
      clear h4 h7 h14
      go_wp2_with fail
      go_meet
      rw [HBS.out]
      exact ⟨HNI.out, Below.refl _ _⟩
  case rest =>
  have H2 := Lib.hid hcut
  clear hcut
  go_wp2_with fail
  go_loopw [3, 4] (fun o i wr => ∃ k : Nat, i = .int .i64 k ∧ k ≤ d.pn ∧ wr.ownsRow w2.heap.size 9 1 o (d.bs ++ bndL (l.take k)).length (strs (d.bs ++ bndL (l.take k))) ∧ Below w2.heap.size w2 wr) (fun o i _ => d.pn - (intOf i).toNat)
  case atStart => exact ⟨0, rfl, Nat.zero_le _, by rw [List.take_zero]; simp only [bndL, List.append_nil]; exact H2.out.1, H2.out.2⟩
  case round =>
    obtain ⟨k, rfl, hk, how, hb⟩ := hrel
    have HOW := Lib.hid (And.intro how hb)
    have hk0 : (0 : Int) ≤ (k : Int) := by omega
    have c7 := (HE.out.lower hb).c7
    clear how
    by_cases hlt : k < d.pn
    · have hjl : k < l.length := by rw [HPN.out]; exact hlt
      obtain ⟨pb, po, hpA, hAtP⟩ := HI.out.part (k := k) hjl
      have hpA' : d.pA = some ⟨pb, po, none⟩ := hpA
      rw [hpA'] at c7
      have hW0 : Below w0.heap.size w0 wr := HB.out.trans (HB1.out.mono HB.out.size) |>.trans (hb.mono (Nat.le_trans HB.out.size HB1.out.size))
      have hAt0 : (l[k]).d.At wr pb (po + k * 8) := (show (l[k]).d.At w0 pb (po + k * 8) from hAtP k hjl).lower hW0
      have hbt := bsN_take l k hjl
      have htk : l.take (k + 1) = l.take k ++ [l[k]] := by rw [List.take_succ_eq_append_getElem hjl]
      obtain ⟨x, hx⟩ : ∃ x, l[k] = x := ⟨_, rfl⟩
      have hxm : x ∈ l := by rw [← hx]; exact List.getElem_mem hjl
      rw [hx] at hAt0 hbt htk
      have HX := Lib.hid htk
      have HKX := Lib.hid (HK.out x hxm wr hW0 (by have := HM.out; omega))
      have HBY := Lib.hid (show ((d.bs ++ bndL (l.take k)).length + x.bnd.length) * 16 ≤ 140737488355328 by
        rw [List.length_append, bndL_len, bnd_len]
        have := HM.out; omega)
      have hki : (k : Int) < (d.pn : Int) := by omega
      have hk9 : (k : Int) ≤ 9223372036854775806 := by have := HP4.out; omega
      obtain ⟨a0, a1, a2, a3, a4, a5, a6, a7⟩ := hAt0
      clear hjl hpA hAtP hpA' hW0 hbt htk hx hxm hb
      go_wp2_with fail
      refine HKX.out.mono ?_
      rintro e w7 ⟨A7, c7', rfl, hr7, hb7⟩
      have HK7 := Lib.hid (And.intro hr7 hb7)
      clear a0 a1 a2 a3 a4 a5 a6 a7 c7 hr7 hb7 HKX
      go_wp2_with (at_builtin; refine wpList_app elStr _ rfl (.tmp 45) (.tmp 51) rfl w2.heap.size u3 (d.bs ++ bndL (l.take k)).length (strs (d.bs ++ bndL (l.take k))) rfl (own_below HOW.out.1 HK7.out.2) A7 x.bnd.length c7' (strs x.bnd) rfl HK7.out.1 (strs_one _) HBY.out (Nat.le_trans HOW.out.2.size HK7.out.2.size) ?_; intro v8 w8 hown8 hb8 hg8 hat8; have H8 := Lib.hid (And.intro hown8 hb8); clear hown8 hb8 hg8 hat8)
      go_roundw
      case rel =>
        refine ⟨k + 1, by go_num, hlt, ?_, HOW.out.2.trans ((HK7.out.2.mono HOW.out.2.size).trans H8.out.2)⟩
        have h := H8.out.1
        rw [← strs_append, ← List.length_append] at h
        rw [HX.out, bndL_app, ← List.append_assoc]
        simpa only [bndL, List.append_nil] using h
      case measure => simp [intOf] <;> omega
    · have hki : ¬ (k : Int) < (d.pn : Int) := by omega
      have hkl : l.take k = l := List.take_of_length_le (by rw [HPN.out]; omega)
      have hown := HOW.out.1
      rw [hkl] at hown
      obtain ⟨A9, c9, hv9, _⟩ := own_cap hown
      rw [hv9] at hown ⊢
      have HR := Lib.hid (Rd.of_own hown)
      clear hown hkl hv9 hb
      go_wp2_with fail
      go_returns
      exact ⟨A9, c9, by rw [show (Ex.mk d l).bnd.length = d.bs.length + (bndL l).length from by simp only [Ex.bnd, List.length_append]]; rfl, HR.out, below_then HB1.out HOW.out.2⟩
/-- The names that are bound. -/
theorem binders_all (w0 : World) (t : Ex) (hI : t.In w0) : ∀ (W : World), Below w0.heap.size w0 W → t.bsN ≤ 4000000 → Calls Tryz.prog 26 #[.agg t.d.arr] W fun e w' => BnR t W e w' := by
  induction hI with
  | mk d l lab nam par cap sub ih => exact fun W hb hm => binders_one w0 d l (.mk d l lab nam par cap sub) (fun x hx => ih x hx) W hb hm
end Go.Proofs.YtaglmmcjhlehjaaGreatDoor

namespace Go.Proofs.YtaglmmcjhlehjaaGreatDoor
open Go.ChangeShapes Go.WideShapes Go.ChangeAt Go.RowKit Go.Sort Go.Maps
set_option linter.unusedVariables false
set_option linter.unusedSimpArgs false

theorem lawStr : Keyed Tryz.prog 9 := string_keyed Tryz.underlying9
theorem keyStr (x : Str) (h : x.length ≤ maxLen) : keyOf Tryz.prog 9 (.string (bstr x)) = some (.string x) := by
  have := Go.WideMaps.keyOf_string_mk (P := Tryz.prog) (k := 9) Tryz.underlying9 (s := bstr x) (by rw [bstr_size]; exact h)
  rw [this, bstr_data]
theorem keyStr_inv {key : Value} {kl : Lit} (h : keyOf Tryz.prog 9 key = some kl) : ∃ x : Str, x.length ≤ maxLen ∧ key = .string (bstr x) ∧ kl = .string x := by
  cases key <;> simp [keyOf, Tryz.underlying9, mapKey] at h
  rename_i s
  obtain ⟨hs, rfl⟩ := h
  refine ⟨s.data.toList, ?_, by rw [bstr_of], rfl⟩
  rw [Array.length_toList]; exact hs

/-- A map's keys, as a set. -/
def MS (w : World) (B n : Nat) (Q : Str → Bool) : Prop := ∃ D, w.ownsMap (H := Unit) Tryz.prog 9 unitElem B n D ∧ ∀ x : Str, x.length ≤ maxLen → Maps.has D (.string x) = Q x
theorem MS.below {w w' : World} {B n : Nat} {Q : Str → Bool} (h : MS w B n Q) (hb : RowKit.Below w.heap.size w w') : MS w' B n Q := by
  obtain ⟨D, h1, h2⟩ := h
  refine ⟨D, ?_, h2⟩
  have hlt := h1.lt
  obtain ⟨es, clock, hh, F, hs, hD⟩ := h1
  exact ⟨es, clock, (hb.block B hlt).trans hh, F, hs, hD⟩
theorem MS.lt {w : World} {B n : Nat} {Q : Str → Bool} (h : MS w B n Q) : B < w.heap.size := by obtain ⟨D, h1, _⟩ := h; exact h1.lt
theorem MS.mono {w : World} {B n n' : Nat} {Q Q' : Str → Bool} (h : MS w B n Q) (hn : n ≤ n') (hQ : ∀ x, x.length ≤ maxLen → Q x = Q' x) : MS w B n' Q' := by
  obtain ⟨D, h1, h2⟩ := h
  exact ⟨D, h1.mono hn, fun x hx => (h2 x hx).trans (hQ x hx)⟩
theorem has_put_str {D : DataW Unit} {x y : Str} (hD : IsMap D) (d : DataW Unit) : Maps.has (D.put (.string x) d) (.string y) = (decide (y = x) || Maps.has D (.string y)) := by
  by_cases h : y = x
  · subst h
    rw [has_put_same (k := .string y) hD trivial d, decide_eq_true rfl]; rfl
  · rw [has_put_other (by intro e; injection e with e; exact h e), decide_eq_false h]; rfl
theorem has_del_str {D : DataW Unit} {x y : Str} : Maps.has (D.del (.string x)) (.string y) = (!decide (y = x) && Maps.has D (.string y)) := by
  by_cases h : y = x
  · subst h
    rw [has_del_same, decide_eq_true rfl]; rfl
  · rw [has_del_other (by intro e; injection e with e; exact h e), decide_eq_false h]; rfl
theorem same_str (x y : Str) : (Lit.string y).sameKey (.string x) = decide (y = x) := by
  show (y == x) = _
  rw [Bool.eq_iff_iff]; simp

/-- Where the joining stands: a's map has what a had, and what of b's has come. -/
structure UN (w0 : World) (Ba Bb r nb N : Nat) (Qa : Str → Bool) (Db : DataW Unit) (left : Lit → Bool) (cnt m : Nat) (w : World) : Prop where
  rg : w.ranges Tryz.prog 9 (unitElem (H := Unit)) Bb r nb Db left cnt
  own : ∃ Da, w.ownsMap (H := Unit) Tryz.prog 9 unitElem Ba m Da ∧ ∀ x : Str, x.length ≤ maxLen → Maps.has Da (.string x) = (Qa x || (Maps.has Db (.string x) && !left (.string x)))
  le : m + cnt ≤ N
  b : ∀ M, M ≤ Ba → M ≤ Bb → M ≤ w0.heap.size → RowKit.Below M w0 w
theorem below_grown_some {w0 w w1 : World} {M j : Nat} (h : RowKit.Below M w0 w) (hg : w.grownBy w1 (some j)) (hj : M ≤ j) (hs : M ≤ w.heap.size) : RowKit.Below M w0 w1 :=
  ⟨hg.os.trans h.os, hg.tape.trans h.tape, hg.output.trans h.output, Nat.le_trans h.size hg.size, fun k hk => (hg.block k (by omega) (fun e => by injection e with e; omega)).trans (h.block k hk)⟩
theorem below_grown_none {w w1 : World} (hg : w.grownBy w1 none) : RowKit.Below w.heap.size w w1 :=
  ⟨hg.os, hg.tape, hg.output, hg.size, fun k hk => hg.block k hk (fun e => by cases e)⟩

theorem UN.start {w w0 : World} {Ba Bb na nb : Nat} {Qa : Str → Bool} {Da Db : DataW Unit} (hA : w.ownsMap (H := Unit) Tryz.prog 9 unitElem Ba na Da) (hQ : ∀ x : Str, x.length ≤ maxLen → Maps.has Da (.string x) = Qa x)
    (hrg : w0.ranges Tryz.prog 9 (unitElem (H := Unit)) Bb w.heap.size nb Db (Maps.has Db) (Maps.size Db)) (hg : w.grownBy w0 none) (hs : Maps.size Db ≤ nb) : UN w Ba Bb w.heap.size nb (na + nb) Qa Db (Maps.has Db) (Maps.size Db) na w0 :=
  ⟨hrg, ⟨Da, hA.kept hg (by simp), fun x hx => by rw [hQ x hx]; cases Maps.has Db (.string x) <;> simp⟩, by omega, fun M h1 h2 h3 => (below_grown_none hg).mono h3⟩
theorem UN.next {w w1 w2 w3 : World} {Ba Bb r nb N cnt cnt' m : Nat} {Qa : Str → Bool} {Db : DataW Unit} {left : Lit → Bool} (h : UN w Ba Bb r nb N Qa Db left cnt m w1) (hr : w.heap.size ≤ r) (hab : Ba ≠ Bb) (har : Ba ≠ r) {x : Str} (hl : left (.string x) = true) (hh : Maps.has Db (.string x) = true)
    (hrg : w2.ranges Tryz.prog 9 (unitElem (H := Unit)) Bb r nb Db (fun z => left z && !z.sameKey (.string x)) cnt') (hlt : cnt' < cnt) (hg : w1.grownBy w2 (some r)) {Da : DataW Unit} (hQ : ∀ y : Str, y.length ≤ maxLen → Maps.has Da (.string y) = (Qa y || (Maps.has Db (.string y) && !left (.string y))))
    (hm : IsMap Da) (ho : w3.ownsMap (H := Unit) Tryz.prog 9 unitElem Ba (m + 1) (Da.put (.string x) (.agg []))) (hg3 : w2.grownBy w3 (some Ba)) :
    UN w Ba Bb r nb N Qa Db (fun z => left z && !z.sameKey (.string x)) cnt' (m + 1) w3 := by
  have hle := h.le
  refine ⟨hrg.kept hg3 (by intro e; injection e with e; exact hab e.symm) (by intro e; injection e with e; exact har e.symm), ⟨_, ho, fun y hy => ?_⟩, by omega, fun M h1 h2 h3 => ?_⟩
  · rw [has_put_str hm, hQ y hy]
    show _ = (Qa y || (Maps.has Db (.string y) && !(left (.string y) && !(Lit.string y).sameKey (.string x))))
    rw [same_str]
    by_cases e : y = x
    · subst e; simp [hl, hh]
    · simp [e]
  · have s1 := (h.b M h1 h2 h3).size
    exact below_grown_some (below_grown_some (h.b M h1 h2 h3) hg (by omega) (by omega)) hg3 h1 (by have := hg.size; omega)

set_option maxRecDepth 100000 in
set_option maxHeartbeats 1000000 in
theorem union_as (sw : Bool) (B1 B2 n1 n2 Ba Bb na nb : Nat) (Q1 Q2 Qa Qb : Str → Bool) (D1 D2 : DataW Unit) (w : World) (hne : B1 ≠ B2) (h1 : ∀ x : Str, x.length ≤ maxLen → Maps.has D1 (.string x) = Q1 x) (h2 : ∀ x : Str, x.length ≤ maxLen → Maps.has D2 (.string x) = Q2 x) (hn : n1 + n2 < maxLen)
    (hD1 : w.ownsMap (H := Unit) Tryz.prog 9 unitElem B1 n1 D1) (hD2 : w.ownsMap (H := Unit) Tryz.prog 9 unitElem B2 n2 D2)
    (hq : decide (Maps.size D1 < Maps.size D2) = sw)
    (hs : (sw = true ∧ Ba = B2 ∧ Bb = B1 ∧ na = n2 ∧ nb = n1 ∧ Qa = Q2 ∧ Qb = Q1) ∨ (sw = false ∧ Ba = B1 ∧ Bb = B2 ∧ na = n1 ∧ nb = n2 ∧ Qa = Q1 ∧ Qb = Q2)) :
    Calls Tryz.prog 57 #[.map (some B1), .map (some B2)] w fun e w' => e = .returned (.map (some Ba)) ∧ MS w' Ba (n1 + n2) (fun x => Q1 x || Q2 x) ∧ ∀ M, M ≤ B1 → M ≤ B2 → M ≤ w.heap.size → RowKit.Below M w w' := by
  -- in words of a and b
  obtain ⟨Da, Db, hA, hB, hQA, hQB, hab, hnn, hfin, hM⟩ : ∃ Da Db, w.ownsMap (H := Unit) Tryz.prog 9 unitElem Ba na Da ∧ w.ownsMap (H := Unit) Tryz.prog 9 unitElem Bb nb Db ∧ (∀ x : Str, x.length ≤ maxLen → Maps.has Da (.string x) = Qa x) ∧ (∀ x : Str, x.length ≤ maxLen → Maps.has Db (.string x) = Qb x) ∧ Ba ≠ Bb ∧ na + nb = n1 + n2 ∧ (∀ x, (Qa x || Qb x) = (Q1 x || Q2 x)) ∧ ∀ M, M ≤ B1 → M ≤ B2 → M ≤ Ba ∧ M ≤ Bb := by
    rcases hs with ⟨_, rfl, rfl, rfl, rfl, rfl, rfl⟩ | ⟨_, rfl, rfl, rfl, rfl, rfl, rfl⟩
    · exact ⟨D2, D1, hD2, hD1, h2, h1, Ne.symm hne, Nat.add_comm _ _, fun x => Bool.or_comm _ _, fun M a b => ⟨b, a⟩⟩
    · exact ⟨D1, D2, hD1, hD2, h1, h2, hne, rfl, fun x => rfl, fun M a b => ⟨a, b⟩⟩
  have l1 := fun ty => hD1.len Tryz.underlying56 ty
  have l2 := fun ty => hD2.len Tryz.underlying56 ty
  have HAB := Lib.hid (And.intro hA (And.intro hB (And.intro hQA (And.intro hQB (And.intro hab (And.intro hnn (And.intro hfin hM)))))))
  have HN := Lib.hid hn
  clear hA hB hQA hQB hab hnn hfin hM hn h1 h2 hD1 hD2 hne
  rcases hs with ⟨rfl, rfl, rfl, rfl, rfl, rfl, rfl⟩ | ⟨rfl, rfl, rfl, rfl, rfl, rfl, rfl⟩
  all_goals
    have hqp := hq
    simp only [decide_eq_true_eq, decide_eq_false_iff_not] at hqp
    go_enter Tryz.func57, Tryz.ntmps57
    go_wp2_with (first
      | (at_range; refine wpList_range_own _ rfl _ 56 rfl 9 57 lawStr Tryz.underlying56 (unitElem (H := Unit)) _ _ _ rfl HAB.out.2.1 ?_; intro w0 hrg0 hg0 hs0)
      | fail)
    have HSB := Lib.hid hrg0.owns.size_le
    have H0 := Lib.hid (UN.start HAB.out.1 HAB.out.2.2.1 hrg0 hg0 (by have := HSB.out; omega))
    clear hrg0 hg0 hs0 l1 l2 hq hqp
    have HRW := Lib.hid (show w.heap.size = w.heap.size from rfl)
    obtain ⟨r, hr⟩ : ∃ r, w.heap.size = r := ⟨_, rfl⟩
    rw [hr] at H0 ⊢
    have HR := Lib.hid (And.intro (Nat.le_of_eq hr) (And.intro (show Ba ≠ r from fun e => by have := HAB.out.1.lt; omega) HAB.out.2.2.2.2.1))
    clear hr
    try go_frame
    go_loopw [5] (fun _ wr => ∃ left cnt m, UN w Ba Bb r nb (na + nb) Qa Db left cnt m wr) (fun _ wr => wr.rangeLeft Bb r)
    case atStart => exact ⟨_, _, _, H0.out⟩
    case round =>
      obtain ⟨left, cnt, m, hU⟩ := hrel
      have HU := Lib.hid hU
      clear hU
      go_wp2_with (first
        | (at_next; refine wpList_next_ranges _ rfl _ rfl 9 lawStr (unitElem (H := Unit)) (fun x : ByteArray => Value.string x) (fun _ : Unit => Value.agg #[]) (fun key kl h => by obtain ⟨x, _, rfl, _⟩ := keyStr_inv h; exact ⟨_, rfl⟩) (fun v y h => ⟨(), (unitElem_inv h).1⟩) Bb r nb _ _ _ rfl HU.out.rg ?_ ?_)
        | fail)
      · intro _ hl0
        have HL0 := Lib.hid hl0
        clear hl0
        go_wp2_with fail
        go_returns
        obtain ⟨D, ho, hQ⟩ := HU.out.own
        have hsz := HU.out.le
        refine ⟨rfl, ⟨D, ho.mono (by omega), fun x hx => ?_⟩, fun M h1 h2 h3 => HU.out.b M (by omega) (by omega) h3⟩
        rw [hQ x hx, HL0.out, HAB.out.2.2.2.1 x hx]
        first | (simp; done) | (simp; exact Bool.or_comm _ _)
      · intro x c kl y w1 cnt1 hkey hlx hy hat hrg1 hlt hg1 hs1 hen
        obtain ⟨xs, hxs, hx1, rfl⟩ := keyStr_inv hkey
        injection hx1 with hx1
        subst hx1
        have hh := has_true_of_atKey hat
        obtain ⟨Da2, hown, hQ⟩ := HU.out.own
        have hcnt := HU.out.le
        obtain ⟨w3, hrun, hown3, hg3⟩ := (hown.kept hg1 (by intro e; injection e with e; exact HR.out.2.1 e)).update lawStr Tryz.underlying56 (by have := HN.out; omega) (keyStr xs hxs) (unitElem_mk (H := Unit))
        have HX := Lib.hid (HU.out.next HR.out.1 HR.out.2.2 HR.out.2.1 hlx hh hrg1 hlt hg1 hQ hown.isMap hown3 hg3)
        have HM := Lib.hid (And.intro hrg1 hlt)
        clear hkey hlx hy hat hrg1 hlt hg1 hs1 hh hown hQ hcnt hown3 hg3
        go_wp2_with fail
        go_roundw
        case rel => exact ⟨_, cnt1, m + 1, HX.out⟩
        case measure => rw [HX.out.rg.left_eq, HU.out.rg.left_eq]; exact HM.out.2

theorem union_any (B1 B2 n1 n2 : Nat) (Q1 Q2 : Str → Bool) (w : World) (hne : B1 ≠ B2) (h1 : MS w B1 n1 Q1) (h2 : MS w B2 n2 Q2) (hn : n1 + n2 < maxLen) :
    Calls Tryz.prog 57 #[.map (some B1), .map (some B2)] w fun e w' => ∃ B, e = .returned (.map (some B)) ∧ (B = B1 ∨ B = B2) ∧ MS w' B (n1 + n2) (fun x => Q1 x || Q2 x) ∧ ∀ M, M ≤ B1 → M ≤ B2 → M ≤ w.heap.size → RowKit.Below M w w' := by
  obtain ⟨D1, hD1, hQ1⟩ := h1
  obtain ⟨D2, hD2, hQ2⟩ := h2
  cases hq : decide (Maps.size D1 < Maps.size D2) with
  | true => exact (union_as true B1 B2 n1 n2 B2 B1 n2 n1 Q1 Q2 Q2 Q1 D1 D2 w hne hQ1 hQ2 hn hD1 hD2 hq (.inl ⟨rfl, rfl, rfl, rfl, rfl, rfl, rfl⟩)).mono fun e w' ⟨a, b, c⟩ => ⟨B2, a, .inr rfl, b, c⟩
  | false => exact (union_as false B1 B2 n1 n2 B1 B2 n1 n2 Q1 Q2 Q1 Q2 D1 D2 w hne hQ1 hQ2 hn hD1 hD2 hq (.inr ⟨rfl, rfl, rfl, rfl, rfl, rfl, rfl⟩)).mono fun e w' ⟨a, b, c⟩ => ⟨B1, a, .inl rfl, b, c⟩
end Go.Proofs.YtaglmmcjhlehjaaGreatDoor

namespace Go.Proofs.YtaglmmcjhlehjaaGreatDoor
open Go.ChangeShapes Go.WideShapes Go.ChangeAt Go.RowKit Go.Sort Go.Maps
open Go.ChangeMaps (setBlock heap_setBlock_same heap_setBlock_other)
set_option linter.unusedVariables false
set_option linter.unusedSimpArgs false

theorem turned_cell {w w' : World} {b : Nat} (h : w.mapTurned w' b) (p : Addr) : w'.cell? p = w.cell? p := by
  obtain ⟨es, clock, es', clock', hb, rfl⟩ := h
  unfold World.cell?
  by_cases e : p.block = b
  · rw [e, heap_setBlock_same hb, hb]
  · rw [heap_setBlock_other hb _ e]
theorem turned_below {a w w' : World} {b M : Nat} (h : w.mapTurned w' b) (hb : RowKit.Below M a w) (hM : M ≤ b) (hs : M ≤ a.heap.size) : RowKit.Below M a w' :=
  below_grown_some hb h.grown hM (Nat.le_trans hs hb.size)
theorem MS.del {w : World} {B n : Nat} {Q : Str → Bool} {D : DataW Unit} {x : Str} (h : w.ownsMap (H := Unit) Tryz.prog 9 unitElem B n (D.del (.string x))) (hQ : ∀ y : Str, y.length ≤ maxLen → Maps.has D (.string y) = Q y) : MS w B n (fun y => !decide (y = x) && Q y) :=
  ⟨_, h, fun y hy => by rw [has_del_str, hQ y hy]⟩
theorem MS.kept {w w' : World} {B Bp n : Nat} {Q : Str → Bool} (h : MS w B n Q) (ht : w.mapTurned w' Bp) (hne : B ≠ Bp) : MS w' B n Q := by
  obtain ⟨D, h1, h2⟩ := h
  exact ⟨D, h1.kept ht.grown (by intro e; injection e with e; exact hne e), h2⟩
theorem boundF_len {d : ExD} (hs : d.s.length ≤ 9223372036854775807) (ht : d.t.length ≤ 9223372036854775807) (hn : ∀ s ∈ d.names, s.length ≤ 9223372036854775807) (i : Nat) : ∀ y ∈ d.boundF i, y.length ≤ 9223372036854775807 := by
  intro y hy
  unfold ExD.boundF at hy
  split at hy
  · simp at hy; rw [hy]; exact hs
  split at hy
  · simp at hy; rcases hy with h | h
    · rw [h]; exact hs
    · rw [h]; exact ht
  split at hy
  · simp at hy; rw [hy]; exact ht
  split at hy
  · exact hn y (List.mem_of_mem_drop (List.mem_of_mem_take hy))
  · simp at hy
theorem MS.own {d : ExD} {w2 : World} {B n : Nat} (h : d.kind = 3) (hs : d.s.length ≤ maxLen) (h2 : w2.ownsMap (H := Unit) Tryz.prog 9 unitElem B n ((DataW.map []).put (.string d.s) (.agg []))) : MS w2 B n (fun x => decide (d.kind = 3) && decide (x = d.s)) :=
  ⟨_, h2, fun x hx => by rw [has_put_str (D := .map []) (by first | trivial | exact ⟨_, rfl⟩), decide_eq_true h]; show (decide (x = d.s) || false) = _; simp⟩
theorem MS.none {d : ExD} {w2 : World} {B n : Nat} (h : ¬ d.kind = 3) (h2 : w2.ownsMap (H := Unit) Tryz.prog 9 unitElem B n (.map [])) : MS w2 B n (fun x => decide (d.kind = 3) && decide (x = d.s)) :=
  ⟨_, h2, fun x hx => by rw [decide_eq_false h]; rfl⟩

set_option maxRecDepth 100000 in
set_option maxHeartbeats 2000000 in
theorem free_any (w0 : World) (t : Ex) (hIn : t.In w0) :
    ∀ (b o : Nat) (w : World), t.d.At w0 b o → Below w0.heap.size w0 w → t.nodes ≤ 4000000 →
    Calls Tryz.prog 31 #[.pointer (some ⟨b, o, none⟩)] w fun e w' => ∃ B, e = .returned (.map (some B)) ∧ w.heap.size ≤ B ∧ MS w' B t.nodes t.freeB ∧ Below w.heap.size w w' := by
  induction hIn with
  | mk d l lab nam par cap sub ih =>
  intro b o w hAt0 hb hnd
  have hAt : d.At w b o := (show d.At w0 b o from hAt0).lower hb
  have hII : (Ex.mk d l).In w0 := .mk d l lab nam par cap sub
  have hlen : l.length = d.pn := by have := par.1; rw [flat_len Ex.cells_len] at this; omega
  have c0 := hAt.c0
  have c3 := hAt.c3
  have hbm : Below w.heap.size w (w.alloc (.map #[] 0)) := (Below.refl _ _).alloc (Nat.le_refl _) _
  have c0m := cell_below hbm c0
  have c3m := cell_below hbm c3
  have hown0 := World.ownsMap_made (H := Unit) w Tryz.prog 9 unitElem
  have hsl : d.s.length ≤ maxLen := by
    have := cap.2.2.2.1
    have e : (9223372036854775807 : Nat) ≤ maxLen := by decide
    omega
  have hmm := @run_makeMap Tryz.prog
  by_cases hk : d.kind = 3
  · obtain ⟨w2, hrun, hown2, hg2⟩ := hown0.update lawStr Tryz.underlying56 (by decide) (keyStr d.s hsl) (unitElem_mk (H := Unit))
    have hbw : Below w.heap.size w w2 := below_grown_some hbm hg2 (Nat.le_refl _) hbm.size
    have HX := Lib.hid (And.intro (MS.own hk hsl hown2) hbw)
    have hkb : (d.kind == 3) = true := by simpa using hk
    clear hown0 hown2 hg2 hbw hk hsl hbm c0 c3
    have c7 := (hAt.lower HX.out.2).c7
    go_enter Tryz.func31, Tryz.ntmps31
    go_wp2_with fail
    clear hmm hrun c0m c3m hkb c7
    have HAll := Lib.hid (And.intro hb (And.intro hAt (And.intro hAt0 (And.intro hII (And.intro hlen hnd)))))
    have HCAP := Lib.hid cap
    have HIH := Lib.hid (And.intro sub ih)
    clear hb hAt hAt0 hII hlen hnd lab nam par cap sub ih
    try go_frame
    go_loopw [25, 3] (fun i a wr => ∃ m B : Nat, i = .int .i64 m ∧ a = .map (some B) ∧ m ≤ d.pn ∧ w.heap.size ≤ B ∧ MS wr B (1 + enodesL (l.take m)) (fun x => (decide (d.kind = 3) && decide (x = d.s)) || freeLB d (l.take m) 0 x) ∧ Below w.heap.size w wr) (fun i _ _ => d.pn - (intOf i).toNat)
    case atStart => exact ⟨0, w.heap.size, rfl, rfl, Nat.zero_le _, Nat.le_refl _, HX.out.1.mono (by omega) (fun x _ => by simp [freeLB]), HX.out.2⟩
    case round =>
      obtain ⟨m, B, rfl, rfl, hm, hB, hMS, hbr⟩ := hrel
      have HJ := Lib.hid (And.intro hB (And.intro hMS hbr))
      clear hB hMS hbr
      by_cases hlt : m < d.pn
      · have hml : m < l.length := by rw [HAll.out.2.2.2.2.1]; exact hlt
        have hb0 : Below w0.heap.size w0 wr := HAll.out.1.trans (HJ.out.2.2.mono HAll.out.1.size)
        obtain ⟨pb, po, hpA, hAtP⟩ := HAll.out.2.2.2.1.part (k := m) hml
        have hpA' : d.pA = some ⟨pb, po, none⟩ := hpA
        have hAtM : (l[m]).d.At w0 pb (po + m * 8) := hAtP m hml
        have c7 := (HAll.out.2.1.lower HJ.out.2.2).c7
        rw [hpA'] at c7
        have hlti : (m : Int) < (d.pn : Int) := by omega
        have hmi : (m : Int) ≤ 9223372036854775806 := by have := HCAP.out.2.2.1.2.2; omega
        obtain ⟨x, hx⟩ : ∃ x, l[m] = x := ⟨_, rfl⟩
        rw [hx] at hAtM
        have hxm : x ∈ l := by rw [← hx]; exact List.getElem_mem hml
        have htk : l.take (m + 1) = l.take m ++ [x] := by rw [List.take_succ_eq_append_getElem hml, hx]
        have hnx : 1 + enodesL (l.take m) + x.nodes ≤ 4000000 := by
          have h1 := enodesL_take l (m + 1)
          rw [htk, enodesL_snoc] at h1
          have h2 := HAll.out.2.2.2.2.2
          simp only [Ex.nodes] at h2
          omega
        have HM := Lib.hid (HIH.out.2 x hxm pb (po + m * 8) wr hAtM hb0 (by omega))
        have HS := Lib.hid (And.intro htk (And.intro hnx (And.intro hb0 (And.intro hlt hml))))
        clear hpA hpA' hAtP hAtM hx hxm htk hnx hml hb0
        go_wp2_with fail
        refine HM.out.mono ?_
        rintro e w3 ⟨Bp, rfl, hBp, hMp, hb3⟩
        have hb3w : Below w.heap.size w w3 := HJ.out.2.2.trans (hb3.mono HJ.out.2.2.size)
        have HBD := Lib.hid (bound_any d l b o m (by omega) w3 (HAll.out.2.1.lower hb3w) (HAll.out.2.2.2.1.lower (HS.out.2.2.1.trans (hb3.mono HS.out.2.2.1.size))))
        have H3 := Lib.hid (And.intro hBp (And.intro hMp (And.intro hb3 hb3w)))
        clear HM hBp hMp hb3 hb3w c7
        go_wp2_with fail
        refine HBD.out.mono ?_
        rintro e w4 ⟨A, n, c, rfl, hrd, hn4, hb4⟩
        have hBne : B ≠ Bp := by have := HJ.out.2.1.lt; have := H3.out.1; omega
        have hBp' : w.heap.size ≤ Bp := by have := H3.out.1; have := HJ.out.2.2.size; omega
        have hbl := boundF_len HCAP.out.2.2.2.1 HCAP.out.2.2.2.2.1 HCAP.out.2.2.2.2.2.2 m
        obtain ⟨bd, hbd⟩ : ∃ bd, d.boundF m = bd := ⟨_, rfl⟩
        rw [hbd] at hrd hbl
        have hln : bd.length = n := rd_len hrd
        have HB4 := Lib.hid (And.intro hrd (And.intro hb4 (And.intro hBne (And.intro hBp' (And.intro hbl (And.intro hbd hln))))))
        clear HBD hrd hb4 hBne hBp' hbl hbd hln
        go_wp2_with fail
        try go_frame
        go_loopw [39] (fun i wq => ∃ k : Nat, i = .int .i64 k ∧ k ≤ n ∧ MS wq Bp x.nodes (fun y => x.freeB y && !decide (y ∈ bd.take k)) ∧ MS wq B (1 + enodesL (l.take m)) (fun y => (decide (d.kind = 3) && decide (y = d.s)) || freeLB d (l.take m) 0 y) ∧ Rd wq 1 A n (strs bd) ∧ Below w.heap.size w wq) (fun i _ => n - (intOf i).toNat)
        case atStart => exact ⟨0, rfl, Nat.zero_le _, (H3.out.2.1.below HB4.out.2.1).mono (Nat.le_refl _) (fun y _ => by simp), (HJ.out.2.1.below H3.out.2.2.1).below HB4.out.2.1, HB4.out.1, H3.out.2.2.2.trans (HB4.out.2.1.mono H3.out.2.2.2.size)⟩
        case round =>
          obtain ⟨k, rfl, hk, hMp, hMB, hrd, hbk⟩ := hrel
          have HK := Lib.hid (And.intro hMB (And.intro hrd hbk))
          by_cases hkn : k < n
          · have hkl : k < bd.length := by rw [HB4.out.2.2.2.2.2.2]; exact hkn
            obtain ⟨ab, ao, rfl, hcs⟩ := hrd.str hkl
            have hc := hcs k hkl
            have hkni : (k : Int) < (n : Int) := by omega
            have hki : (k : Int) ≤ 4000000 := by omega
            obtain ⟨s, hs⟩ : ∃ s, bd[k] = s := ⟨_, rfl⟩
            rw [hs] at hc
            have hsl : s.length ≤ maxLen := by
              have := HB4.out.2.2.2.2.1 s (by rw [← hs]; exact List.getElem_mem hkl)
              have e : (9223372036854775807 : Nat) ≤ maxLen := by decide
              omega
            have htk : bd.take (k + 1) = bd.take k ++ [s] := by rw [List.take_succ_eq_append_getElem hkl, hs]
            obtain ⟨Dp, hown, hQp⟩ := hMp
            have HD := Lib.hid (And.intro hown (And.intro hQp (And.intro hsl htk)))
            clear hMB hrd hbk hcs hs hown hQp hsl htk hkl
            go_wp2_with (first
              | (at_delete; refine wpList_delete_own _ rfl _ _ 56 9 rfl _ lawStr Tryz.underlying56 _ Bp _ Dp rfl HD.out.1 _ _ rfl (keyStr s HD.out.2.2.1) ?_; intro w5 hown5 hturn5)
              | fail)
            have H5 := Lib.hid (And.intro hown5 hturn5)
            clear hown5 hturn5
            go_wp2_with fail
            go_roundw
            case rel =>
              refine ⟨k + 1, by go_num, hkn, ?_, HK.out.1.kept H5.out.2 HB4.out.2.2.1, HK.out.2.1.keep (fun p _ => turned_cell H5.out.2 p), turned_below H5.out.2 HK.out.2.2 HB4.out.2.2.2.1 (Nat.le_refl _)⟩
              refine (MS.del H5.out.1 HD.out.2.1).mono (Nat.le_refl _) (fun y _ => ?_)
              rw [HD.out.2.2.2]
              by_cases e : y = s
              · subst e; simp
              · simp [e]
            case measure => simp [intOf] <;> omega
          · have hkni : ¬ (k : Int) < (n : Int) := by omega
            have hkk : k = n := by omega
            have htk : bd.take k = bd := List.take_of_length_le (by rw [HB4.out.2.2.2.2.2.2]; omega)
            rw [htk] at hMp
            have HUN := Lib.hid (union_any B Bp (1 + enodesL (l.take m)) x.nodes _ _ _ HB4.out.2.2.1 hMB hMp (by have := HS.out.2.1; have e : (4000000 : Nat) < maxLen := (by decide); omega))
            clear hMp hMB hrd hbk htk hkk
            go_wp2_with fail
            refine HUN.out.mono ?_
            rintro e w6 ⟨B', rfl, hB', hMS', hbu⟩
            have H6 := Lib.hid (And.intro hB' (And.intro hMS' (hbu w.heap.size HJ.out.1 HB4.out.2.2.2.1 HK.out.2.2.size)))
            clear HUN hB' hMS' hbu
            go_wp2_with fail
            go_roundw
            case rel =>
              refine ⟨m + 1, B', by go_num, rfl, HS.out.2.2.2.1, ?_, ?_, HK.out.2.2.trans H6.out.2.2⟩
              · have := H6.out.1
                have := HJ.out.1
                have := HB4.out.2.2.2.1
                rcases H6.out.1 with h | h <;> omega
              · refine H6.out.2.1.mono (by rw [HS.out.1, enodesL_snoc]; omega) (fun y _ => ?_)
                rw [HS.out.1, freeLB_snoc, List.length_take, Nat.zero_add, Nat.min_eq_left (Nat.le_of_lt HS.out.2.2.2.2), HB4.out.2.2.2.2.2.1, Bool.or_assoc]
            case measure => simp [intOf] <;> omega
      · have hlti : ¬ (m : Int) < (d.pn : Int) := by omega
        go_wp2_with fail
        go_returns
        have hmm : l.take m = l := List.take_of_length_le (by rw [HAll.out.2.2.2.2.1]; omega)
        have hq := HJ.out.2.1
        rw [hmm] at hq
        exact ⟨B, rfl, HJ.out.1, hq.mono (by simp [Ex.nodes]) (fun x _ => by simp [Ex.freeB]), HJ.out.2.2⟩
  · have HX := Lib.hid (And.intro (MS.none (d := d) hk (hown0.mono (Nat.zero_le 1))) hbm)
    have hkb : (d.kind == 3) = false := by simpa using hk
    clear hown0 hk hsl hbm c0 c3
    have c7 := (hAt.lower HX.out.2).c7
    go_enter Tryz.func31, Tryz.ntmps31
    go_wp2_with fail
    clear hmm c0m c3m hkb c7
    have HAll := Lib.hid (And.intro hb (And.intro hAt (And.intro hAt0 (And.intro hII (And.intro hlen hnd)))))
    have HCAP := Lib.hid cap
    have HIH := Lib.hid (And.intro sub ih)
    clear hb hAt hAt0 hII hlen hnd lab nam par cap sub ih
    try go_frame
    go_loopw [25, 3] (fun i a wr => ∃ m B : Nat, i = .int .i64 m ∧ a = .map (some B) ∧ m ≤ d.pn ∧ w.heap.size ≤ B ∧ MS wr B (1 + enodesL (l.take m)) (fun x => (decide (d.kind = 3) && decide (x = d.s)) || freeLB d (l.take m) 0 x) ∧ Below w.heap.size w wr) (fun i _ _ => d.pn - (intOf i).toNat)
    case atStart => exact ⟨0, w.heap.size, rfl, rfl, Nat.zero_le _, Nat.le_refl _, HX.out.1.mono (by omega) (fun x _ => by simp [freeLB]), HX.out.2⟩
    case round =>
      obtain ⟨m, B, rfl, rfl, hm, hB, hMS, hbr⟩ := hrel
      have HJ := Lib.hid (And.intro hB (And.intro hMS hbr))
      clear hB hMS hbr
      by_cases hlt : m < d.pn
      · have hml : m < l.length := by rw [HAll.out.2.2.2.2.1]; exact hlt
        have hb0 : Below w0.heap.size w0 wr := HAll.out.1.trans (HJ.out.2.2.mono HAll.out.1.size)
        obtain ⟨pb, po, hpA, hAtP⟩ := HAll.out.2.2.2.1.part (k := m) hml
        have hpA' : d.pA = some ⟨pb, po, none⟩ := hpA
        have hAtM : (l[m]).d.At w0 pb (po + m * 8) := hAtP m hml
        have c7 := (HAll.out.2.1.lower HJ.out.2.2).c7
        rw [hpA'] at c7
        have hlti : (m : Int) < (d.pn : Int) := by omega
        have hmi : (m : Int) ≤ 9223372036854775806 := by have := HCAP.out.2.2.1.2.2; omega
        obtain ⟨x, hx⟩ : ∃ x, l[m] = x := ⟨_, rfl⟩
        rw [hx] at hAtM
        have hxm : x ∈ l := by rw [← hx]; exact List.getElem_mem hml
        have htk : l.take (m + 1) = l.take m ++ [x] := by rw [List.take_succ_eq_append_getElem hml, hx]
        have hnx : 1 + enodesL (l.take m) + x.nodes ≤ 4000000 := by
          have h1 := enodesL_take l (m + 1)
          rw [htk, enodesL_snoc] at h1
          have h2 := HAll.out.2.2.2.2.2
          simp only [Ex.nodes] at h2
          omega
        have HM := Lib.hid (HIH.out.2 x hxm pb (po + m * 8) wr hAtM hb0 (by omega))
        have HS := Lib.hid (And.intro htk (And.intro hnx (And.intro hb0 (And.intro hlt hml))))
        clear hpA hpA' hAtP hAtM hx hxm htk hnx hml hb0
        go_wp2_with fail
        refine HM.out.mono ?_
        rintro e w3 ⟨Bp, rfl, hBp, hMp, hb3⟩
        have hb3w : Below w.heap.size w w3 := HJ.out.2.2.trans (hb3.mono HJ.out.2.2.size)
        have HBD := Lib.hid (bound_any d l b o m (by omega) w3 (HAll.out.2.1.lower hb3w) (HAll.out.2.2.2.1.lower (HS.out.2.2.1.trans (hb3.mono HS.out.2.2.1.size))))
        have H3 := Lib.hid (And.intro hBp (And.intro hMp (And.intro hb3 hb3w)))
        clear HM hBp hMp hb3 hb3w c7
        go_wp2_with fail
        refine HBD.out.mono ?_
        rintro e w4 ⟨A, n, c, rfl, hrd, hn4, hb4⟩
        have hBne : B ≠ Bp := by have := HJ.out.2.1.lt; have := H3.out.1; omega
        have hBp' : w.heap.size ≤ Bp := by have := H3.out.1; have := HJ.out.2.2.size; omega
        have hbl := boundF_len HCAP.out.2.2.2.1 HCAP.out.2.2.2.2.1 HCAP.out.2.2.2.2.2.2 m
        obtain ⟨bd, hbd⟩ : ∃ bd, d.boundF m = bd := ⟨_, rfl⟩
        rw [hbd] at hrd hbl
        have hln : bd.length = n := rd_len hrd
        have HB4 := Lib.hid (And.intro hrd (And.intro hb4 (And.intro hBne (And.intro hBp' (And.intro hbl (And.intro hbd hln))))))
        clear HBD hrd hb4 hBne hBp' hbl hbd hln
        go_wp2_with fail
        try go_frame
        go_loopw [39] (fun i wq => ∃ k : Nat, i = .int .i64 k ∧ k ≤ n ∧ MS wq Bp x.nodes (fun y => x.freeB y && !decide (y ∈ bd.take k)) ∧ MS wq B (1 + enodesL (l.take m)) (fun y => (decide (d.kind = 3) && decide (y = d.s)) || freeLB d (l.take m) 0 y) ∧ Rd wq 1 A n (strs bd) ∧ Below w.heap.size w wq) (fun i _ => n - (intOf i).toNat)
        case atStart => exact ⟨0, rfl, Nat.zero_le _, (H3.out.2.1.below HB4.out.2.1).mono (Nat.le_refl _) (fun y _ => by simp), (HJ.out.2.1.below H3.out.2.2.1).below HB4.out.2.1, HB4.out.1, H3.out.2.2.2.trans (HB4.out.2.1.mono H3.out.2.2.2.size)⟩
        case round =>
          obtain ⟨k, rfl, hk, hMp, hMB, hrd, hbk⟩ := hrel
          have HK := Lib.hid (And.intro hMB (And.intro hrd hbk))
          by_cases hkn : k < n
          · have hkl : k < bd.length := by rw [HB4.out.2.2.2.2.2.2]; exact hkn
            obtain ⟨ab, ao, rfl, hcs⟩ := hrd.str hkl
            have hc := hcs k hkl
            have hkni : (k : Int) < (n : Int) := by omega
            have hki : (k : Int) ≤ 4000000 := by omega
            obtain ⟨s, hs⟩ : ∃ s, bd[k] = s := ⟨_, rfl⟩
            rw [hs] at hc
            have hsl : s.length ≤ maxLen := by
              have := HB4.out.2.2.2.2.1 s (by rw [← hs]; exact List.getElem_mem hkl)
              have e : (9223372036854775807 : Nat) ≤ maxLen := by decide
              omega
            have htk : bd.take (k + 1) = bd.take k ++ [s] := by rw [List.take_succ_eq_append_getElem hkl, hs]
            obtain ⟨Dp, hown, hQp⟩ := hMp
            have HD := Lib.hid (And.intro hown (And.intro hQp (And.intro hsl htk)))
            clear hMB hrd hbk hcs hs hown hQp hsl htk hkl
            go_wp2_with (first
              | (at_delete; refine wpList_delete_own _ rfl _ _ 56 9 rfl _ lawStr Tryz.underlying56 _ Bp _ Dp rfl HD.out.1 _ _ rfl (keyStr s HD.out.2.2.1) ?_; intro w5 hown5 hturn5)
              | fail)
            have H5 := Lib.hid (And.intro hown5 hturn5)
            clear hown5 hturn5
            go_wp2_with fail
            go_roundw
            case rel =>
              refine ⟨k + 1, by go_num, hkn, ?_, HK.out.1.kept H5.out.2 HB4.out.2.2.1, HK.out.2.1.keep (fun p _ => turned_cell H5.out.2 p), turned_below H5.out.2 HK.out.2.2 HB4.out.2.2.2.1 (Nat.le_refl _)⟩
              refine (MS.del H5.out.1 HD.out.2.1).mono (Nat.le_refl _) (fun y _ => ?_)
              rw [HD.out.2.2.2]
              by_cases e : y = s
              · subst e; simp
              · simp [e]
            case measure => simp [intOf] <;> omega
          · have hkni : ¬ (k : Int) < (n : Int) := by omega
            have hkk : k = n := by omega
            have htk : bd.take k = bd := List.take_of_length_le (by rw [HB4.out.2.2.2.2.2.2]; omega)
            rw [htk] at hMp
            have HUN := Lib.hid (union_any B Bp (1 + enodesL (l.take m)) x.nodes _ _ _ HB4.out.2.2.1 hMB hMp (by have := HS.out.2.1; have e : (4000000 : Nat) < maxLen := (by decide); omega))
            clear hMp hMB hrd hbk htk hkk
            go_wp2_with fail
            refine HUN.out.mono ?_
            rintro e w6 ⟨B', rfl, hB', hMS', hbu⟩
            have H6 := Lib.hid (And.intro hB' (And.intro hMS' (hbu w.heap.size HJ.out.1 HB4.out.2.2.2.1 HK.out.2.2.size)))
            clear HUN hB' hMS' hbu
            go_wp2_with fail
            go_roundw
            case rel =>
              refine ⟨m + 1, B', by go_num, rfl, HS.out.2.2.2.1, ?_, ?_, HK.out.2.2.trans H6.out.2.2⟩
              · have := H6.out.1
                have := HJ.out.1
                have := HB4.out.2.2.2.1
                rcases H6.out.1 with h | h <;> omega
              · refine H6.out.2.1.mono (by rw [HS.out.1, enodesL_snoc]; omega) (fun y _ => ?_)
                rw [HS.out.1, freeLB_snoc, List.length_take, Nat.zero_add, Nat.min_eq_left (Nat.le_of_lt HS.out.2.2.2.2), HB4.out.2.2.2.2.2.1, Bool.or_assoc]
            case measure => simp [intOf] <;> omega
      · have hlti : ¬ (m : Int) < (d.pn : Int) := by omega
        go_wp2_with fail
        go_returns
        have hmm : l.take m = l := List.take_of_length_le (by rw [HAll.out.2.2.2.2.1]; omega)
        have hq := HJ.out.2.1
        rw [hmm] at hq
        exact ⟨B, rfl, HJ.out.1, hq.mono (by simp [Ex.nodes]) (fun x _ => by simp [Ex.freeB]), HJ.out.2.2⟩
end Go.Proofs.YtaglmmcjhlehjaaGreatDoor

namespace Go.Proofs.YtaglmmcjhlehjaaGreatDoor
open Go.ChangeShapes Go.WideShapes Go.ChangeAt Go.RowKit Go.Sort Go.Maps
set_option linter.unusedVariables false
set_option linter.unusedSimpArgs false

theorem mem_keys {w : World} {B n : Nat} {D : DataW Unit} (h : w.ownsMap (H := Unit) Tryz.prog 9 unitElem B n D) (x : Str) : x ∈ strKeys D ↔ Maps.has D (.string x) = true := by
  obtain ⟨es, rfl, hk⟩ := h.keysOf
  rw [has_eq, List.any_eq_true]
  show x ∈ es.map (fun p => strOf p.1) ↔ _
  rw [List.mem_map]
  constructor
  · rintro ⟨p, hp, e⟩
    obtain ⟨v, hv⟩ := hk p hp
    obtain ⟨y, _, _, hy⟩ := keyStr_inv hv
    refine ⟨p, hp, ?_⟩
    rw [hy] at e ⊢
    have : y = x := e
    rw [this, same_str]; simp
  · rintro ⟨p, hp, e⟩
    obtain ⟨v, hv⟩ := hk p hp
    obtain ⟨y, _, _, hy⟩ := keyStr_inv hv
    refine ⟨p, hp, ?_⟩
    rw [hy, same_str] at e
    rw [hy]
    exact (of_decide_eq_true e)

theorem keys_nodup {w : World} {B n : Nat} {D : DataW Unit} (h : w.ownsMap (H := Unit) Tryz.prog 9 unitElem B n D) : (strKeys D).Nodup := by
  obtain ⟨es, rfl, hpw⟩ := h.tidy lawStr
  obtain ⟨es', he, hk⟩ := h.keysOf
  injection he with he
  subst he
  show (es.map fun p => strOf p.1).Nodup
  refine List.pairwise_map.2 (hpw.imp_of_mem fun {p q} hp hq hne e => hne ?_)
  obtain ⟨v, hv⟩ := hk p hp
  obtain ⟨y, _, _, hy⟩ := keyStr_inv hv
  obtain ⟨v', hv'⟩ := hk q hq
  obtain ⟨y', _, _, hy'⟩ := keyStr_inv hv'
  rw [hy, hy'] at e ⊢
  exact congrArg _ e

/-- Free: a list of the free names. -/
def FrR (t : Ex) (w : World) (e : Ending) (w' : World) : Prop := ∃ A n c ss, e = .returned (.slice A n c) ∧ Rd w' 1 A n (strs ss) ∧ n ≤ 4000000 ∧ (∀ x ∈ ss, t.freeB x = true ∧ x.length ≤ maxLen) ∧ (∀ x : Str, x.length ≤ maxLen → t.freeB x = true → x ∈ ss) ∧ Below w.heap.size w w' ∧ ss.Nodup

set_option maxRecDepth 100000 in
set_option maxHeartbeats 2000000 in
theorem Free_any (t : Ex) (w : World) (hIn : t.In w) (hnd : t.nodes ≤ 4000000) :
    Calls Tryz.prog 10 #[.agg t.d.arr] w fun e w' => FrR t w e w' := by
  have hb1 : Below w.heap.size w (w.alloc (.cells t.d.arr 25)) := (Below.refl _ _).alloc (Nat.le_refl _) _
  have HM := Lib.hid (free_any _ t (hIn.lower hb1) w.heap.size 0 _ (ex_box w t.d) (Below.refl _ _) hnd)
  have HB := Lib.hid hb1
  have HND := Lib.hid hnd
  clear hb1 hIn hnd
  go_enter Tryz.func10, Tryz.ntmps10
  go_wp2_with fail
  refine HM.out.mono ?_
  rintro e w1 ⟨B, rfl, hB, ⟨D, hown, hQ⟩, hb⟩
  have HK := Lib.hid (callsIn_wide.1 (Tryz.maps_Keys_30 (some B) w1))
  have hsz : Maps.size D ≤ 4000000 := Nat.le_trans hown.size_le HND.out
  have e4 : (4000000 : Nat) ≤ maxLen := by decide
  have HS := Lib.hid (callsIn_wide.1 (Tryz.slices_Sorted_keys_29_30 B t.nodes D unitElem w1 hown (Nat.le_trans hsz e4) (by omega)))
  have H1 := Lib.hid (And.intro hown (And.intro hQ (And.intro hb hsz)))
  clear HM hB hown hQ hb hsz e4
  go_wp2_with fail
  refine HK.out.mono ?_
  rintro e w2 ⟨rfl, rfl⟩
  go_wp2_with fail
  refine HS.out.mono ?_
  rintro e w3 ⟨v, ss, rfl, hp, hrow, _, hb3⟩
  obtain ⟨A, c, rfl, _⟩ := own_cap hrow
  have hb2 : Below w1.heap.size w1 (w1.alloc (.cells #[.map (some B)] 56)) := (Below.refl _ _).alloc (Nat.le_refl _) _
  have hmem : ∀ x, x ∈ (ss.mergeSort (fun x y => decide (x ≤ y)) : List Str) ↔ Maps.has D (.string x) = true := fun x => ((List.mergeSort_perm ss _).mem_iff.trans hp.mem_iff).trans (mem_keys H1.out.1 x)
  have hle := strKeys_le H1.out.1 Tryz.underlying9
  have hpl : ss.length ≤ 4000000 := by
    have := hp.length_eq
    obtain ⟨es, he, _⟩ := H1.out.1.keysOf
    have h2 := H1.out.2.2.2
    rw [he] at this h2
    rw [this]
    simpa [strKeys, Maps.size] using h2
  have hbw : Below w.heap.size w w3 := HB.out.trans ((H1.out.2.2.1.trans (hb2.mono H1.out.2.2.1.size) |>.trans (hb3.mono (Nat.le_trans H1.out.2.2.1.size hb2.size))).mono HB.out.size)
  have HF := Lib.hid (show FrR t w (.returned (.slice A ss.length c)) w3 from ⟨A, ss.length, c, ss.mergeSort (fun x y => decide (x ≤ y)), rfl, Rd.of_own hrow, hpl, fun x hx => by
      have hl : x.length ≤ maxLen := hle x (((List.mergeSort_perm ss _).mem_iff.trans hp.mem_iff).1 hx)
      exact ⟨by rw [← H1.out.2.1 x hl]; exact (hmem x).1 hx, hl⟩, fun x hl hx => (hmem x).2 (by rw [H1.out.2.1 x hl]; exact hx), hbw, (List.mergeSort_perm ss _).nodup_iff.2 (hp.nodup_iff.2 (keys_nodup H1.out.1))⟩)
  clear hp hrow hb3 hb2 hmem hle hpl hbw
  go_wp2_with fail
  go_returns
  exact HF.out

set_option maxRecDepth 100000 in
set_option maxHeartbeats 2000000 in
theorem depth_any (w0 : World) (t : Ex) (hIn : t.In w0) :
    ∀ (b o : Nat) (w : World), t.d.At w0 b o → Below w0.heap.size w0 w → t.nodes ≤ 4000000 →
    Calls Tryz.prog 32 #[.pointer (some ⟨b, o, none⟩)] w fun e w' => e = .returned (.int .i64 (t.depth : Int)) ∧ Below w.heap.size w w' := by
  induction hIn with
  | mk d l lab nam par cap sub ih =>
  intro b o w hAt0 hb hnd
  have hAt : d.At w b o := (show d.At w0 b o from hAt0).lower hb
  have hII : (Ex.mk d l).In w0 := .mk d l lab nam par cap sub
  have hlen : l.length = d.pn := by have := par.1; rw [flat_len Ex.cells_len] at this; omega
  have c7 := hAt.c7
  have HAll := Lib.hid (And.intro hb (And.intro hAt (And.intro hAt0 (And.intro hII (And.intro hlen hnd)))))
  have HCAP := Lib.hid cap
  have HIH := Lib.hid (And.intro sub ih)
  clear hb hAt hAt0 hII hlen hnd lab nam par cap sub ih
  go_enter Tryz.func32, Tryz.ntmps32
  go_wp2_with fail
  clear c7
  try go_frame
  go_loopw [10, 3] (fun i a wr => ∃ m q : Nat, i = .int .i64 m ∧ a = .int .i64 q ∧ m ≤ d.pn ∧ q = depthL (l.take m) ∧ q ≤ 4000000 ∧ Below w.heap.size w wr) (fun i _ _ => d.pn - (intOf i).toNat)
  case atStart => exact ⟨0, 0, rfl, rfl, Nat.zero_le _, by simp [depthL], by omega, Below.refl _ _⟩
  case round =>
    obtain ⟨m, q, rfl, rfl, hm, hq, hq4, hbr⟩ := hrel
    have HJ := Lib.hid (And.intro hq hbr)
    clear hq hbr
    by_cases hlt : m < d.pn
    · have hml : m < l.length := by rw [HAll.out.2.2.2.2.1]; exact hlt
      have hb0 : Below w0.heap.size w0 wr := HAll.out.1.trans (HJ.out.2.mono HAll.out.1.size)
      obtain ⟨pb, po, hpA, hAtP⟩ := HAll.out.2.2.2.1.part (k := m) hml
      have hpA' : d.pA = some ⟨pb, po, none⟩ := hpA
      have hAtM : (l[m]).d.At w0 pb (po + m * 8) := hAtP m hml
      have c7 := (HAll.out.2.1.lower HJ.out.2).c7
      rw [hpA'] at c7
      have hlti : (m : Int) < (d.pn : Int) := by omega
      have hmi : (m : Int) ≤ 9223372036854775806 := by have := HCAP.out.2.2.1.2.2; omega
      obtain ⟨x, hx⟩ : ∃ x, l[m] = x := ⟨_, rfl⟩
      rw [hx] at hAtM
      have hxm : x ∈ l := by rw [← hx]; exact List.getElem_mem hml
      have htk : l.take (m + 1) = l.take m ++ [x] := by rw [List.take_succ_eq_append_getElem hml, hx]
      have hnx : 1 + enodesL (l.take m) + x.nodes ≤ 4000000 := by
        have h1 := enodesL_take l (m + 1)
        rw [htk, enodesL_snoc] at h1
        have h2 := HAll.out.2.2.2.2.2
        simp only [Ex.nodes] at h2
        omega
      have hxd := depth_le_nodes x
      have hxb : x.depth ≤ 4000000 := by omega
      have hxi : ((x.depth : Nat) : Int) ≤ 4000000 := by omega
      have HM := Lib.hid (HIH.out.2 x hxm pb (po + m * 8) wr hAtM hb0 (by omega))
      obtain ⟨y, hy⟩ : ∃ y, x.depth = y := ⟨_, rfl⟩
      rw [hy] at HM hxi
      have HS := Lib.hid (And.intro htk (And.intro hnx (And.intro hb0 (And.intro hlt (And.intro hml (And.intro hy hxb))))))
      have hq4i : (q : Int) ≤ 4000000 := by omega

      clear hpA hpA' hAtP hAtM hx hxm htk hnx hml hb0 hxd hxb hy
      go_wp2_with fail
      refine HM.out.mono ?_
      rintro e w3 ⟨rfl, hb3⟩
      have H3 := Lib.hid hb3
      clear HM hb3 c7
      go_wp2_with fail
      go_roundw
      case rel =>
        refine ⟨m + 1, max q y, by go_num, by go_num, HS.out.2.2.2.1, ?_, ?_, HJ.out.2.trans (H3.out.mono HJ.out.2.size)⟩
        · rw [HS.out.1, depthL_snoc, HJ.out.1, HS.out.2.2.2.2.2.1]
        · have := HS.out.2.1; have := HS.out.2.2.2.2.2.1; have := HS.out.2.2.2.2.2.2; have := HJ.out.1; omega
      case measure => simp [intOf] <;> omega
    · have hlti : ¬ (m : Int) < (d.pn : Int) := by omega
      have hq4i : (q : Int) ≤ 4000000 := by omega
      go_wp2_with fail
      go_returns
      have hmm : l.take m = l := List.take_of_length_le (by rw [HAll.out.2.2.2.2.1]; omega)
      have hq := HJ.out.1
      rw [hmm] at hq
      exact ⟨by rw [hq]; simp only [Ex.depth]; first | rfl | (congr 1; done), HJ.out.2⟩

theorem Depth_any (t : Ex) (w : World) (hIn : t.In w) (hnd : t.nodes ≤ 4000000) :
    Calls Tryz.prog 11 #[.agg t.d.arr] w fun e w' => e = .returned (.int .i64 (t.depth : Int)) ∧ Below w.heap.size w w' := by
  have hb1 : Below w.heap.size w (w.alloc (.cells t.d.arr 25)) := (Below.refl _ _).alloc (Nat.le_refl _) _
  have HM := Lib.hid (depth_any _ t (hIn.lower hb1) w.heap.size 0 _ (ex_box w t.d) (Below.refl _ _) hnd)
  have HB := Lib.hid hb1
  clear hb1 hIn hnd
  go_enter Tryz.func11, Tryz.ntmps11
  go_wp2_with fail
  refine HM.out.mono ?_
  rintro e w' ⟨rfl, hb⟩
  go_wp2_with fail
  go_returns
  exact ⟨rfl, HB.out.trans (hb.mono HB.out.size)⟩

set_option maxRecDepth 100000 in
set_option maxHeartbeats 2000000 in
theorem nodes_any (w0 : World) (t : Ex) (hIn : t.In w0) :
    ∀ (b o : Nat) (w : World), t.d.At w0 b o → Below w0.heap.size w0 w → t.nodes ≤ 4000000 →
    Calls Tryz.prog 33 #[.pointer (some ⟨b, o, none⟩)] w fun e w' => e = .returned (.int .i64 (t.nodes : Int)) ∧ Below w.heap.size w w' := by
  induction hIn with
  | mk d l lab nam par cap sub ih =>
  intro b o w hAt0 hb hnd
  have hAt : d.At w b o := (show d.At w0 b o from hAt0).lower hb
  have hII : (Ex.mk d l).In w0 := .mk d l lab nam par cap sub
  have hlen : l.length = d.pn := by have := par.1; rw [flat_len Ex.cells_len] at this; omega
  have c7 := hAt.c7
  have HAll := Lib.hid (And.intro hb (And.intro hAt (And.intro hAt0 (And.intro hII (And.intro hlen hnd)))))
  have HCAP := Lib.hid cap
  have HIH := Lib.hid (And.intro sub ih)
  clear hb hAt hAt0 hII hlen hnd lab nam par cap sub ih
  go_enter Tryz.func33, Tryz.ntmps33
  go_wp2_with fail
  clear c7
  try go_frame
  go_loopw [10, 3] (fun i a wr => ∃ m q : Nat, i = .int .i64 m ∧ a = .int .i64 q ∧ m ≤ d.pn ∧ q = 1 + enodesL (l.take m) ∧ q ≤ 4000000 ∧ Below w.heap.size w wr) (fun i _ _ => d.pn - (intOf i).toNat)
  case atStart => exact ⟨0, 1, rfl, rfl, Nat.zero_le _, by simp [enodesL], by omega, Below.refl _ _⟩
  case round =>
    obtain ⟨m, q, rfl, rfl, hm, hq, hq4, hbr⟩ := hrel
    have HJ := Lib.hid (And.intro hq hbr)
    clear hq hbr
    by_cases hlt : m < d.pn
    · have hml : m < l.length := by rw [HAll.out.2.2.2.2.1]; exact hlt
      have hb0 : Below w0.heap.size w0 wr := HAll.out.1.trans (HJ.out.2.mono HAll.out.1.size)
      obtain ⟨pb, po, hpA, hAtP⟩ := HAll.out.2.2.2.1.part (k := m) hml
      have hpA' : d.pA = some ⟨pb, po, none⟩ := hpA
      have hAtM : (l[m]).d.At w0 pb (po + m * 8) := hAtP m hml
      have c7 := (HAll.out.2.1.lower HJ.out.2).c7
      rw [hpA'] at c7
      have hlti : (m : Int) < (d.pn : Int) := by omega
      have hmi : (m : Int) ≤ 9223372036854775806 := by have := HCAP.out.2.2.1.2.2; omega
      obtain ⟨x, hx⟩ : ∃ x, l[m] = x := ⟨_, rfl⟩
      rw [hx] at hAtM
      have hxm : x ∈ l := by rw [← hx]; exact List.getElem_mem hml
      have htk : l.take (m + 1) = l.take m ++ [x] := by rw [List.take_succ_eq_append_getElem hml, hx]
      have hnx : 1 + enodesL (l.take m) + x.nodes ≤ 4000000 := by
        have h1 := enodesL_take l (m + 1)
        rw [htk, enodesL_snoc] at h1
        have h2 := HAll.out.2.2.2.2.2
        simp only [Ex.nodes] at h2
        omega
      have hxd := depth_le_nodes x
      have hxb : x.nodes ≤ 4000000 := by omega
      have hxi : ((x.nodes : Nat) : Int) ≤ 4000000 := by omega
      have HM := Lib.hid (HIH.out.2 x hxm pb (po + m * 8) wr hAtM hb0 (by omega))
      obtain ⟨y, hy⟩ : ∃ y, x.nodes = y := ⟨_, rfl⟩
      rw [hy] at HM hxi
      have HS := Lib.hid (And.intro htk (And.intro hnx (And.intro hb0 (And.intro hlt (And.intro hml (And.intro hy hxb))))))
      have hq4i : (q : Int) ≤ 4000000 := by omega

      clear hpA hpA' hAtP hAtM hx hxm htk hnx hml hb0 hxd hxb hy
      go_wp2_with fail
      refine HM.out.mono ?_
      rintro e w3 ⟨rfl, hb3⟩
      have H3 := Lib.hid hb3
      clear HM hb3 c7
      go_wp2_with fail
      go_roundw
      case rel =>
        refine ⟨m + 1, q + y, by go_num, by go_num, HS.out.2.2.2.1, ?_, ?_, HJ.out.2.trans (H3.out.mono HJ.out.2.size)⟩
        · rw [HS.out.1, enodesL_snoc, HJ.out.1, HS.out.2.2.2.2.2.1]; omega
        · have := HS.out.2.1; have := HS.out.2.2.2.2.2.1; have := HS.out.2.2.2.2.2.2; have := HJ.out.1; omega
      case measure => simp [intOf] <;> omega
    · have hlti : ¬ (m : Int) < (d.pn : Int) := by omega
      have hq4i : (q : Int) ≤ 4000000 := by omega
      go_wp2_with fail
      go_returns
      have hmm : l.take m = l := List.take_of_length_le (by rw [HAll.out.2.2.2.2.1]; omega)
      have hq := HJ.out.1
      rw [hmm] at hq
      exact ⟨by rw [hq]; simp only [Ex.nodes]; first | rfl | (congr 1; done), HJ.out.2⟩

theorem Nodes_any (t : Ex) (w : World) (hIn : t.In w) (hnd : t.nodes ≤ 4000000) :
    Calls Tryz.prog 12 #[.agg t.d.arr] w fun e w' => e = .returned (.int .i64 (t.nodes : Int)) ∧ Below w.heap.size w w' := by
  have hb1 : Below w.heap.size w (w.alloc (.cells t.d.arr 25)) := (Below.refl _ _).alloc (Nat.le_refl _) _
  have HM := Lib.hid (nodes_any _ t (hIn.lower hb1) w.heap.size 0 _ (ex_box w t.d) (Below.refl _ _) hnd)
  have HB := Lib.hid hb1
  clear hb1 hIn hnd
  go_enter Tryz.func12, Tryz.ntmps12
  go_wp2_with fail
  refine HM.out.mono ?_
  rintro e w' ⟨rfl, hb⟩
  go_wp2_with fail
  go_returns
  exact ⟨rfl, HB.out.trans (hb.mono HB.out.size)⟩
end Go.Proofs.YtaglmmcjhlehjaaGreatDoor

namespace Go.Proofs.YtaglmmcjhlehjaaGreatDoor
open Go.ChangeShapes Go.WideShapes Go.ChangeAt Go.RowKit Go.Sort
set_option linter.unusedVariables false
set_option linter.unusedSimpArgs false

theorem errR_none {w : World} {v : Value} {n p : Int} (h : ErrR w v n p) (hn : n = 0) : v = .nilIface := by
  cases h with
  | none => rfl
  | arg => omega
  | spot g a c0 c1 => omega
theorem errR_spot {w : World} {v : Value} {n p : Int} (h : ErrR w v n p) (hn : n = 4) : ∃ g, v = .iface 71 (.pointer (some ⟨g, 0, .none⟩)) := by
  cases h with
  | none => omega
  | arg => omega
  | spot g a c0 c1 => exact ⟨g, rfl⟩
mutual
theorem free_len (w : World) : ∀ (t : Ex), t.In w → ∀ x, t.freeB x = true → x.length ≤ 9223372036854775807
  | .mk d l, hI, x, hx => by
    simp only [Ex.freeB, Bool.or_eq_true, Bool.and_eq_true, decide_eq_true_eq] at hx
    rcases hx with ⟨_, rfl⟩ | hx
    · exact hI.cap.2.2.2.1
    · exact freeL_len w d l (fun y hy => hI.sub y hy) 0 x hx
theorem freeL_len (w : World) (d : ExD) : ∀ (l : List Ex), (∀ x ∈ l, x.In w) → ∀ (i : Nat) (x : Str), freeLB d l i x = true → x.length ≤ 9223372036854775807
  | [], _, i, x, hx => by simp [freeLB] at hx
  | y :: l, hI, i, x, hx => by
    simp only [freeLB, Bool.or_eq_true, Bool.and_eq_true] at hx
    rcases hx with ⟨hx, _⟩ | hx
    · exact free_len w y (hI y (List.mem_cons_self ..)) x hx
    · exact freeL_len w d l (fun z hz => hI z (List.mem_cons_of_mem _ hz)) (i + 1) x hx
end
theorem vNames_at {n j : Nat} (h : j < (vNames n 0).length) : (vNames n 0)[j] = vName j := by
  have h1 := vNames_get n 0 j (by rw [vNames_len] at h; exact h)
  rw [List.getElem?_eq_getElem h] at h1
  injection h1 with h1
  rw [h1, Nat.zero_add]
/-- How many names are free. -/
theorem free_n {t : Ex} {w w' : World} {e : Ending} (hI : t.In w) (hf : t.fineE = true) (h : FrR t w e w') : ∃ A n c, e = .returned (.slice A n c) ∧ Below w.heap.size w w' ∧ decide ((n : Int) = 0) = (t.firstF []).isNone := by
  obtain ⟨A, n, c, ss, rfl, hr, _, h1, h2, hb, _⟩ := h
  refine ⟨A, n, c, rfl, hb, ?_⟩
  have hl := rd_len hr
  have hc := closed_iff w t hI hf []
  cases hx : t.firstF [] with
  | none =>
    have h3 := hc.1 hx
    have hs : ss = [] := by
      cases ss with
      | nil => rfl
      | cons x r => exact absurd (h3 x (h1 x (List.mem_cons_self ..)).1) (by simp)
    rw [hs] at hl
    have : n = 0 := hl.symm
    rw [this]; rfl
  | some a =>
    have hne : ¬ ∀ x, t.freeB x = true → x ∈ ([] : List Str) := fun q => by rw [hc.2 q] at hx; cases hx
    have hex : ∃ x, t.freeB x = true := by
      apply Classical.byContradiction
      intro q
      exact hne (fun x hx => absurd ⟨x, hx⟩ q)
    obtain ⟨x, hxf⟩ := hex
    have hm := h2 x (free_len w t hI x hxf) hxf
    have hp : 0 < ss.length := List.length_pos_of_mem hm
    show decide ((n : Int) = 0) = false
    exact decide_eq_false (by omega)

set_option maxRecDepth 100000 in
set_option maxHeartbeats 4000000 in
theorem scopeOnce_any (d : ExD) (l : List Ex) (w : World) (hL : Lay w) (hT : Tab w) (hE : ET w) (hI : (Ex.mk d l).In w) :
    Calls Tryz.prog 6 #[.agg d.arr] w fun e w' => e = .returned (.bool true) ∧ Below w.heap.size w w' := by
  have hb1 : Below w.heap.size w (w.alloc (.cells d.arr 25)) := (Below.refl _ _).alloc (Nat.le_refl _) _
  have hE1 := ex_box w d
  have HI := Lib.hid (And.intro hI (And.intro hL (And.intro hT hE)))
  clear hI hL hT hE
  go_enter Tryz.func6, Tryz.ntmps6
  go_wp2_with fail
  obtain ⟨bx, hbx⟩ : ∃ bx, w.heap.size = bx := ⟨_, rfl⟩
  rw [hbx] at hE1
  try rw [hbx]
  clear hbx
  generalize (w.alloc (.cells d.arr 25)) = w1 at *
  have HE := Lib.hid (fun W (h : Below w1.heap.size w1 W) => hE1.lower h)
  have HB1 := Lib.hid hb1
  clear hb1 hE1
  refine (up8_any w1 (HI.out.2.1.below HB1.out) (tab_below HI.out.2.2.1 HB1.out) (HI.out.2.2.2.below HB1.out)).mono ?_
  rintro e w2 ⟨rfl, hb2⟩
  have HB2 := Lib.hid hb2
  obtain ⟨c0, c1, c2, c3, c4, c5, c6, c7⟩ := HE.out w2 hb2
  clear hb2
  go_wp2_with fail
  refine (Few_any w (Ex.mk d l) HI.out.1 w2 (below_then HB1.out HB2.out)).mono ?_
  rintro e w3 ⟨⟨v, rfl⟩, hb3⟩
  have HB3 := Lib.hid (below_then HB2.out hb3)
  clear hb3 c0 c1 c2 c3 c4 c5 c6 c7
  obtain ⟨c0, c1, c2, c3, c4, c5, c6, c7⟩ := HE.out w3 HB3.out
  cases v with
  | false =>
    go_wp2_with fail
    go_returns
    exact ⟨rfl, below_then HB1.out HB3.out⟩
  | true =>
  have HB03 := Lib.hid (below_then HB1.out HB3.out)
  have HN := Lib.hid (scNumber_any (Ex.mk d l) w3 (HI.out.2.1.below HB03.out) (tab_below HI.out.2.2.1 HB03.out) (HI.out.1.lower HB03.out))
  go_wp2_with fail
  refine HN.out.mono ?_
  rintro e w7 ⟨hb7, hr⟩
  have HB7 := Lib.hid (below_then HB3.out hb7)
  clear hb7 c0 c1 c2 c3 c4 c5 c6 c7 HN
  cases hmay : (mayE (Ex.mk d l) 1 0).isSome with
  | false =>
    rw [hmay, if_neg (by simp)] at hr
    subst hr
    clear hmay
    go_wp2_with fail
    go_returns
    exact ⟨rfl, (below_then HB1.out HB7.out).alloc (Nat.le_trans HB1.out.size HB7.out.size) _⟩
  | true =>
    rw [hmay, if_pos rfl] at hr
    obtain ⟨t', A', n', c', rfl, hn', hlk', hin', hrd'⟩ := hr
    have HMY := Lib.hid hmay
    have HY := Lib.hid (And.intro hlk' (And.intro hin' hn'))
    clear hmay hlk' hin' hrd' hn'
    go_upto_region 8 with fail
    have hb8 : Below w7.heap.size w7 (w7.alloc (.cells #[.int .i64 t'.d.kind, .int .i64 t'.d.at_, .int .i64 t'.d.n, .string (bstr t'.d.s), .string (bstr t'.d.t), .slice t'.d.lA t'.d.ln t'.d.lc, .slice t'.d.nA t'.d.nn t'.d.nc, .slice t'.d.pA t'.d.pn t'.d.pc] 25)) := (Below.refl _ _).alloc (Nat.le_refl _) _
    have HA9 := Lib.hid (show t'.d.At (w7.alloc (.cells #[.int .i64 t'.d.kind, .int .i64 t'.d.at_, .int .i64 t'.d.n, .string (bstr t'.d.s), .string (bstr t'.d.t), .slice t'.d.lA t'.d.ln t'.d.lc, .slice t'.d.nA t'.d.nn t'.d.nc, .slice t'.d.pA t'.d.pn t'.d.pc] 25)) w7.heap.size 0 from ex_box w7 t'.d)
    have HI8 := Lib.hid (HY.out.2.1.lower hb8)
    have HB8 := Lib.hid (below_then HB7.out hb8)
    clear hb8
    generalize w7.alloc (.cells #[.int .i64 t'.d.kind, .int .i64 t'.d.at_, .int .i64 t'.d.n, .string (bstr t'.d.s), .string (bstr t'.d.t), .slice t'.d.lA t'.d.ln t'.d.lc, .slice t'.d.nA t'.d.nn t'.d.nc, .slice t'.d.pA t'.d.pn t'.d.pc] 25) = w8 at *
    obtain ⟨p9, hp9⟩ : ∃ p9, w7.heap.size = p9 := ⟨_, rfl⟩
    rw [hp9] at HA9 ⊢
    clear hp9
    have HB08 := Lib.hid (below_then HB1.out HB8.out)
    have hfine : (Ex.mk d l).fineE = true := may_fine HMY.out
    have hbs := bsN_le2 w (.mk d l) HI.out.1 hfine
    have hml := may_le HMY.out
    have hbnd : t'.bnd = vNames (Ex.mk d l).bsN 0 := by rw [bnd_lk HY.out.1, bnd_num]; rfl
    have hbn : t'.bsN = (Ex.mk d l).bsN := by rw [← bnd_len, hbnd, vNames_len]
    have hmy : (mayE t' 1 0).isSome = true := may_num HI.out.1 HY.out.2.1 HMY.out HY.out.1
    have HM := Lib.hid (And.intro hmy (And.intro hfine (And.intro hml hbnd)))
    have HBI := Lib.hid (binders_all w8 t' HI8.out w8 (Below.refl _ _) (by omega))
    obtain ⟨m, hm⟩ : ∃ m, (Ex.mk d l).bsN = m := ⟨_, rfl⟩
    have hn2 : n' = m := by rw [HY.out.2.2, num_len, List.length_nil, Nat.zero_add, hm]
    subst hn2
    have hlen : t'.bnd.length = n' := by rw [hbnd, vNames_len, hm]
    have HLN := Lib.hid (And.intro hlen (show n' ≤ 1500 by omega))
    clear hfine hbs hml hbnd hbn hmy hlen hm
    obtain ⟨a0, a1, a2, a3, a4, a5, a6, a7⟩ := HA9.out
    go_wp2_with fail
    refine HBI.out.mono ?_
    rintro e w9 ⟨A9, c9, rfl, hr9, hb9⟩
    rw [HLN.out.1] at hr9 ⊢
    have hv9 : Rd w9 1 A9 n' (strs (vNames n' 0)) := by
      have h := HM.out.2.2.2
      have hl : (Ex.mk d l).bsN = n' := by rw [← HLN.out.1, h, vNames_len]
      rw [← hl, ← h, hl]; exact hr9
    have HR9 := Lib.hid hv9
    have HB9 := Lib.hid (below_then HB8.out hb9)
    have HB89 := Lib.hid hb9
    clear a0 a1 a2 a3 a4 a5 a6 a7 hr9 hv9 hb9 HBI
    have q1 : ((n' : Int) != (n' : Int)) = false := by simp
    go_upto_region 11 with fail
    go_wp2_with fail
    clear q1
    go_loopw [9] (fun i wr => ∃ k : Nat, i = .int .i64 k ∧ k ≤ n' ∧ Below w9.heap.size w9 wr) (fun i _ => n' - (intOf i).toNat)
    case atStart => exact ⟨0, rfl, Nat.zero_le _, Below.refl _ _⟩
    case round =>
      obtain ⟨k, rfl, hk, hbr⟩ := hrel
      have HBR := Lib.hid hbr
      clear hbr
      have hk0 : (0 : Int) ≤ (k : Int) := by omega
      have hk9 : (k : Int) ≤ 9223372036854775806 := by have := HLN.out.2; omega
      by_cases hlt : k < n'
      · have hki : (k : Int) < (n' : Int) := by omega
        go_wp2_with fail
        go_loopw [10] (fun j wx => ∃ jj : Nat, j = .int .i64 jj ∧ jj ≤ k ∧ Below w9.heap.size w9 wx) (fun j _ => k - (intOf j).toNat)
        case atStart => exact ⟨0, rfl, Nat.zero_le _, HBR.out⟩
        case round =>
          obtain ⟨jj, rfl, hjj, hbx⟩ := hrel
          have HBX := Lib.hid hbx
          have hj0 : (0 : Int) ≤ (jj : Int) := by omega
          have hj9 : (jj : Int) ≤ 9223372036854775806 := by omega
          by_cases hlj : jj < k
          · have hjk : (jj : Int) < (k : Int) := by omega
            have hjn : (jj : Int) < (n' : Int) := by omega
            have hl1 : k < (vNames n' 0).length := by rw [vNames_len]; exact hlt
            have hl2 : jj < (vNames n' 0).length := by rw [vNames_len]; omega
            obtain ⟨b, o, rfl, hc⟩ := (HR9.out.below hbx).str (k := k) hl1
            have h1 := hc k hl1
            have h2 := hc jj hl2
            rw [vNames_at] at h1 h2
            have hne : vName k ≠ vName jj := fun e => by have := vName_inj e; omega
            obtain ⟨g1, g2⟩ := ne_facts (vName k) (vName jj) false (decide_eq_false hne)
            simp only [Bool.not_false] at g2
            clear hbx hc hl1 hl2 hne
            go_wp2_with fail
            go_quiet (fail)
            clear h1 h2
            go_wp2_with fail
            go_roundw
            case rel => exact ⟨jj + 1, by go_num, hlj, below_drewN HBX.out _⟩
            case measure => simp [intOf] <;> omega
          · have hjk : ¬ (jj : Int) < (k : Int) := by omega
            clear hbx
            go_wp2_with fail
            go_roundw
            case rel => exact ⟨k + 1, by go_num, hlt, HBX.out⟩
            case measure => simp [intOf] <;> omega
      · have hki : ¬ (k : Int) < (n' : Int) := by omega
        go_upto_region 19 with fail
        clear hki hk0 hk9 hlt
        obtain ⟨wr2, rfl⟩ : ∃ x, x = wr := ⟨_, rfl⟩
        have HB9R := Lib.hid (below_then HB9.out HBR.out)
        have HB0R := Lib.hid (below_then HB1.out HB9R.out)
        have HC := Lib.hid (check_any (Ex.mk d l) wr2 (HI.out.2.1.below HB0R.out) (HI.out.1.lower HB0R.out))
        obtain ⟨c0, c1, c2, c3, c4, c5, c6, c7⟩ := HE.out wr2 HB9R.out
        have hct := ct_in w (.mk d l) HI.out.1
        have HCT := Lib.hid hct
        clear hct
        go_wp2_with fail
        refine HC.out.mono ?_
        rintro e wa ⟨ve, rfl, herr, hba⟩
        have HBA := Lib.hid (below_then HBR.out hba)
        have HB1A := Lib.hid (below_then HB9.out HBA.out)
        have HB0A := Lib.hid (below_then HB1.out HB1A.out)
        clear hba c0 c1 c2 c3 c4 c5 c6 c7 HC
        have hchk : (Ex.mk d l).chk = (match (Ex.mk d l).firstF [] with | some a => ((4 : Int), a) | none => (0, -1)) := by unfold Ex.chk; rw [if_pos HMY.out]; cases (Ex.mk d l).firstF [] <;> rfl
        cases hcl : (Ex.mk d l).firstF [] with
        | some a =>
          rw [hcl] at hchk
          rw [hchk] at herr
          obtain ⟨g, rfl⟩ := errR_spot herr rfl
          have HCL := Lib.hid hcl
          clear hcl hchk herr
          have hIa := HI8.out.lower (below_then HB89.out HBA.out)
          have HN2 := Lib.hid (scNumber_any t' wa (HI.out.2.1.below HB0A.out) (tab_below HI.out.2.2.1 HB0A.out) hIa)
          obtain ⟨a0, a1, a2, a3, a4, a5, a6, a7⟩ := HA9.out.lower (below_then HB89.out HBA.out)
          clear hIa
          go_wp2_with fail
          refine HN2.out.mono ?_
          rintro e w10 ⟨hb10, hr10⟩
          rw [if_pos HM.out.1] at hr10
          obtain ⟨t2, A2, n2, c2', rfl, _, hlk2, hin2, _⟩ := hr10
          have HZ := Lib.hid (And.intro hlk2 hin2)
          have HB10 := Lib.hid (below_then HBA.out hb10)
          clear a0 a1 a2 a3 a4 a5 a6 a7 hlk2 hin2 hb10 HN2
          go_upto_region 21 with fail
          have hb11 : Below w10.heap.size w10 (w10.alloc (.cells #[.int .i64 t2.d.kind, .int .i64 t2.d.at_, .int .i64 t2.d.n, .string (bstr t2.d.s), .string (bstr t2.d.t), .slice t2.d.lA t2.d.ln t2.d.lc, .slice t2.d.nA t2.d.nn t2.d.nc, .slice t2.d.pA t2.d.pn t2.d.pc] 25)) := (Below.refl _ _).alloc (Nat.le_refl _) _
          have HE13 := Lib.hid (show t2.d.At (w10.alloc (.cells #[.int .i64 t2.d.kind, .int .i64 t2.d.at_, .int .i64 t2.d.n, .string (bstr t2.d.s), .string (bstr t2.d.t), .slice t2.d.lA t2.d.ln t2.d.lc, .slice t2.d.nA t2.d.nn t2.d.nc, .slice t2.d.pA t2.d.pn t2.d.pc] 25)) w10.heap.size 0 from ex_box w10 t2.d)
          have HX2 := Lib.hid (HZ.out.2.lower hb11)
          have HB11 := Lib.hid (below_then HB10.out hb11)
          clear hb11
          generalize w10.alloc (.cells #[.int .i64 t2.d.kind, .int .i64 t2.d.at_, .int .i64 t2.d.n, .string (bstr t2.d.s), .string (bstr t2.d.t), .slice t2.d.lA t2.d.ln t2.d.lc, .slice t2.d.nA t2.d.nn t2.d.nc, .slice t2.d.pA t2.d.pn t2.d.pc] 25) = w11 at *
          obtain ⟨p13, hp13⟩ : ∃ p13, w10.heap.size = p13 := ⟨_, rfl⟩
          rw [hp13] at HE13 ⊢
          clear hp13
          have HB811 := Lib.hid (below_then HB89.out HB11.out)
          have HB011 := Lib.hid (below_then HB08.out HB811.out)
          have HB111 := Lib.hid (below_then HB8.out HB811.out)
          obtain ⟨c0, c1, c2, c3, c4, c5, c6, c7⟩ := HE.out w11 HB111.out
          have HF := Lib.hid (Free_any (Ex.mk d l) w11 (HI.out.1.lower HB011.out) (by have := HM.out.2.2.1; omega))
          go_wp2_with fail
          refine HF.out.mono ?_
          intro e w12 hfr
          obtain ⟨Af, nf, cf, rfl, hb12, hdn⟩ := free_n (HI.out.1.lower HB011.out) HM.out.2.1 hfr
          rw [HCL.out] at hdn
          have hn0 : ((nf : Int) == 0) = false := by
            have := of_decide_eq_false hdn
            simpa using this
          have HB12 := Lib.hid hb12
          clear hb12 hdn hfr c0 c1 c2 c3 c4 c5 c6 c7 HF
          go_wp2_with fail
          go_returns
          exact ⟨rfl, below_then HB011.out HB12.out⟩
        | none =>
          rw [hcl] at hchk
          rw [hchk] at herr
          obtain rfl := errR_none herr rfl
          have HCL := Lib.hid hcl
          clear hcl hchk herr
          have hIa := HI8.out.lower (below_then HB89.out HBA.out)
          have HN2 := Lib.hid (scNumber_any t' wa (HI.out.2.1.below HB0A.out) (tab_below HI.out.2.2.1 HB0A.out) hIa)
          obtain ⟨a0, a1, a2, a3, a4, a5, a6, a7⟩ := HA9.out.lower (below_then HB89.out HBA.out)
          clear hIa
          go_wp2_with fail
          refine HN2.out.mono ?_
          rintro e w10 ⟨hb10, hr10⟩
          rw [if_pos HM.out.1] at hr10
          obtain ⟨t2, A2, n2, c2', rfl, _, hlk2, hin2, _⟩ := hr10
          have HZ := Lib.hid (And.intro hlk2 hin2)
          have HB10 := Lib.hid (below_then HBA.out hb10)
          clear a0 a1 a2 a3 a4 a5 a6 a7 hlk2 hin2 hb10 HN2
          go_upto_region 21 with fail
          have hb11 : Below w10.heap.size w10 (w10.alloc (.cells #[.int .i64 t2.d.kind, .int .i64 t2.d.at_, .int .i64 t2.d.n, .string (bstr t2.d.s), .string (bstr t2.d.t), .slice t2.d.lA t2.d.ln t2.d.lc, .slice t2.d.nA t2.d.nn t2.d.nc, .slice t2.d.pA t2.d.pn t2.d.pc] 25)) := (Below.refl _ _).alloc (Nat.le_refl _) _
          have HE13 := Lib.hid (show t2.d.At (w10.alloc (.cells #[.int .i64 t2.d.kind, .int .i64 t2.d.at_, .int .i64 t2.d.n, .string (bstr t2.d.s), .string (bstr t2.d.t), .slice t2.d.lA t2.d.ln t2.d.lc, .slice t2.d.nA t2.d.nn t2.d.nc, .slice t2.d.pA t2.d.pn t2.d.pc] 25)) w10.heap.size 0 from ex_box w10 t2.d)
          have HX2 := Lib.hid (HZ.out.2.lower hb11)
          have HB11 := Lib.hid (below_then HB10.out hb11)
          clear hb11
          generalize w10.alloc (.cells #[.int .i64 t2.d.kind, .int .i64 t2.d.at_, .int .i64 t2.d.n, .string (bstr t2.d.s), .string (bstr t2.d.t), .slice t2.d.lA t2.d.ln t2.d.lc, .slice t2.d.nA t2.d.nn t2.d.nc, .slice t2.d.pA t2.d.pn t2.d.pc] 25) = w11 at *
          obtain ⟨p13, hp13⟩ : ∃ p13, w10.heap.size = p13 := ⟨_, rfl⟩
          rw [hp13] at HE13 ⊢
          clear hp13
          have HB811 := Lib.hid (below_then HB89.out HB11.out)
          have HB011 := Lib.hid (below_then HB08.out HB811.out)
          have HB111 := Lib.hid (below_then HB8.out HB811.out)
          have HU := Lib.hid (show t2.lk ((Ex.mk d l).num [] []).1 from lk_trans HZ.out.1 (lk_trans (num_lk2 HY.out.1 (ct_in _ t' HI8.out) (ct_num (.mk d l) HCT.out [] []) [] []).1 (num_id (.mk d l) [] [] [] [] (fun p hp => by cases hp) rfl).1))
          have HFY := Lib.hid (show t'.firstF [] = none by
            rw [firstF_lk HY.out.1 (ct_in _ t' HI8.out) (ct_num (.mk d l) HCT.out [] []) []]
            exact closed_num (.mk d l) HCT.out [] [] HCL.out)
          have HI11 := Lib.hid (HI8.out.lower HB811.out)
          have HA11 := Lib.hid (HA9.out.lower HB811.out)
          have HS := Lib.hid (refSame_any w11 t' HI11.out t2 HX2.out w11 (Below.refl _ _))
          obtain ⟨a0, a1, a2, a3, a4, a5, a6, a7⟩ := HA11.out
          obtain ⟨e0, e1, e2, e3, e4, e5, e6, e7⟩ := HE13.out
          go_wp2_with fail
          refine HS.out.mono ?_
          rintro e w12 ⟨rfl, hb12⟩
          rw [eqB_true (eqv_lk HY.out.1 HU.out)]
          have HB12 := Lib.hid hb12
          clear a0 a1 a2 a3 a4 a5 a6 a7 e0 e1 e2 e3 e4 e5 e6 e7 hb12 HS
          have HB012 := Lib.hid (below_then HB011.out HB12.out)
          obtain ⟨c0, c1, c2, c3, c4, c5, c6, c7⟩ := HE.out w12 (below_then HB111.out HB12.out)
          have HF := Lib.hid (Free_any (Ex.mk d l) w12 (HI.out.1.lower HB012.out) (by have := HM.out.2.2.1; omega))
          go_wp2_with fail
          refine HF.out.mono ?_
          intro e w13 hfr
          obtain ⟨Af, nf, cf, rfl, hb13, hdn⟩ := free_n (HI.out.1.lower HB012.out) HM.out.2.1 hfr
          rw [HCL.out] at hdn
          have hn0 : ((nf : Int) == 0) = true := by
            have := of_decide_eq_true hdn
            simpa using this
          have HB13 := Lib.hid (below_then HB12.out hb13)
          clear hb13 hdn hfr c0 c1 c2 c3 c4 c5 c6 c7 HF
          have HB013 := Lib.hid (below_then HB011.out HB13.out)
          obtain ⟨a0, a1, a2, a3, a4, a5, a6, a7⟩ := HA11.out.lower HB13.out
          have HC2 := Lib.hid (check_any t' w13 (HI.out.2.1.below HB013.out) (HI11.out.lower HB13.out))
          go_wp2_with fail
          refine HC2.out.mono ?_
          rintro e w14 ⟨v2, rfl, herr2, hb14⟩
          have hch2 : t'.chk = (0, -1) := by unfold Ex.chk; rw [if_pos HM.out.1, HFY.out]
          rw [hch2] at herr2
          obtain rfl := errR_none herr2 rfl
          have HB14 := Lib.hid (below_then HB13.out hb14)
          clear herr2 hb14 hch2 a0 a1 a2 a3 a4 a5 a6 a7 HC2
          have HI14 := Lib.hid (HI11.out.lower HB14.out)
          obtain ⟨a0, a1, a2, a3, a4, a5, a6, a7⟩ := HA11.out.lower HB14.out
          have HF2 := Lib.hid (Free_any t' w14 HI14.out (by have := may_le HM.out.1; omega))
          go_wp2_with fail
          refine HF2.out.mono ?_
          intro e w15 hfr
          obtain ⟨Ag, ng, cg, rfl, hb15, hdn⟩ := free_n HI14.out (may_fine HM.out.1) hfr
          rw [HFY.out] at hdn
          have hn1 : ((ng : Int) == 0) = true := by
            have := of_decide_eq_true hdn
            simpa using this
          have HB15 := Lib.hid (below_then HB14.out hb15)
          clear hb15 hdn hfr a0 a1 a2 a3 a4 a5 a6 a7 HF2
          go_wp2_with fail
          go_returns
          exact ⟨rfl, below_then HB011.out HB15.out⟩
end Go.Proofs.YtaglmmcjhlehjaaGreatDoor

namespace Go.Proofs.YtaglmmcjhlehjaaGreatDoor
open Go.ChangeShapes Go.WideShapes Go.ChangeAt Go.RowKit
set_option linter.unusedVariables false

/-- What is to be walked of a law, the form's own reach and the tied variables handed to the walk. -/
def LawWalkP (F : FuncId) (ts : List TypeId) : Prop :=
  ∀ (H : Type) (enc : TypeId × Value → H) (W : World) (base : Nat) (args : Array Value) (ds : List (DataW H)) (p : List MemPlace),
    (∀ (j : Nat) t v, ts[j]? = some t → args[j]? = some v → Value.okWide Tryz.prog W .any base t v) →
    DataW.TrodAll enc Tryz.prog W 0 (fun _ => true) true ts args.toList ds p → (∀ x ∈ p, x.block < W.heap.size) → Lay W ∧ Tab W ∧ ET W →
    Calls Tryz.prog F args W fun e W' => e = .returned (.bool true) ∧ Below W.heap.size W W'

set_option maxRecDepth 100000 in
theorem law_liftedP {os : Os} (started : os.Started) {H : Type} {enc : TypeId × Value → H} {F : FuncId} {f : Func} {s : ChangeSpec} {ts : List TypeId}
    (hF : Tryz.prog.funcs[F]? = some f) (noInit : Tryz.checked.prog.inits.idxOf? F = none) (hp : f.params.toList = ts) (hres : f.resultTypes = #[4]) (hv : s.vars = [])
    (hs : ∀ (H : Type) (ds : List (DataW H)), ds.length = ts.length → s.fn H ds = { results := [.lit (.bool true)], args := ds })
    (hr0 : (ts.all fun t => Tryz.prog.readableRec t && decide (t < Tryz.prog.types.size)) = true)
    (witness : ∃ (w : World) (tape : Tape) (i : Input), w.os = os ∧ (w.forCall tape i).Shaped Tryz.checked.prog ∧ i.vars = [] ∧ Input.okWide Tryz.checked.prog (w.forCall tape i) .any w.heap.size F i ∧
      ((s.pre enc Tryz.checked.prog f [] false (w.forCall tape i).memory i.args ∧ laidMetH Tryz.prog seatLaidS (w.forCall tape i).memory) ∧ sizedMet enc Tryz.checked.prog f (OpenSpec.ofChange s) false (w.forCall tape i).memory i.args) ∧ Assume.holds {} Tryz.checked.prog (lone (Frame.enter Tryz.checked.prog F i.args .normal) [] (w.forCall tape i)))
    (walk : LawWalkP F ts) :
    ReturnsInHanded {} Tryz.checked os F .any (fun w args => (s.pre enc Tryz.prog f [] false w args ∧ laidMetH Tryz.prog seatLaidS w) ∧ sizedMet enc Tryz.prog f (OpenSpec.ofChange s) false w args) (s.post enc Tryz.prog f false true false false) := by
  have hr : ∀ t ∈ ts, Tryz.prog.readableRec t = true ∧ t < Tryz.prog.types.size := fun t ht => by
    have h := List.all_eq_true.1 hr0 t ht
    simpa using h
  refine returnsInHanded_of_change_and (C := Tryz.checked) (X := fun w _ => laidMetH Tryz.prog seatLaidS w) (fun _ _ _ hh h => h.of_heap hh) own started noInit hF witness ?_
  intro W base args ds gs before hval hW _ _ hL _
  have hW' : DataW.Whole enc Tryz.prog f.params.toList s.vars false W args.toList ds gs before := hW
  obtain ⟨p, q, hA0, hV, rfl, hfz, hnd⟩ := hW
  have hA : DataW.TrodAll enc Tryz.prog W 0 (fun _ => true) true f.params.toList args.toList ds p := hA0
  have hlt : ∀ x ∈ p, x.block < W.heap.size := fun x hx => hW'.lt x (by simp [hx])
  rw [hp] at hA
  have hlen : ds.length = ts.length := trodAll_length ts _ _ _ hA
  rw [hv] at hV
  obtain ⟨rfl, rfl⟩ := trodVars_none hV
  refine (walk H enc W base args ds p ?_ hA hlt (lay_of_laidS hL)).mono fun e W' ⟨he, hb⟩ => ?_
  · intro j t v hj hva
    refine hval j t v ?_ hva
    rw [← hp] at hj
    simpa using hj
  · subst he
    exact ⟨_, rfl, law_post hp hres hv (by rw [List.append_nil]; exact hs H ds hlen) hr hW' hb⟩
end Go.Proofs.YtaglmmcjhlehjaaGreatDoor
