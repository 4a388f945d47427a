/-
  Unlike expressions have unlike texts, and alike ones alike ones: whole texts. About no program.
-/
import Derived.Test.YtaglmmcjhlehjaaDoorShZ
namespace Go.Proofs.YtaglmmcjhlehjaaDoor
open Go.RowKit
set_option linter.unusedVariables false
set_option linter.unusedSimpArgs false

/-- Part, and what stands behind it. -/
def tk (k : Int) : Nat := if k = 9 then 1 else if k = 11 then 2 else if k = 5 then 3 else if k = 16 then 4 else if k = 19 then 5 else 0
structure Split (d : ExD) (l : List Ex) (p : Ex) (t : Str) : Prop where
  sh : (Ex.mk d l).sh = p.pa ++ t
  ok : p.Ok
  fol : ∀ u, FolP u → FolP (t ++ u)
  key : ∀ u, FolW u → tkey (t ++ u) = tk d.kind
  cas : (bareB d.kind = true ∧ p = .mk d l ∧ t = []) ∨ (d.kind = 9 ∧ l = [p] ∧ t = 46 :: d.s) ∨ (d.kind = 11 ∧ l = [p] ∧ t = 92 :: d.s) ∨ (d.kind = 5 ∧ ∃ c, l = [p, c] ∧ t = 32 :: c.pa) ∨ (d.kind = 16 ∧ ∃ c, l = [p, c] ∧ t = 32 :: (d.s ++ (32 :: c.pa))) ∨ (d.kind = 19 ∧ ∃ c, l = [p, c] ∧ t = 32 :: 58 :: 61 :: 32 :: c.pa)
theorem split10 {d : ExD} {l : List Ex} (h : (Ex.mk d l).Ok) (hk : leadK d.kind = 10) : ∃ p t, Split d l p t := by
  have hF := h.fld
  have hne := (leadK_inv d.kind).2.2.2.2.2.2.2.2.2 hk
  have hks := kinds_of hF
  unfold braceB blockB at hks
  simp only [decide_eq_true_eq] at hks
  by_cases hb : bareB d.kind = true
  · refine ⟨.mk d l, [], ⟨?_, h, fun u hu => hu, fun u hu => ?_, .inl ⟨hb, rfl, rfl⟩⟩⟩
    · rw [pa_bare (x := .mk d l) hb, List.append_nil]
    · rw [List.nil_append, hu.2]
      unfold bareB at hb
      have := of_decide_eq_true hb
      unfold tk
      rw [if_neg (by omega), if_neg (by omega), if_neg (by omega), if_neg (by omega), if_neg (by omega)]
  · have hb2 := hb
    unfold bareB at hb2
    rw [decide_eq_true_eq] at hb2
    have hk5 : d.kind = 9 ∨ d.kind = 11 ∨ d.kind = 5 ∨ d.kind = 16 ∨ d.kind = 19 := by omega
    rcases hk5 with k | k | k | k | k
    · obtain ⟨a, rfl, _⟩ := parts_one hF h.pl (by omega)
      exact ⟨a, 46 :: d.s, ⟨sh_9 k, h.sub a (by simp), fun u hu => folP_cons (by decide), fun u hu => by unfold tk; rw [if_pos k]; rfl, .inr (.inl ⟨k, rfl, rfl⟩)⟩⟩
    · obtain ⟨a, rfl, _⟩ := parts_one hF h.pl (by omega)
      exact ⟨a, 92 :: d.s, ⟨sh_11 k, h.sub a (by simp), fun u hu => folP_cons (by decide), fun u hu => by unfold tk; rw [if_neg (by omega), if_pos k]; rfl, .inr (.inr (.inl ⟨k, rfl, rfl⟩))⟩⟩
    · obtain ⟨a, c, rfl, _⟩ := parts_two hF h.pl (by omega)
      exact ⟨a, 32 :: c.pa, ⟨sh_5 k, h.sub a (by simp), fun u hu => folP_cons (by decide), fun u hu => by unfold tk; rw [if_neg (by omega), if_neg (by omega), if_pos k]; exact tkey_part (pa_start (h.sub c (by simp))) hu.1, .inr (.inr (.inr (.inl ⟨k, c, rfl, rfl⟩)))⟩⟩
    · obtain ⟨a, c, rfl, _⟩ := parts_two hF h.pl (by omega)
      exact ⟨a, 32 :: (d.s ++ (32 :: c.pa)), ⟨sh_16 k, h.sub a (by simp), fun u hu => folP_cons (by decide), fun u hu => by
        unfold tk
        rw [if_neg (by omega), if_neg (by omega), if_neg (by omega), if_pos k, List.cons_append, List.append_assoc]
        exact tkey_op (hF.op k), .inr (.inr (.inr (.inr (.inl ⟨k, c, rfl, rfl⟩))))⟩⟩
    · obtain ⟨a, c, rfl, _⟩ := parts_two hF h.pl (by omega)
      exact ⟨a, 32 :: 58 :: 61 :: 32 :: c.pa, ⟨sh_19 k, h.sub a (by simp), fun u hu => folP_cons (by decide), fun u hu => by unfold tk; rw [if_neg (by omega), if_neg (by omega), if_neg (by omega), if_neg (by omega), if_pos k]; rfl, .inr (.inr (.inr (.inr (.inr ⟨k, c, rfl, rfl⟩))))⟩⟩
theorem tk_bare {k : Int} (h : bareB k = true) : tk k = 0 := by
  unfold bareB at h
  have := of_decide_eq_true h
  unfold tk
  rw [if_neg (by omega), if_neg (by omega), if_neg (by omega), if_neg (by omega), if_neg (by omega)]
theorem ww_10 {d d' : ExD} {l m : List Ex} (h : (Ex.mk d l).Ok) (hy : (Ex.mk d' m).Ok) (hk : leadK d.kind = 10) (hk' : leadK d'.kind = 10) (BB : bareB d.kind = true → PP (.mk d l)) (IP : ∀ z ∈ l, PP z) {u v : Str} (hu : FolW u) (hv : FolW v) (e : (Ex.mk d l).sh ++ u = (Ex.mk d' m).sh ++ v) : (Ex.mk d l).eqv (.mk d' m) ∧ u = v := by
  obtain ⟨p, t, S⟩ := split10 h hk
  obtain ⟨p', t', S'⟩ := split10 hy hk'
  rw [S.sh, S'.sh, List.append_assoc, List.append_assoc] at e
  have hP : PP p := by
    rcases S.cas with ⟨a, b, _⟩ | ⟨_, b, _⟩ | ⟨_, b, _⟩ | ⟨_, c, b, _⟩ | ⟨_, c, b, _⟩ | ⟨_, c, b, _⟩
    · rw [b]; exact BB a
    all_goals exact IP p (by rw [b]; simp)
  obtain ⟨e1, e2⟩ := hP p' S'.ok _ _ (S.fol u hu.1) (S'.fol v hv.1) e
  have hkey : tk d.kind = tk d'.kind := by rw [← S.key u hu, e2, S'.key v hv]
  have t0 : ∀ (e : ExD) (q : List Ex), (Ex.mk e q).Ok → ¬ (e.kind = 7 ∨ e.kind = 14) → e.t = [] := fun e q ho hn => ho.fld.t0 hn
  rcases S.cas with ⟨a, b, c⟩ | ⟨a, b, c⟩ | ⟨a, b, c⟩ | ⟨a, z, b, c⟩ | ⟨a, z, b, c⟩ | ⟨a, z, b, c⟩ <;>
  rcases S'.cas with ⟨a', b', c'⟩ | ⟨a', b', c'⟩ | ⟨a', b', c'⟩ | ⟨a', z', b', c'⟩ | ⟨a', z', b', c'⟩ | ⟨a', z', b', c'⟩
  all_goals try (exfalso; first | (rw [tk_bare a, a'] at hkey; revert hkey; decide) | (rw [a, tk_bare a'] at hkey; revert hkey; decide) | (rw [a, a'] at hkey; revert hkey; decide))
  · rw [c, c'] at e2
    rw [b, b'] at e1
    exact ⟨e1, e2⟩
  · rw [c, c'] at e2
    simp only [List.cons_append, List.cons.injEq, true_and] at e2
    obtain ⟨e3, e4⟩ := run_eq (tok1 (h.fld.name (by omega))).2.1 (tok1 (hy.fld.name (by omega))).2.1 hu.1 hv.1 e2
    exact ⟨eqv_of h hy (by rw [a, a']) (by omega) (by omega) e3 (by rw [t0 d l h (by omega), t0 d' m hy (by omega)]) (by rw [b, b']; exact eq1 e1), e4⟩
  · rw [c, c'] at e2
    simp only [List.cons_append, List.cons.injEq, true_and] at e2
    obtain ⟨e3, e4⟩ := run_eq (tok1 (h.fld.name (by omega))).2.1 (tok1 (hy.fld.name (by omega))).2.1 hu.1 hv.1 e2
    exact ⟨eqv_of h hy (by rw [a, a']) (by omega) (by omega) e3 (by rw [t0 d l h (by omega), t0 d' m hy (by omega)]) (by rw [b, b']; exact eq1 e1), e4⟩
  · rw [c, c'] at e2
    simp only [List.cons_append, List.cons.injEq, true_and] at e2
    obtain ⟨e3, e4⟩ := IP z (by rw [b]; simp) z' (hy.sub z' (by rw [b']; simp)) _ _ hu.1 hv.1 e2
    exact ⟨eqv_of h hy (by rw [a, a']) (by omega) (by omega) (by rw [h.fld.s0 (by omega), hy.fld.s0 (by omega)]) (by rw [t0 d l h (by omega), t0 d' m hy (by omega)]) (by rw [b, b']; exact eq2 e1 e3), e4⟩
  · rw [c, c'] at e2
    simp only [List.cons_append, List.append_assoc, List.cons.injEq, true_and] at e2
    obtain ⟨e5, e6⟩ := op_pre (h.fld.op a) (hy.fld.op a') e2
    obtain ⟨e3, e4⟩ := IP z (by rw [b]; simp) z' (hy.sub z' (by rw [b']; simp)) _ _ hu.1 hv.1 e6
    exact ⟨eqv_of h hy (by rw [a, a']) (by omega) (by omega) e5 (by rw [t0 d l h (by omega), t0 d' m hy (by omega)]) (by rw [b, b']; exact eq2 e1 e3), e4⟩
  · rw [c, c'] at e2
    simp only [List.cons_append, List.cons.injEq, true_and] at e2
    obtain ⟨e3, e4⟩ := IP z (by rw [b]; simp) z' (hy.sub z' (by rw [b']; simp)) _ _ hu.1 hv.1 e2
    exact ⟨eqv_of h hy (by rw [a, a']) (by omega) (by omega) (by rw [h.fld.s0 (by omega), hy.fld.s0 (by omega)]) (by rw [t0 d l h (by omega), t0 d' m hy (by omega)]) (by rw [b, b']; exact eq2 e1 e3), e4⟩

/-! ### Matches -/
theorem match_parts {d : ExD} {l : List Ex} (h : (Ex.mk d l).Ok) (hk : d.kind = 14) : ∃ (a : Ex) (xs rs : List Ex), l = a :: (xs ++ rs) ∧ xs.length = d.ln ∧ d.nn = d.ln ∧ ((d.t = [] ∧ rs = []) ∨ (tokB d.t 1 = true ∧ ∃ r, rs = [r])) ∧ (∀ s ∈ d.labels, tokB s 3 = true) ∧ (∀ s ∈ d.names, tokB s 1 = true) := by
  have hF := h.fld
  have h3 := hF.lists
  unfold ExD.listsB at h3
  rw [if_neg (by omega), if_pos hk] at h3
  simp only [Bool.and_eq_true, decide_eq_true_eq] at h3
  have h30 : d.ln ≤ 30 := by have := labB_len h3.1.1.1; rw [h.ll] at this; exact this
  obtain ⟨h4, h5, h6⟩ := parts_match hF hk (by omega)
  have hpl := h.pl
  cases l with
  | nil => rw [h4] at hpl; simp at hpl; omega
  | cons a q =>
    simp only [List.length_cons] at hpl
    refine ⟨a, q.take d.ln, q.drop d.ln, by rw [List.take_append_drop], by rw [List.length_take]; omega, h5, ?_, labB_all h6, List.all_eq_true.1 h3.1.2⟩
    rcases hF.t14 hk with ht | ht
    · left
      rw [if_pos ht] at h4
      exact ⟨ht, List.drop_eq_nil_of_le (by omega)⟩
    · right
      have hne : d.t ≠ [] := by intro e; rw [e] at ht; cases ht
      rw [if_neg hne] at h4
      have hl1 : (q.drop d.ln).length = 1 := by rw [List.length_drop]; omega
      match hq : q.drop d.ln, hl1 with
      | [r], _ => exact ⟨ht, r, rfl⟩
theorem sh_14R {d : ExD} {a : Ex} {xs rs : List Ex} (h : (Ex.mk d (a :: (xs ++ rs))).Ok) (hk : d.kind = 14) (hx : xs.length = d.ln) (hn : d.nn = d.ln) :
    (Ex.mk d (a :: (xs ++ rs))).sh = [109, 97, 116, 99, 104, 32] ++ (a.sh ++ (32 :: 119 :: 105 :: 116 :: 104 :: (AR d.labels d.names (xs.map Ex.sh) ++ (d.restF (shAt (a :: (xs ++ rs))) ++ [32, 101, 110, 100])))) := by
  rw [sh_14 hk]
  have e0 : shAt (a :: (xs ++ rs)) 0 = a.sh := rfl
  rw [e0]
  have := armsTo_AR d.labels d.names (xs.map Ex.sh) (shAt (a :: (xs ++ rs))) (by rw [h.ll, h.nl, hn]) (by rw [h.ll, List.length_map, hx]) (fun i hi => by
    have hix : i < xs.length := by rw [hx, ← h.ll]; exact hi
    simp only [shAt, List.getD, List.map_cons, List.map_append, List.getElem?_cons_succ]
    rw [List.getElem?_append_left (by rw [List.length_map]; exact hix)])
  rw [h.ll] at this
  rw [this]
  simp only [List.append_assoc, List.cons_append, List.nil_append]
theorem ww_14 {d d' : ExD} {l m : List Ex} (h : (Ex.mk d l).Ok) (hy : (Ex.mk d' m).Ok) (hk : d.kind = 14) (hk' : d'.kind = 14) (IW : ∀ z ∈ l, WW z) {u v : Str} (hu : FolW u) (hv : FolW v) (e : (Ex.mk d l).sh ++ u = (Ex.mk d' m).sh ++ v) : (Ex.mk d l).eqv (.mk d' m) ∧ u = v := by
  obtain ⟨a, xs, rs, rfl, hx, hn, hr, hL, hN⟩ := match_parts h hk
  obtain ⟨a', xs', rs', rfl, hx', hn', hr', hL', hN'⟩ := match_parts hy hk'
  rw [sh_14R h hk hx hn, sh_14R hy hk' hx' hn'] at e
  simp only [List.append_assoc, List.cons_append, List.nil_append, List.cons.injEq, true_and] at e
  have fz : ∀ (e : ExD) (b : Ex) (ys qs : List Ex) (w : Str), FolW w → ys.length = e.ln → e.pn = (b :: (ys ++ qs)).length → ((e.t = [] ∧ qs = []) ∨ (tokB e.t 1 = true ∧ ∃ r, qs = [r])) →
      FolW (e.restF (shAt (b :: (ys ++ qs))) ++ ([32, 101, 110, 100] ++ w)) ∧ zkey (e.restF (shAt (b :: (ys ++ qs))) ++ ([32, 101, 110, 100] ++ w)) ≠ 1 ∧
      ((e.t = [] ∧ qs = [] ∧ e.restF (shAt (b :: (ys ++ qs))) ++ ([32, 101, 110, 100] ++ w) = 32 :: 101 :: 110 :: 100 :: w) ∨ (tokB e.t 1 = true ∧ ∃ r, qs = [r] ∧ e.restF (shAt (b :: (ys ++ qs))) ++ ([32, 101, 110, 100] ++ w) = 32 :: 124 :: 32 :: (e.t ++ (32 :: 45 :: 62 :: 32 :: (r.sh ++ (32 :: 101 :: 110 :: 100 :: w)))))) := by
    intro e b ys qs w hw hys hpn hq
    rcases hq with ⟨ht, rfl⟩ | ⟨ht, r, rfl⟩
    · have e1 : e.restF (shAt (b :: (ys ++ []))) ++ ([32, 101, 110, 100] ++ w) = 32 :: 101 :: 110 :: 100 :: w := by unfold ExD.restF; rw [if_pos ht]; rfl
      rw [e1]
      exact ⟨folW_stop st_end hw.1, by simp [zkey], .inl ⟨ht, rfl, rfl⟩⟩
    · have hne : e.t ≠ [] := by intro q; rw [q] at ht; cases ht
      have e2 : shAt (b :: (ys ++ [r])) (e.pn - 1) = r.sh := by
        rw [hpn]
        simp [shAt, List.getD]
      have e1 : e.restF (shAt (b :: (ys ++ [r]))) ++ ([32, 101, 110, 100] ++ w) = 32 :: 124 :: 32 :: (e.t ++ (32 :: 45 :: 62 :: 32 :: (r.sh ++ (32 :: 101 :: 110 :: 100 :: w)))) := by
        unfold ExD.restF; rw [if_neg hne, e2]; simp [List.append_assoc]
      rw [e1]
      exact ⟨folW_bar _, by rw [zkey_rest ht]; decide, .inr ⟨ht, r, rfl, rfl⟩⟩
  obtain ⟨f1, z1, g1⟩ := fz d a xs rs u hu hx h.pl.symm hr
  obtain ⟨f2, z2, g2⟩ := fz d' a' xs' rs' v hv hx' hy.pl.symm hr'
  simp only [List.cons_append, List.nil_append] at f1 z1 g1 f2 z2 g2
  have F : ∀ (ts ns ss : List Str) (Z : Str), FolW Z → FolP Z → FolW (32 :: 119 :: 105 :: 116 :: 104 :: (AR ts ns ss ++ Z)) := fun ts ns ss Z hZ hp => folW_stop st_with (folW_ar ts ns ss Z hZ).1
  obtain ⟨e1, e2⟩ := IW a (by simp) a' (hy.sub a' (by simp)) _ _ (F _ _ _ _ f1 f1.1) (F _ _ _ _ f2 f2.1) e
  simp only [List.cons.injEq, true_and] at e2
  obtain ⟨e3, e4, e5, e6⟩ := AR_inj d.labels d.names xs d'.labels d'.names xs' _ _ (by rw [h.ll, h.nl, hn]) (by rw [h.ll, hx]) (by rw [hy.ll, hy.nl, hn']) (by rw [hy.ll, hx']) hL hL' hN hN' (fun x hx => IW x (by simp [hx])) (fun y hyy => hy.sub y (by simp [hyy])) f1 f2 z1 z2 e2
  have base : ∀ (tt : d.t = d'.t) (rr : eqvL rs rs'), (Ex.mk d (a :: (xs ++ rs))).eqv (.mk d' (a' :: (xs' ++ rs'))) := fun tt rr =>
    ⟨by rw [hk, hk'], by rw [h.z (by omega), hy.z (by omega)], by rw [h.fld.s0 (by omega), hy.fld.s0 (by omega)], tt, e3, e4, by simp only [eqvL]; exact ⟨e1, eqvL_app e5 rr⟩⟩
  rcases g1 with ⟨t1, r1, q1⟩ | ⟨t1, r, r1, q1⟩ <;> rcases g2 with ⟨t2, r2, q2⟩ | ⟨t2, r', r2, q2⟩
  · rw [q1, q2] at e6
    simp only [List.cons.injEq, true_and] at e6
    exact ⟨base (by rw [t1, t2]) (by rw [r1, r2]; simp [eqvL]), e6⟩
  · rw [q1, q2] at e6; simp at e6
  · rw [q1, q2] at e6; simp at e6
  · rw [q1, q2] at e6
    simp only [List.cons.injEq, true_and] at e6
    obtain ⟨e7, e8⟩ := run_eq (tok1 t1).2.1 (tok1 t2).2.1 fol32 fol32 e6
    simp only [List.cons.injEq, true_and] at e8
    obtain ⟨e9, e10⟩ := IW r (by rw [r1]; simp) r' (hy.sub r' (by rw [r2]; simp)) _ _ (folW_stop st_end hu.1) (folW_stop st_end hv.1) e8
    simp only [List.cons.injEq, true_and] at e10
    exact ⟨base e7 (by rw [r1, r2]; exact eq1 e9), fw e10⟩
theorem one_kind {d d' : ExD} {l m : List Ex} (h : (Ex.mk d l).Ok) (hy : (Ex.mk d' m).Ok) (hk : d.kind = d'.kind) (hc : d.kind = 17 ∨ d.kind = 18 ∨ d.kind = 20 ∨ d.kind = 21) (c : Str) (s1 : ∀ (e : ExD) (a : Ex), e.kind = d.kind → (Ex.mk e [a]).sh = c ++ a.pa) (IP : ∀ z ∈ l, PP z) {u v : Str} (hu : FolW u) (hv : FolW v) (e : (Ex.mk d l).sh ++ u = (Ex.mk d' m).sh ++ v) : (Ex.mk d l).eqv (.mk d' m) ∧ u = v := by
  obtain ⟨a, rfl, _⟩ := parts_one h.fld h.pl (by omega)
  obtain ⟨a', rfl, _⟩ := parts_one hy.fld hy.pl (by omega)
  rw [s1 d a rfl, s1 d' a' hk.symm, List.append_assoc, List.append_assoc] at e
  obtain ⟨e1, e2⟩ := IP a (by simp) a' (hy.sub a' (by simp)) _ _ hu.1 hv.1 (fw e)
  exact ⟨eqv_of h hy hk (by omega) (by omega) (by rw [h.fld.s0 (by omega), hy.fld.s0 (by omega)]) (by rw [h.fld.t0 (by omega), hy.fld.t0 (by omega)]) (eq1 e1), e2⟩

theorem ww_of {d : ExD} {l : List Ex} (h : (Ex.mk d l).Ok) (IW : ∀ z ∈ l, WW z) (IP : ∀ z ∈ l, PP z) : WW (.mk d l) := by
  intro y hy u v hu hv e
  obtain ⟨d', m⟩ := y
  have hl : leadK d.kind = leadK d'.kind := by
    have h1 := lead_eq h hu.1
    have h2 := lead_eq hy hv.1
    rw [e] at h1
    exact h1.symm.trans h2
  have I := leadK_inv d'.kind
  by_cases k4 : d.kind = 4
  · have k' : d'.kind = 4 := I.1 (by rw [← hl, k4]; rfl)
    obtain ⟨a, rfl, _⟩ := parts_one h.fld h.pl (by omega)
    obtain ⟨a', rfl, _⟩ := parts_one hy.fld hy.pl (by omega)
    rw [sh_4 k4, sh_4 k'] at e
    simp only [List.append_assoc, List.cons_append, List.nil_append, List.cons.injEq, true_and] at e
    obtain ⟨e1, e2⟩ := run_eq (tok1 (h.fld.name (by omega))).2.1 (tok1 (hy.fld.name (by omega))).2.1 fol32 fol32 e
    simp only [List.cons.injEq, true_and] at e2
    obtain ⟨e3, e4⟩ := IW a (by simp) a' (hy.sub a' (by simp)) _ _ hu hv e2
    exact ⟨eqv_of h hy (by rw [k4, k']) (by omega) (by omega) e1 (by rw [h.fld.t0 (by omega), hy.fld.t0 (by omega)]) (eq1 e3), e4⟩
  by_cases k6 : d.kind = 6
  · obtain ⟨a, c, rfl, _⟩ := parts_two h.fld h.pl (by omega)
    have n1 := tok1 (h.fld.name (by omega))
    rcases I.2.1 (by rw [← hl, k6]; rfl) with k' | k'
    · obtain ⟨a', c', rfl, _⟩ := parts_two hy.fld hy.pl (by omega)
      rw [sh_6 k6, sh_6 k'] at e
      simp only [List.append_assoc, List.cons_append, List.nil_append, List.cons.injEq, true_and] at e
      obtain ⟨e1, e2⟩ := run_eq n1.2.1 (tok1 (hy.fld.name (by omega))).2.1 fol32 fol32 e
      simp only [List.cons.injEq, true_and] at e2
      obtain ⟨e3, e4⟩ := IW a (by simp) a' (hy.sub a' (by simp)) _ _ (fw_in _) (fw_in _) e2
      simp only [List.cons.injEq, true_and] at e4
      obtain ⟨e5, e6⟩ := IW c (by simp) c' (hy.sub c' (by simp)) _ _ hu hv e4
      exact ⟨eqv_of h hy (by rw [k6, k']) (by omega) (by omega) e1 (by rw [h.fld.t0 (by omega), hy.fld.t0 (by omega)]) (eq2 e3 e5), e6⟩
    · exfalso
      obtain ⟨a', c', rfl, _⟩ := parts_two hy.fld hy.pl (by omega)
      rw [sh_6 k6, sh_7 k'] at e
      simp only [List.append_assoc, List.cons_append, List.nil_append, List.cons.injEq, true_and] at e
      have e := (show d.s ++ (32 :: _) = [114, 101, 99] ++ (32 :: _) from e)
      obtain ⟨e1, _⟩ := run_eq n1.2.1 (allT_of (s := [114, 101, 99]) (by decide)) fol32 fol32 e
      exact n1.2.2 (by rw [e1]; decide)
  by_cases k7 : d.kind = 7
  · obtain ⟨a, c, rfl, _⟩ := parts_two h.fld h.pl (by omega)
    have n1 := tok1 (h.fld.name (by omega))
    rcases I.2.1 (by rw [← hl, k7]; rfl) with k' | k'
    · exfalso
      obtain ⟨a', c', rfl, _⟩ := parts_two hy.fld hy.pl (by omega)
      have n2 := tok1 (hy.fld.name (by omega))
      rw [sh_7 k7, sh_6 k'] at e
      simp only [List.append_assoc, List.cons_append, List.nil_append, List.cons.injEq, true_and] at e
      have e := (show [114, 101, 99] ++ (32 :: _) = d'.s ++ (32 :: _) from e)
      obtain ⟨e1, _⟩ := run_eq (allT_of (s := [114, 101, 99]) (by decide)) n2.2.1 fol32 fol32 e
      exact n2.2.2 (by rw [← e1]; decide)
    · obtain ⟨a', c', rfl, _⟩ := parts_two hy.fld hy.pl (by omega)
      rw [sh_7 k7, sh_7 k'] at e
      simp only [List.append_assoc, List.cons_append, List.nil_append, List.cons.injEq, true_and] at e
      obtain ⟨e1, e2⟩ := run_eq n1.2.1 (tok1 (hy.fld.name (by omega))).2.1 fol32 fol32 e
      simp only [List.cons.injEq, true_and] at e2
      obtain ⟨e7, e8⟩ := run_eq (tok1 (h.fld.t7 k7)).2.1 (tok1 (hy.fld.t7 k')).2.1 fol32 fol32 e2
      simp only [List.cons.injEq, true_and] at e8
      obtain ⟨e3, e4⟩ := IW a (by simp) a' (hy.sub a' (by simp)) _ _ (fw_in _) (fw_in _) e8
      simp only [List.cons.injEq, true_and] at e4
      obtain ⟨e5, e6⟩ := IW c (by simp) c' (hy.sub c' (by simp)) _ _ hu hv e4
      exact ⟨eqv_of h hy (by rw [k7, k']) (by omega) (by omega) e1 e7 (eq2 e3 e5), e6⟩
  by_cases k14 : d.kind = 14
  · exact ww_14 h hy k14 (I.2.2.1 (by rw [← hl, k14]; rfl)) IW hu hv e
  by_cases k15 : d.kind = 15
  · have k' : d'.kind = 15 := I.2.2.2.1 (by rw [← hl, k15]; rfl)
    obtain ⟨a, c, f, rfl, _⟩ := parts_three h.fld h.pl (by omega)
    obtain ⟨a', c', f', rfl, _⟩ := parts_three hy.fld hy.pl (by omega)
    rw [sh_15 k15, sh_15 k'] at e
    simp only [List.append_assoc, List.cons_append, List.nil_append, List.cons.injEq, true_and] at e
    obtain ⟨e1, e2⟩ := IW a (by simp) a' (hy.sub a' (by simp)) _ _ (fw_then _) (fw_then _) e
    simp only [List.cons.injEq, true_and] at e2
    obtain ⟨e3, e4⟩ := IW c (by simp) c' (hy.sub c' (by simp)) _ _ (fw_else _) (fw_else _) e2
    simp only [List.cons.injEq, true_and] at e4
    obtain ⟨e5, e6⟩ := IW f (by simp) f' (hy.sub f' (by simp)) _ _ hu hv e4
    exact ⟨eqv_of h hy (by rw [k15, k']) (by omega) (by omega) (by rw [h.fld.s0 (by omega), hy.fld.s0 (by omega)]) (by rw [h.fld.t0 (by omega), hy.fld.t0 (by omega)]) (eq3 e1 e3 e5), e6⟩
  by_cases k17 : d.kind = 17
  · exact one_kind h hy (by rw [k17]; exact (I.2.2.2.2.1 (by rw [← hl, k17]; rfl)).symm) (by omega) _ (fun e a hk => sh_17 (by rw [hk, k17])) IP hu hv e
  by_cases k20 : d.kind = 20
  · exact one_kind h hy (by rw [k20]; exact (I.2.2.2.2.2.1 (by rw [← hl, k20]; rfl)).symm) (by omega) _ (fun e a hk => sh_20 (by rw [hk, k20])) IP hu hv e
  by_cases k21 : d.kind = 21
  · exact one_kind h hy (by rw [k21]; exact (I.2.2.2.2.2.2.1 (by rw [← hl, k21]; rfl)).symm) (by omega) _ (fun e a hk => sh_21 (by rw [hk, k21])) IP hu hv e
  by_cases k18 : d.kind = 18
  · exact one_kind h hy (by rw [k18]; exact (I.2.2.2.2.2.2.2.1 (by rw [← hl, k18]; rfl)).symm) (by omega) _ (fun e a hk => sh_18 (by rw [hk, k18])) IP hu hv e
  by_cases k13 : d.kind = 13
  · have k' : d'.kind = 13 := I.2.2.2.2.2.2.2.2.1 (by rw [← hl, k13]; rfl)
    obtain ⟨a, rfl, _⟩ := parts_one h.fld h.pl (by omega)
    obtain ⟨a', rfl, _⟩ := parts_one hy.fld hy.pl (by omega)
    rw [sh_13 k13, sh_13 k'] at e
    simp only [List.append_assoc, List.cons_append, List.nil_append] at e
    obtain ⟨e1, e2⟩ := run_eq (tok3 (h.fld.tag k13)).2 (tok3 (hy.fld.tag k')).2 fol32 fol32 e
    simp only [List.cons.injEq, true_and] at e2
    obtain ⟨e3, e4⟩ := IP a (by simp) a' (hy.sub a' (by simp)) _ _ hu.1 hv.1 e2
    exact ⟨eqv_of h hy (by rw [k13, k']) (by omega) (by omega) e1 (by rw [h.fld.t0 (by omega), hy.fld.t0 (by omega)]) (eq1 e3), e4⟩
  · have e10 : leadK d.kind = 10 := by unfold leadK; rw [if_neg k4, if_neg (by omega), if_neg k14, if_neg k15, if_neg k17, if_neg k20, if_neg k21, if_neg k18, if_neg k13]
    exact ww_10 h hy e10 (by rw [← hl, e10]) (fun hb => bb_of h hb IW IP) IP hu hv e
theorem pp_of {d : ExD} {l : List Ex} (h : (Ex.mk d l).Ok) (IW : ∀ z ∈ l, WW z) (IP : ∀ z ∈ l, PP z) : PP (.mk d l) := by
  by_cases hb : bareB d.kind = true
  · exact bb_of h hb IW IP
  · intro y hy u v hu hv e
    have hp : pk d.kind = pk y.d.kind := by
      have h1 := pkey_eq h hu
      have h2 := pkey_eq hy hv
      rw [e] at h1
      exact h1.symm.trans h2
    have hb2 := hb
    unfold bareB at hb2
    rw [decide_eq_true_eq] at hb2
    have h6 : pk d.kind = 6 := by
      unfold pk
      rw [if_neg (by omega), if_neg (by omega), if_neg (by omega), if_neg (by omega), if_neg (by unfold braceB; rw [decide_eq_true_eq]; omega)]
    have hb' : ¬ bareB y.d.kind = true := by
      intro hc
      unfold bareB at hc
      have hc := of_decide_eq_true hc
      rw [h6] at hp
      unfold pk at hp
      rcases hc with k | k | k | k | k | k | k <;> (rw [k] at hp; revert hp; decide)
    rw [pa_brk (x := .mk d l) hb, pa_brk hb'] at e
    simp only [List.cons_append, List.append_assoc, List.nil_append, List.cons.injEq, true_and] at e
    obtain ⟨e1, e2⟩ := ww_of h IW IP y hy _ _ (folW_close u) (folW_close v) e
    simp only [List.cons.injEq, true_and] at e2
    exact ⟨e1, e2⟩
theorem ww_pp : ∀ (x : Ex), x.Ok → WW x ∧ PP x
  | .mk d l, h => by
    have ih : ∀ z ∈ l, WW z ∧ PP z := fun z hz => ww_pp z (h.sub z hz)
    exact ⟨ww_of h (fun z hz => (ih z hz).1) (fun z hz => (ih z hz).2), pp_of h (fun z hz => (ih z hz).1) (fun z hz => (ih z hz).2)⟩
theorem sh_inj {x y : Ex} (hx : x.Ok) (hy : y.Ok) (e : x.sh = y.sh) : x.eqv y :=
  ((ww_pp x hx).1 y hy [] [] folW_nil folW_nil (by rw [List.append_nil, List.append_nil]; exact e)).1

/-! ### Alike ones have one text -/
theorem shF_congr {d e : ExD} {T P : Nat → Str} (h1 : d.kind = e.kind) (h2 : d.n = e.n) (h3 : d.s = e.s) (h4 : d.t = e.t) (h5 : d.labels = e.labels) (h6 : d.names = e.names) (h7 : d.ln = e.ln) (h8 : d.pn = e.pn) : d.shF T P = e.shF T P := by
  unfold ExD.shF ExD.bracesF ExD.blockF ExD.matchF ExD.restF ExD.aheadF ExD.behindF
  rw [h1, h2, h3, h4, h5, h6, h7, h8]
mutual
theorem sh_congr : ∀ (x y : Ex), x.Ok → y.Ok → x.eqv y → x.sh = y.sh ∧ x.pa = y.pa
  | .mk d l, .mk e m, hx, hy, h => by
    obtain ⟨h1, h2, h3, h4, h5, h6, h7⟩ := h
    obtain ⟨a1, a2, a3⟩ := shL_congr l m hx.sub hy.sub h7
    have e1 : (Ex.mk d l).sh = (Ex.mk e m).sh := by
      rw [sh_mk, sh_mk]
      have b1 : shAt l = shAt m := by funext i; unfold shAt; rw [a1]
      have b2 : paAt l = paAt m := by funext i; unfold paAt; rw [a2]
      rw [b1, b2]
      exact shF_congr h1 h2 h3 h4 h5 h6 (by rw [← hx.ll, ← hy.ll, h5]) (by rw [← hx.pl, ← hy.pl, a3])
    exact ⟨e1, by unfold Ex.pa Ex.d; rw [e1]; show brk d.kind _ = brk e.kind _; rw [h1]⟩
theorem shL_congr : ∀ (l m : List Ex), (∀ x ∈ l, x.Ok) → (∀ x ∈ m, x.Ok) → eqvL l m → l.map Ex.sh = m.map Ex.sh ∧ l.map Ex.pa = m.map Ex.pa ∧ l.length = m.length
  | [], [], _, _, _ => ⟨rfl, rfl, rfl⟩
  | x :: l, y :: m, hx, hy, h => by
    simp only [eqvL] at h
    obtain ⟨a1, a2⟩ := sh_congr x y (hx x (by simp)) (hy y (by simp)) h.1
    obtain ⟨b1, b2, b3⟩ := shL_congr l m (fun z hz => hx z (by simp [hz])) (fun z hz => hy z (by simp [hz])) h.2
    exact ⟨by rw [List.map_cons, List.map_cons, a1, b1], by rw [List.map_cons, List.map_cons, a2, b2], by rw [List.length_cons, List.length_cons, b3]⟩
  | [], y :: m, _, _, h => by simp [eqvL] at h
  | x :: l, [], _, _, h => by simp [eqvL] at h
end
end Go.Proofs.YtaglmmcjhlehjaaDoor
