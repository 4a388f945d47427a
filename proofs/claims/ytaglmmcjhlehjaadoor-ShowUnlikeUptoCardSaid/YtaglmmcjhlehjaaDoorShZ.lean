/-
  Unlike expressions have unlike texts, and alike ones alike ones: whole. About no program.
-/
import Derived.Test.YtaglmmcjhlehjaaDoorShY
namespace Go.Proofs.YtaglmmcjhlehjaaDoor
open Go.RowKit
set_option linter.unusedVariables false
set_option linter.unusedSimpArgs false

theorem leadK_inv (k : Int) : (leadK k = 1 → k = 4) ∧ (leadK k = 2 → k = 6 ∨ k = 7) ∧ (leadK k = 3 → k = 14) ∧ (leadK k = 4 → k = 15) ∧ (leadK k = 5 → k = 17) ∧ (leadK k = 6 → k = 20) ∧ (leadK k = 7 → k = 21) ∧ (leadK k = 8 → k = 18) ∧ (leadK k = 9 → k = 13) ∧ (leadK k = 10 → k ≠ 4 ∧ k ≠ 6 ∧ k ≠ 7 ∧ k ≠ 14 ∧ k ≠ 15 ∧ k ≠ 17 ∧ k ≠ 20 ∧ k ≠ 21 ∧ k ≠ 18 ∧ k ≠ 13) := by
  by_cases h4 : k = 4
  · subst h4
    have e : leadK 4 = 1 := by decide
    rw [e]; simp
  by_cases h6 : k = 6
  · subst h6
    have e : leadK 6 = 2 := by decide
    rw [e]; simp
  by_cases h7 : k = 7
  · subst h7
    have e : leadK 7 = 2 := by decide
    rw [e]; simp
  by_cases h14 : k = 14
  · subst h14
    have e : leadK 14 = 3 := by decide
    rw [e]; simp
  by_cases h15 : k = 15
  · subst h15
    have e : leadK 15 = 4 := by decide
    rw [e]; simp
  by_cases h17 : k = 17
  · subst h17
    have e : leadK 17 = 5 := by decide
    rw [e]; simp
  by_cases h20 : k = 20
  · subst h20
    have e : leadK 20 = 6 := by decide
    rw [e]; simp
  by_cases h21 : k = 21
  · subst h21
    have e : leadK 21 = 7 := by decide
    rw [e]; simp
  by_cases h18 : k = 18
  · subst h18
    have e : leadK 18 = 8 := by decide
    rw [e]; simp
  by_cases h13 : k = 13
  · subst h13
    have e : leadK 13 = 9 := by decide
    rw [e]; simp
  have e : leadK k = 10 := by unfold leadK; rw [if_neg (by omega), if_neg (by omega), if_neg (by omega), if_neg (by omega), if_neg (by omega), if_neg (by omega), if_neg (by omega), if_neg (by omega), if_neg (by omega)]
  rw [e]
  simp
  exact ⟨h4, h6, h7, h14, h15, h17, h20, h21, h18, h13⟩
theorem pk_inv (k : Int) : (pk k = 1 → k = 1) ∧ (pk k = 2 → k = 2) ∧ (pk k = 3 → k = 3) ∧ (pk k = 4 → k = 22) ∧ (pk k = 5 → k = 8 ∨ k = 10 ∨ k = 12) := by
  unfold pk
  refine ⟨?_, ?_, ?_, ?_, ?_⟩ <;> intro h <;> (repeat' split at h) <;> first | omega | (rename_i hb; unfold braceB at hb; rw [decide_eq_true_eq] at hb; omega)
theorem sh_8R {d : ExD} {l : List Ex} (h : (Ex.mk d l).Ok) (hk : d.kind = 8) : (Ex.mk d l).sh = 123 :: (FF d.labels (l.map Ex.sh) ++ [125]) := by
  rw [sh_8 hk]
  have hp := (parts_rec h.fld hk).1
  have hl : d.labels.length = (l.map Ex.sh).length := by rw [List.length_map, h.pl, h.ll, hp]
  rw [← h.ll]
  have := fieldsTo_FF d.labels (l.map Ex.sh) hl
  rw [show fieldsTo d.labels (shAt l) d.labels.length = FF d.labels (l.map Ex.sh) from this]
/-- A name and ' = ' ahead, against a part and ' with ' ahead. -/
theorem not_with {s t r r' : Str} (hs : tokB s 1 = true) (ht : PS t) (h : s ++ (32 :: 61 :: r) = t ++ (32 :: 119 :: r')) : False := by
  obtain ⟨⟨c, q, e, hc⟩, ha, hw⟩ := tok1 hs
  obtain ⟨hd, _, h1, h2, h3, _⟩ := low_dig hc
  cases ht with
  | dig c' r h' =>
    rw [e] at h
    simp only [List.cons_append, List.cons.injEq] at h
    rw [h.1, h'] at hd; cases hd
  | quo r => rw [e] at h; simp only [List.cons_append, List.cons.injEq] at h; exact h1 h.1
  | brc r => rw [e] at h; simp only [List.cons_append, List.cons.injEq] at h; exact h2 h.1
  | par r => rw [e] at h; simp only [List.cons_append, List.cons.injEq] at h; exact h3 h.1
  | nam c' r h' ha' hw' =>
    obtain ⟨_, e2⟩ := run_eq ha ha' fol32 fol32 h
    simp at e2
  | rea =>
    obtain ⟨e1, _⟩ := run_eq ha (allT_of (s := [114, 101, 97, 100]) (by decide)) fol32 fol32 h
    exact hw (by rw [e1]; exact read_word)
theorem not_with0 {t r r' : Str} (ht : PS t) (h : 125 :: r = t ++ r') : False := by
  cases ht with
  | dig c' q h' => simp only [List.cons_append, List.cons.injEq] at h; exact (dig_not h').2.2.2.2.2.2.2.2 h.1.symm
  | quo q => simp at h
  | brc q => simp at h
  | par q => simp at h
  | nam c' q h' _ _ => simp only [List.cons_append, List.cons.injEq] at h; exact (low_dig h').2.2.2.2.2.2.2.2 h.1.symm
  | rea => simp at h
theorem lab8 {d : ExD} {l : List Ex} (h : (Ex.mk d l).Ok) (hk : d.kind = 8) : (∀ s ∈ d.labels, tokB s 1 = true) ∧ d.labels.length = l.length ∧ d.names = [] := by
  obtain ⟨h1, h2, _, h4⟩ := parts_rec h.fld hk
  exact ⟨labB_all h4, by rw [h.ll, h.pl, h1], List.length_eq_zero_iff.1 (by rw [h.nl, h2])⟩
/-- What stands in braces, beginning with a name: a record's fields, or one more field. -/
theorem brace_name {d e : ExD} {l : List Ex} {a c : Ex} (h : (Ex.mk d l).Ok) (hk : d.kind = 8) (h' : (Ex.mk e [a, c]).Ok) (hk' : e.kind = 10) (IW : ∀ z ∈ l, WW z) {u v : Str} (q : FF d.labels (l.map Ex.sh) ++ 125 :: u = e.s ++ (32 :: 61 :: 32 :: (a.sh ++ (32 :: 124 :: v)))) : False := by
  obtain ⟨ht, hl, _⟩ := lab8 h hk
  have hn := h'.fld.name (by omega)
  cases hd : d.labels with
  | nil =>
    rw [hd] at q
    simp only [FF, List.nil_append] at q
    obtain ⟨⟨x, r, es, hc⟩, _⟩ := tok1 hn
    rw [es] at q
    simp only [List.cons_append, List.cons.injEq] at q
    exact (low_dig hc).2.2.2.2.2.2.2.2 q.1.symm
  | cons s ss =>
    cases hm : l with
    | nil => rw [hd, hm] at hl; simp at hl
    | cons x xs =>
      rw [hd, hm] at q
      simp only [FF, List.map_cons, List.append_assoc, List.cons_append] at q
      obtain ⟨e1, e2⟩ := run_eq (tok1 (ht s (by rw [hd]; simp))).2.1 (tok1 hn).2.1 fol32 fol32 q
      simp only [List.cons.injEq, true_and] at e2
      obtain ⟨_, e3⟩ := IW x (by rw [hm]; simp) a (h'.sub a (by simp)) _ _ (folW_fr _ _ _) (folW_bar _) e2
      cases ss with
      | nil => simp [FR] at e3
      | cons s2 ss2 =>
        cases xs with
        | nil => simp [FR] at e3
        | cons x2 xs2 => simp [FR] at e3
theorem brace_name' {d e : ExD} {l : List Ex} {a c : Ex} (h : (Ex.mk d l).Ok) (hk : d.kind = 8) (h' : (Ex.mk e [a, c]).Ok) (hk' : e.kind = 10) (IW : WW a) {u v : Str} (q : e.s ++ (32 :: 61 :: 32 :: (a.sh ++ (32 :: 124 :: v))) = FF d.labels (l.map Ex.sh) ++ 125 :: u) : False := by
  obtain ⟨ht, hl, _⟩ := lab8 h hk
  have hn := h'.fld.name (by omega)
  cases hd : d.labels with
  | nil =>
    rw [hd] at q
    simp only [FF, List.nil_append] at q
    obtain ⟨⟨x, r, es, hc⟩, _⟩ := tok1 hn
    rw [es] at q
    simp only [List.cons_append, List.cons.injEq] at q
    exact (low_dig hc).2.2.2.2.2.2.2.2 q.1
  | cons s ss =>
    cases hm : l with
    | nil => rw [hd, hm] at hl; simp at hl
    | cons x xs =>
      rw [hd, hm] at q
      simp only [FF, List.map_cons, List.append_assoc, List.cons_append] at q
      obtain ⟨e1, e2⟩ := run_eq (tok1 hn).2.1 (tok1 (ht s (by rw [hd]; simp))).2.1 fol32 fol32 q
      simp only [List.cons.injEq, true_and] at e2
      obtain ⟨_, e3⟩ := IW x (h.sub x (by rw [hm]; simp)) _ _ (folW_bar _) (folW_fr _ _ _) e2
      cases ss with
      | nil => simp [FR] at e3
      | cons s2 ss2 =>
        cases xs with
        | nil => simp [FR] at e3
        | cons x2 xs2 => simp [FR] at e3
theorem rec_with {d e : ExD} {l : List Ex} {a c : Ex} (h : (Ex.mk d l).Ok) (hk : d.kind = 8) (h' : (Ex.mk e [a, c]).Ok) (hk' : e.kind = 12) {u v : Str} (q : FF d.labels (l.map Ex.sh) ++ 125 :: u = c.pa ++ (32 :: 119 :: v)) : False := by
  obtain ⟨ht, hl, _⟩ := lab8 h hk
  have hc := pa_start (h'.sub c (by simp))
  cases hd : d.labels with
  | nil => rw [hd] at q; simp only [FF, List.nil_append] at q; exact not_with0 hc q
  | cons s ss =>
    cases hm : l with
    | nil => rw [hd, hm] at hl; simp at hl
    | cons x xs =>
      rw [hd, hm] at q
      simp only [FF, List.map_cons, List.append_assoc, List.cons_append] at q
      exact not_with (ht s (by rw [hd]; simp)) hc q
theorem FF_inj {d e : ExD} {l m : List Ex} (h : (Ex.mk d l).Ok) (hk : d.kind = 8) (h' : (Ex.mk e m).Ok) (hk' : e.kind = 8) (IW : ∀ z ∈ l, WW z) {u v : Str} (q : FF d.labels (l.map Ex.sh) ++ 125 :: u = FF e.labels (m.map Ex.sh) ++ 125 :: v) : d.labels = e.labels ∧ eqvL l m ∧ u = v := by
  obtain ⟨ht, hl, _⟩ := lab8 h hk
  obtain ⟨ht', hl', _⟩ := lab8 h' hk'
  have key : 44 :: 32 :: (FF d.labels (l.map Ex.sh) ++ 125 :: u) = 44 :: 32 :: (FF e.labels (m.map Ex.sh) ++ 125 :: v) := by rw [q]
  cases hd : d.labels with
  | nil =>
    cases he : e.labels with
    | nil =>
      rw [hd] at hl; rw [he] at hl'
      have a1 : l = [] := List.length_eq_zero_iff.1 hl.symm
      have a2 : m = [] := List.length_eq_zero_iff.1 hl'.symm
      rw [hd, he] at q
      simp [FF] at q
      exact ⟨rfl, by rw [a1, a2]; simp [eqvL], q⟩
    | cons s ss =>
      exfalso
      cases hm : m with
      | nil => rw [he, hm] at hl'; simp at hl'
      | cons x xs =>
        rw [hd, he, hm] at q
        simp only [FF, List.nil_append, List.map_cons, List.append_assoc] at q
        obtain ⟨⟨x, r, es, hc⟩, _⟩ := tok1 (ht' s (by rw [he]; simp))
        rw [es] at q
        simp only [List.cons_append, List.cons.injEq] at q
        exact (low_dig hc).2.2.2.2.2.2.2.2 q.1.symm
  | cons s ss =>
    cases hm : l with
    | nil => rw [hd, hm] at hl; simp at hl
    | cons x xs =>
      cases he : e.labels with
      | nil =>
        exfalso
        rw [hd, he, hm] at q
        simp only [FF, List.nil_append, List.map_cons, List.append_assoc] at q
        obtain ⟨⟨x, r, es, hc⟩, _⟩ := tok1 (ht s (by rw [hd]; simp))
        rw [es] at q
        simp only [List.cons_append, List.cons.injEq] at q
        exact (low_dig hc).2.2.2.2.2.2.2.2 q.1
      | cons t ts =>
        cases hn : m with
        | nil => rw [he, hn] at hl'; simp at hl'
        | cons y ys =>
          have g : FR (s :: ss) ((x :: xs).map Ex.sh) ++ 125 :: u = FR (t :: ts) ((y :: ys).map Ex.sh) ++ 125 :: v := by
            rw [hd, hm, he, hn] at q
            simp only [FF, FR, List.map_cons, List.append_assoc, List.cons_append] at q ⊢
            rw [q]
          exact FR_inj (s :: ss) (x :: xs) (t :: ts) (y :: ys) u v (by rw [← hd, ← hm]; exact hl) (by rw [← he, ← hn]; exact hl') (by rw [← hd]; exact ht) (by rw [← he]; exact ht') (by rw [← hm]; exact IW) (by rw [← hn]; exact h'.sub) g

theorem bb_of {d : ExD} {l : List Ex} (h : (Ex.mk d l).Ok) (hb : bareB d.kind = true) (IW : ∀ z ∈ l, WW z) (IP : ∀ z ∈ l, PP z) : PP (.mk d l) := by
  intro y hy u v hu hv e
  obtain ⟨d', m⟩ := y
  have hp : pk d.kind = pk d'.kind := by
    have h1 := pkey_eq h hu
    have h2 := pkey_eq hy hv
    rw [e] at h1
    exact h1.symm.trans h2
  have hI := pk_inv d'.kind
  have hb1 := hb
  unfold bareB at hb1
  rcases of_decide_eq_true hb1 with k | k | k | k | k | k | k
  · have hk' : d'.kind = 1 := hI.1 (by rw [← hp, k]; rfl)
    have hb' : bareB d'.kind = true := by unfold bareB; exact decide_eq_true (by omega)
    rw [pa_bare (x := .mk d l) hb, pa_bare (x := .mk d' m) hb', sh_1 k, sh_1 hk'] at e
    obtain ⟨e1, e2⟩ := run_eq (fun c hc => dig_tag (itoa_all (h.fld.n0 k) c hc)) (fun c hc => dig_tag (itoa_all (hy.fld.n0 hk') c hc)) hu hv e
    have a := h.l0 (by omega)
    have b := hy.l0 (by omega)
    refine ⟨⟨by rw [k, hk'], itoa_inj (h.fld.n0 k) (hy.fld.n0 hk') e1, by rw [h.fld.s0 (by omega), hy.fld.s0 (by omega)], by rw [h.fld.t0 (by omega), hy.fld.t0 (by omega)], by rw [a.1, b.1], by rw [a.2, b.2], ?_⟩, e2⟩
    rw [parts_none h (by omega), parts_none hy (by omega)]; simp [eqvL]
  · have hk' : d'.kind = 2 := hI.2.1 (by rw [← hp, k]; rfl)
    have hb' : bareB d'.kind = true := by unfold bareB; exact decide_eq_true (by omega)
    rw [pa_bare (x := .mk d l) hb, pa_bare (x := .mk d' m) hb', sh_2 k, sh_2 hk'] at e
    obtain ⟨q, hq⟩ := h.fld.quote k
    obtain ⟨q', hq'⟩ := hy.fld.quote hk'
    rw [hq, hq'] at e
    obtain ⟨e1, e2⟩ := quote_pre hq hq' e
    exact ⟨eqv_of h hy (by rw [k, hk']) (by omega) (by omega) e1 (by rw [h.fld.t0 (by omega), hy.fld.t0 (by omega)]) (by rw [parts_none h (by omega), parts_none hy (by omega)]; simp [eqvL]), e2⟩
  · have hk' : d'.kind = 3 := hI.2.2.1 (by rw [← hp, k]; rfl)
    have hb' : bareB d'.kind = true := by unfold bareB; exact decide_eq_true (by omega)
    rw [pa_bare (x := .mk d l) hb, pa_bare (x := .mk d' m) hb', sh_3 k, sh_3 hk'] at e
    obtain ⟨e1, e2⟩ := run_eq (tok1 (h.fld.name (by omega))).2.1 (tok1 (hy.fld.name (by omega))).2.1 hu hv e
    exact ⟨eqv_of h hy (by rw [k, hk']) (by omega) (by omega) e1 (by rw [h.fld.t0 (by omega), hy.fld.t0 (by omega)]) (by rw [parts_none h (by omega), parts_none hy (by omega)]; simp [eqvL]), e2⟩
  · have hk' : d'.kind = 8 ∨ d'.kind = 10 ∨ d'.kind = 12 := hI.2.2.2.2 (by rw [← hp, k]; rfl)
    have hb' : bareB d'.kind = true := by unfold bareB; exact decide_eq_true (by omega)
    rw [pa_bare (x := .mk d l) hb, pa_bare (x := .mk d' m) hb', sh_8R h k] at e
    rcases hk' with k' | k' | k'
    · rw [sh_8R hy k'] at e
      simp only [List.cons_append, List.append_assoc, List.cons.injEq, true_and, List.nil_append] at e
      obtain ⟨e1, e2, e3⟩ := FF_inj h k hy k' IW e
      exact ⟨⟨by rw [k, k'], by rw [h.z (by omega), hy.z (by omega)], by rw [h.fld.s0 (by omega), hy.fld.s0 (by omega)], by rw [h.fld.t0 (by omega), hy.fld.t0 (by omega)], e1, by rw [(lab8 h k).2.2, (lab8 hy k').2.2], e2⟩, e3⟩
    · exfalso
      obtain ⟨a, c, rfl, _⟩ := parts_two hy.fld hy.pl (by omega)
      rw [sh_10 k'] at e
      simp only [List.cons_append, List.append_assoc, List.cons.injEq, true_and, List.nil_append] at e
      exact brace_name h k hy k' IW e
    · exfalso
      obtain ⟨a, c, rfl, _⟩ := parts_two hy.fld hy.pl (by omega)
      rw [sh_12 k'] at e
      simp only [List.cons_append, List.append_assoc, List.cons.injEq, true_and, List.nil_append] at e
      exact rec_with h k hy k' e
  · have hk' : d'.kind = 8 ∨ d'.kind = 10 ∨ d'.kind = 12 := hI.2.2.2.2 (by rw [← hp, k]; rfl)
    have hb' : bareB d'.kind = true := by unfold bareB; exact decide_eq_true (by omega)
    obtain ⟨a, c, rfl, _⟩ := parts_two h.fld h.pl (by omega)
    rw [pa_bare (x := .mk d _) hb, pa_bare (x := .mk d' m) hb', sh_10 k] at e
    rcases hk' with k' | k' | k'
    · exfalso
      rw [sh_8R hy k'] at e
      simp only [List.cons_append, List.append_assoc, List.cons.injEq, true_and, List.nil_append] at e
      exact brace_name' hy k' h k (IW a (by simp)) e
    · obtain ⟨a', c', rfl, _⟩ := parts_two hy.fld hy.pl (by omega)
      rw [sh_10 k'] at e
      simp only [List.cons_append, List.append_assoc, List.cons.injEq, true_and, List.nil_append] at e
      obtain ⟨e1, e2⟩ := run_eq (tok1 (h.fld.name (by omega))).2.1 (tok1 (hy.fld.name (by omega))).2.1 fol32 fol32 e
      simp only [List.cons.injEq, true_and] at e2
      obtain ⟨e3, e4⟩ := IW a (by simp) a' (hy.sub a' (by simp)) _ _ (folW_bar _) (folW_bar _) e2
      simp only [List.cons.injEq, true_and] at e4
      obtain ⟨e5, e6⟩ := IW c (by simp) c' (hy.sub c' (by simp)) _ _ (folW_brace _) (folW_brace _) e4
      simp only [List.cons.injEq, true_and] at e6
      exact ⟨eqv_of h hy (by rw [k, k']) (by omega) (by omega) e1 (by rw [h.fld.t0 (by omega), hy.fld.t0 (by omega)]) (eq2 e3 e5), e6⟩
    · exfalso
      obtain ⟨a', c', rfl, _⟩ := parts_two hy.fld hy.pl (by omega)
      rw [sh_12 k'] at e
      simp only [List.cons_append, List.append_assoc, List.cons.injEq, true_and, List.nil_append] at e
      exact not_with (h.fld.name (by omega)) (pa_start (hy.sub c' (by simp))) e
  · have hk' : d'.kind = 8 ∨ d'.kind = 10 ∨ d'.kind = 12 := hI.2.2.2.2 (by rw [← hp, k]; rfl)
    have hb' : bareB d'.kind = true := by unfold bareB; exact decide_eq_true (by omega)
    obtain ⟨a, c, rfl, _⟩ := parts_two h.fld h.pl (by omega)
    rw [pa_bare (x := .mk d _) hb, pa_bare (x := .mk d' m) hb', sh_12 k] at e
    rcases hk' with k' | k' | k'
    · exfalso
      rw [sh_8R hy k'] at e
      simp only [List.cons_append, List.append_assoc, List.cons.injEq, true_and, List.nil_append] at e
      exact rec_with hy k' h k e.symm
    · exfalso
      obtain ⟨a', c', rfl, _⟩ := parts_two hy.fld hy.pl (by omega)
      rw [sh_10 k'] at e
      simp only [List.cons_append, List.append_assoc, List.cons.injEq, true_and, List.nil_append] at e
      exact not_with (hy.fld.name (by omega)) (pa_start (h.sub c (by simp))) e.symm
    · obtain ⟨a', c', rfl, _⟩ := parts_two hy.fld hy.pl (by omega)
      rw [sh_12 k'] at e
      simp only [List.cons_append, List.append_assoc, List.cons.injEq, true_and, List.nil_append] at e
      obtain ⟨e3, e4⟩ := IP c (by simp) c' (hy.sub c' (by simp)) _ _ fol32 fol32 e
      simp only [List.cons.injEq, true_and] at e4
      obtain ⟨e1, e2⟩ := run_eq (tok1 (h.fld.name (by omega))).2.1 (tok1 (hy.fld.name (by omega))).2.1 fol32 fol32 e4
      simp only [List.cons.injEq, true_and] at e2
      obtain ⟨e5, e6⟩ := IW a (by simp) a' (hy.sub a' (by simp)) _ _ (folW_brace _) (folW_brace _) e2
      simp only [List.cons.injEq, true_and] at e6
      exact ⟨eqv_of h hy (by rw [k, k']) (by omega) (by omega) e1 (by rw [h.fld.t0 (by omega), hy.fld.t0 (by omega)]) (eq2 e5 e3), e6⟩
  · have hk' : d'.kind = 22 := hI.2.2.2.1 (by rw [← hp, k]; rfl)
    have hb' : bareB d'.kind = true := by unfold bareB; exact decide_eq_true (by omega)
    rw [pa_bare (x := .mk d l) hb, pa_bare (x := .mk d' m) hb', sh_22 k, sh_22 hk'] at e
    exact ⟨eqv_of h hy (by rw [k, hk']) (by omega) (by omega) (by rw [h.fld.s0 (by omega), hy.fld.s0 (by omega)]) (by rw [h.fld.t0 (by omega), hy.fld.t0 (by omega)]) (by rw [parts_none h (by omega), parts_none hy (by omega)]; simp [eqvL]), fw e⟩
end Go.Proofs.YtaglmmcjhlehjaaDoor
