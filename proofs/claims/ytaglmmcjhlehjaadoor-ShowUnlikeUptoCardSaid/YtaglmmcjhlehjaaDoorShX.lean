/-
  Unlike expressions have unlike texts: by what a text begins with, its kind is told. About no program.
-/
import Derived.Test.YtaglmmcjhlehjaaDoorShW
namespace Go.Proofs.YtaglmmcjhlehjaaDoor
open Go.RowKit
set_option linter.unusedVariables false
set_option linter.unusedSimpArgs false

theorem runT_app {s u : Str} (hs : AllT s) (hu : FolP u) : (s ++ u).takeWhile tagB = s := by
  induction s with
  | nil =>
    cases u with
    | nil => rfl
    | cons c r => simp [List.takeWhile_cons, hu c r rfl]
  | cons c s ih =>
    simp only [List.cons_append, List.takeWhile_cons, hs c (by simp), if_true]
    rw [ih (fun x hx => hs x (by simp [hx]))]
theorem allT_of {s : Str} (h : s.all tagB = true) : AllT s := fun c hc => List.all_eq_true.1 h c hc
def kread : Str := [114, 101, 97, 100]
def pkey (w : Str) : Nat := match w with
  | [] => 0
  | c :: r => if digB c = true then 1 else if c = 34 then 2 else if c = 123 then 5 else if c = 40 then 6 else if lowB c = true then (if (c :: r).takeWhile tagB = kread then 4 else 3) else 0
def pk (k : Int) : Nat := if k = 1 then 1 else if k = 2 then 2 else if k = 3 then 3 else if k = 22 then 4 else if braceB k = true then 5 else 6
theorem low_dig {c : UInt8} (h : lowB c = true) : digB c = false ∧ highB c = false ∧ c ≠ 34 ∧ c ≠ 123 ∧ c ≠ 40 ∧ c ≠ 33 ∧ c ≠ 124 ∧ c ≠ 58 ∧ c ≠ 125 := by
  unfold lowB at h
  have h1 := of_decide_eq_true h
  unfold digB highB
  refine ⟨decide_eq_false (by omega), decide_eq_false (by omega), ?_, ?_, ?_, ?_, ?_, ?_, ?_⟩ <;> rintro rfl <;> simp at h1
theorem dig_not {c : UInt8} (h : digB c = true) : lowB c = false ∧ highB c = false ∧ c ≠ 34 ∧ c ≠ 123 ∧ c ≠ 40 ∧ c ≠ 33 ∧ c ≠ 124 ∧ c ≠ 58 ∧ c ≠ 125 := by
  unfold digB at h
  have h1 := of_decide_eq_true h
  unfold lowB highB
  refine ⟨decide_eq_false (by omega), decide_eq_false (by omega), ?_, ?_, ?_, ?_, ?_, ?_, ?_⟩ <;> rintro rfl <;> simp at h1
theorem high_not {c : UInt8} (h : highB c = true) : lowB c = false ∧ digB c = false ∧ c ≠ 34 ∧ c ≠ 123 ∧ c ≠ 40 ∧ c ≠ 33 ∧ tagB c = true := by
  unfold highB at h
  have h1 := of_decide_eq_true h
  refine ⟨by unfold lowB; exact decide_eq_false (by omega), by unfold digB; exact decide_eq_false (by omega), ?_, ?_, ?_, ?_, by unfold tagB highB; rw [h]; simp⟩ <;> rintro rfl <;> simp at h1
theorem read_word : kread ∈ wordsL := by decide
theorem pkey_eq {x : Ex} (h : x.Ok) {u : Str} (hu : FolP u) : pkey (x.pa ++ u) = pk x.d.kind := by
  obtain ⟨d, l⟩ := x
  show _ = pk d.kind
  by_cases hb : bareB d.kind = true
  · rw [pa_bare (x := .mk d l) hb]
    have hF := h.fld
    unfold bareB at hb
    rcases of_decide_eq_true hb with k | k | k | k | k | k | k
    · have e : pk d.kind = 1 := by unfold pk; rw [if_pos k]
      rw [sh_1 k, e]
      have h1 := itoa_all (hF.n0 k)
      cases hi : Lib.itoa d.n with
      | nil => exact absurd hi (itoa_ne' d.n)
      | cons c r => rw [hi] at h1; simp [pkey, h1 c (by simp)]
    · have e : pk d.kind = 2 := by unfold pk; rw [if_neg (by omega), if_pos k]
      rw [sh_2 k, e]
      obtain ⟨q, hq⟩ := hF.quote k
      rw [hq]
      unfold quoteS at hq
      split at hq
      · cases hq
      · cases hb : qbody d.s with
        | none => rw [hb] at hq; cases hq
        | some b => rw [hb] at hq; simp at hq; subst hq; simp [pkey, digB]
    · have e : pk d.kind = 3 := by unfold pk; rw [if_neg (by omega), if_neg (by omega), if_pos k]
      rw [sh_3 k, e]
      obtain ⟨⟨c, r, es, hc⟩, ha, hw⟩ := tok1 (hF.name (by omega))
      have hr := runT_app ha hu
      have hne : d.s ≠ kread := fun e => hw (by rw [e]; exact read_word)
      rw [es] at ha hw hr hne ⊢
      obtain ⟨h1, _, h2, h3, h4, _⟩ := low_dig hc
      rw [List.cons_append] at hr ⊢
      simp only [pkey, h1, h2, h3, h4, hc, if_true, if_false, Bool.false_eq_true, hr]
      rw [if_neg hne]
    · have e : pk d.kind = 5 := by unfold pk; rw [if_neg (by omega), if_neg (by omega), if_neg (by omega), if_neg (by omega), if_pos (by unfold braceB; exact decide_eq_true (by omega))]
      rw [sh_8 k, e]; simp [pkey, digB]
    · have e : pk d.kind = 5 := by unfold pk; rw [if_neg (by omega), if_neg (by omega), if_neg (by omega), if_neg (by omega), if_pos (by unfold braceB; exact decide_eq_true (by omega))]
      obtain ⟨a, c, rfl, _⟩ := parts_two hF h.pl (by omega)
      rw [sh_10 k, e]; simp [pkey, digB]
    · have e : pk d.kind = 5 := by unfold pk; rw [if_neg (by omega), if_neg (by omega), if_neg (by omega), if_neg (by omega), if_pos (by unfold braceB; exact decide_eq_true (by omega))]
      obtain ⟨a, c, rfl, _⟩ := parts_two hF h.pl (by omega)
      rw [sh_12 k, e]; simp [pkey, digB]
    · have e : pk d.kind = 4 := by unfold pk; rw [if_neg (by omega), if_neg (by omega), if_neg (by omega), if_pos k]
      have hr := runT_app (s := kread) (allT_of (by decide)) hu
      rw [sh_22 k, e]
      show pkey (114 :: ([101, 97, 100] ++ u)) = 4
      simp only [pkey]
      rw [show (114 :: ([101, 97, 100] ++ u)) = kread ++ u from rfl, hr]
      simp [digB, lowB]
  · have e : pk d.kind = 6 := by
      unfold pk
      unfold bareB at hb
      rw [decide_eq_true_eq] at hb
      rw [if_neg (by omega), if_neg (by omega), if_neg (by omega), if_neg (by omega), if_neg (by unfold braceB; rw [decide_eq_true_eq]; omega)]
    rw [pa_brk (x := .mk d l) hb, e]; simp [pkey, digB]

/-! ### What a whole text begins with -/
def kfn : Str := [102, 110]
def klet : Str := [108, 101, 116]
def kmatch : Str := [109, 97, 116, 99, 104]
def kif : Str := [105, 102]
def kref : Str := [114, 101, 102]
def kprint : Str := [112, 114, 105, 110, 116]
def kshow : Str := [115, 104, 111, 119]
def headH (w : Str) : Bool := match w with
  | [] => false
  | c :: _ => highB c
def headX (w : Str) : Bool := match w with
  | [] => false
  | c :: _ => decide (c = 33)
def leadOf (w : Str) : Nat :=
  let r := w.takeWhile tagB
  if r = kfn then 1 else if r = klet then 2 else if r = kmatch then 3 else if r = kif then 4 else if r = kref then 5 else if r = kprint then 6 else if r = kshow then 7 else if headX w = true then 8 else if headH w = true then 9 else 10
def leadK (k : Int) : Nat := if k = 4 then 1 else if k = 6 ∨ k = 7 then 2 else if k = 14 then 3 else if k = 15 then 4 else if k = 17 then 5 else if k = 20 then 6 else if k = 21 then 7 else if k = 18 then 8 else if k = 13 then 9 else 10
theorem lead_run {w r : Str} (h : w.takeWhile tagB = r) : leadOf w = (if r = kfn then 1 else if r = klet then 2 else if r = kmatch then 3 else if r = kif then 4 else if r = kref then 5 else if r = kprint then 6 else if r = kshow then 7 else if headX w = true then 8 else if headH w = true then 9 else 10) := by
  unfold leadOf; rw [h]
theorem lead_kw {k u : Str} (hk : AllT k) : (k ++ 32 :: u).takeWhile tagB = k := runT_app hk (folP_cons (by decide))
theorem run_low {c : UInt8} {r : Str} (h : lowB c = false) : ∀ k ∈ [kfn, klet, kmatch, kif, kref, kprint, kshow], (c :: r).takeWhile tagB ≠ k := by
  intro k hk e
  have hl : ∃ a b, k = a :: b ∧ lowB a = true := by
    simp only [List.mem_cons, List.not_mem_nil, or_false] at hk
    rcases hk with rfl | rfl | rfl | rfl | rfl | rfl | rfl
    · exact ⟨102, [110], rfl, by decide⟩
    · exact ⟨108, [101, 116], rfl, by decide⟩
    · exact ⟨109, _, rfl, by decide⟩
    · exact ⟨105, [102], rfl, by decide⟩
    · exact ⟨114, _, rfl, by decide⟩
    · exact ⟨112, _, rfl, by decide⟩
    · exact ⟨115, _, rfl, by decide⟩
  obtain ⟨a, b, rfl, ha⟩ := hl
  rw [List.takeWhile_cons] at e
  split at e
  · injection e with e1 e2
    rw [← e1, h] at ha
    cases ha
  · cases e
theorem lead_low {c : UInt8} {r : Str} (h : lowB c = false) : leadOf (c :: r) = (if c = 33 then 8 else if highB c = true then 9 else 10) := by
  have hr := run_low (r := r) h
  simp only [List.mem_cons, List.not_mem_nil, or_false, forall_eq_or_imp, forall_eq] at hr
  obtain ⟨h1, h2, h3, h4, h5, h6, h7⟩ := hr
  unfold leadOf
  simp only [h1, h2, h3, h4, h5, h6, h7, if_false, headX, headH]
  by_cases h8 : c = 33
  · simp [h8]
  · by_cases h9 : highB c = true
    · simp [h8, h9]
    · simp [h8, h9]
theorem lead_part {s u : Str} (h : PS s) (hu : FolP u) : leadOf (s ++ u) = 10 := by
  cases h with
  | dig c r h =>
    obtain ⟨h1, h2, _, _, _, h3, _⟩ := dig_not h
    rw [List.cons_append, lead_low h1, if_neg h3, if_neg (by rw [h2]; simp)]
  | quo r => rw [List.cons_append, lead_low (by decide)]; decide
  | brc r => rw [List.cons_append, lead_low (by decide)]; decide
  | par r => rw [List.cons_append, lead_low (by decide)]; decide
  | nam c r h ha hw =>
    rw [lead_run (runT_app ha hu)]
    obtain ⟨_, h2, _, _, _, h3, _⟩ := low_dig h
    have ne : ∀ k ∈ wordsL, (c :: r) ≠ k := fun k hk e => hw (by rw [e]; exact hk)
    rw [if_neg (ne kfn (by decide)), if_neg (ne klet (by decide)), if_neg (ne kmatch (by decide)), if_neg (ne kif (by decide)), if_neg (ne kref (by decide)), if_neg (ne kprint (by decide)), if_neg (ne kshow (by decide))]
    rw [List.cons_append]
    simp [headX, headH, h2, h3]
  | rea =>
    rw [lead_run (runT_app (s := [114, 101, 97, 100]) (allT_of (by decide)) hu)]
    simp [kfn, klet, kmatch, kif, kref, kprint, kshow, headX, headH, highB]
theorem lead_eq {x : Ex} (h : x.Ok) {u : Str} (hu : FolP u) : leadOf (x.sh ++ u) = leadK x.d.kind := by
  obtain ⟨d, l⟩ := x
  show _ = leadK d.kind
  have hF := h.fld
  by_cases k4 : d.kind = 4
  · have e : leadK d.kind = 1 := by unfold leadK; simp [k4]
    obtain ⟨a, rfl, _⟩ := parts_one hF h.pl (by omega)
    rw [sh_4 k4, e]
    simp only [List.append_assoc]
    refine (lead_run (lead_kw (k := kfn) (allT_of (by decide)))).trans ?_
    simp [kfn, klet, kmatch, kif, kref, kprint, kshow]
  by_cases k6 : d.kind = 6
  · have e : leadK d.kind = 2 := by unfold leadK; simp [k6]
    obtain ⟨a, c, rfl, _⟩ := parts_two hF h.pl (by omega)
    rw [sh_6 k6, e]
    simp only [List.append_assoc]
    refine (lead_run (lead_kw (k := klet) (allT_of (by decide)))).trans ?_
    simp [kfn, klet, kmatch, kif, kref, kprint, kshow]
  by_cases k7 : d.kind = 7
  · have e : leadK d.kind = 2 := by unfold leadK; simp [k7]
    obtain ⟨a, c, rfl, _⟩ := parts_two hF h.pl (by omega)
    rw [sh_7 k7, e]
    simp only [List.append_assoc]
    refine (lead_run (lead_kw (k := klet) (allT_of (by decide)))).trans ?_
    simp [kfn, klet, kmatch, kif, kref, kprint, kshow]
  by_cases k14 : d.kind = 14
  · have e : leadK d.kind = 3 := by unfold leadK; simp [k14]
    skip
    rw [sh_14 k14, e]
    simp only [List.append_assoc]
    refine (lead_run (lead_kw (k := kmatch) (allT_of (by decide)))).trans ?_
    simp [kfn, klet, kmatch, kif, kref, kprint, kshow]
  by_cases k15 : d.kind = 15
  · have e : leadK d.kind = 4 := by unfold leadK; simp [k15]
    obtain ⟨a, c, f, rfl, _⟩ := parts_three hF h.pl (by omega)
    rw [sh_15 k15, e]
    simp only [List.append_assoc]
    refine (lead_run (lead_kw (k := kif) (allT_of (by decide)))).trans ?_
    simp [kfn, klet, kmatch, kif, kref, kprint, kshow]
  by_cases k17 : d.kind = 17
  · have e : leadK d.kind = 5 := by unfold leadK; simp [k17]
    obtain ⟨a, rfl, _⟩ := parts_one hF h.pl (by omega)
    rw [sh_17 k17, e]
    simp only [List.append_assoc]
    refine (lead_run (lead_kw (k := kref) (allT_of (by decide)))).trans ?_
    simp [kfn, klet, kmatch, kif, kref, kprint, kshow]
  by_cases k20 : d.kind = 20
  · have e : leadK d.kind = 6 := by unfold leadK; simp [k20]
    obtain ⟨a, rfl, _⟩ := parts_one hF h.pl (by omega)
    rw [sh_20 k20, e]
    simp only [List.append_assoc]
    refine (lead_run (lead_kw (k := kprint) (allT_of (by decide)))).trans ?_
    simp [kfn, klet, kmatch, kif, kref, kprint, kshow]
  by_cases k21 : d.kind = 21
  · have e : leadK d.kind = 7 := by unfold leadK; simp [k21]
    obtain ⟨a, rfl, _⟩ := parts_one hF h.pl (by omega)
    rw [sh_21 k21, e]
    simp only [List.append_assoc]
    refine (lead_run (lead_kw (k := kshow) (allT_of (by decide)))).trans ?_
    simp [kfn, klet, kmatch, kif, kref, kprint, kshow]
  by_cases k18 : d.kind = 18
  · have e : leadK d.kind = 8 := by unfold leadK; simp [k18]
    obtain ⟨a, rfl, _⟩ := parts_one hF h.pl (by omega)
    rw [sh_18 k18, e, List.append_assoc, List.cons_append, lead_low (by decide)]; decide
  by_cases k13 : d.kind = 13
  · have e : leadK d.kind = 9 := by unfold leadK; simp [k13]
    obtain ⟨a, rfl, _⟩ := parts_one hF h.pl (by omega)
    obtain ⟨⟨c, r, es, hc⟩, ha⟩ := tok3 (hF.tag k13)
    obtain ⟨h1, _, _, _, _, h2, _⟩ := high_not hc
    rw [sh_13 k13, e, es]
    simp only [List.append_assoc, List.cons_append]
    rw [lead_low h1, if_neg h2, if_pos hc]
  have e : leadK d.kind = 10 := by unfold leadK; simp [k4, k6, k7, k14, k15, k17, k20, k21, k18, k13]
  rw [e]
  have hk := kinds_of hF
  unfold braceB blockB at hk
  simp only [decide_eq_true_eq] at hk
  by_cases hb : bareB d.kind = true
  · have := lead_part (pa_start h) hu
    rwa [pa_bare (x := .mk d l) hb] at this
  · unfold bareB at hb
    rw [decide_eq_true_eq] at hb
    have hk : d.kind = 9 ∨ d.kind = 11 ∨ d.kind = 5 ∨ d.kind = 16 ∨ d.kind = 19 := by omega
    rcases hk with k | k | k | k | k
    · obtain ⟨a, rfl, _⟩ := parts_one hF h.pl (by omega)
      rw [sh_9 k, List.append_assoc]; exact lead_part (pa_start (h.sub a (by simp))) (folP_cons (by decide))
    · obtain ⟨a, rfl, _⟩ := parts_one hF h.pl (by omega)
      rw [sh_11 k, List.append_assoc]; exact lead_part (pa_start (h.sub a (by simp))) (folP_cons (by decide))
    · obtain ⟨a, c, rfl, _⟩ := parts_two hF h.pl (by omega)
      rw [sh_5 k, List.append_assoc]; exact lead_part (pa_start (h.sub a (by simp))) (folP_cons (by decide))
    · obtain ⟨a, c, rfl, _⟩ := parts_two hF h.pl (by omega)
      rw [sh_16 k, List.append_assoc]; exact lead_part (pa_start (h.sub a (by simp))) (folP_cons (by decide))
    · obtain ⟨a, c, rfl, _⟩ := parts_two hF h.pl (by omega)
      rw [sh_19 k, List.append_assoc]; exact lead_part (pa_start (h.sub a (by simp))) (folP_cons (by decide))

/-! ### What may stand behind a whole text; what stands behind a part -/
def stopsL : List Str := [[105, 110], [116, 104, 101, 110], [101, 108, 115, 101], [101, 110, 100], [119, 105, 116, 104]]
def opc (c : UInt8) : Bool := decide (c ∈ ([43, 45, 42, 47, 60, 61, 94, 35] : Str))
def tkey (w : Str) : Nat := match w with
  | 46 :: _ => 1
  | 92 :: _ => 2
  | 32 :: c :: r => if c = 58 then 5 else if opc c = true then 4 else if c = 124 ∨ (c :: r).takeWhile tagB ∈ stopsL then 0 else 3
  | _ => 0
def FolW (u : Str) : Prop := FolP u ∧ tkey u = 0
theorem stops_words : ∀ s ∈ stopsL, s ∈ wordsL := by decide
theorem tkey_part {s u : Str} (h : PS s) (hu : FolP u) : tkey (32 :: (s ++ u)) = 3 := by
  cases h with
  | dig c r h =>
    obtain ⟨h1, _, _, _, _, _, h4, h5, _⟩ := dig_not h
    have ho : opc c = false := by
      unfold digB at h
      have h2 := of_decide_eq_true h
      unfold opc
      refine decide_eq_false (fun hm => ?_)
      simp only [List.mem_cons, List.not_mem_nil, or_false] at hm
      rcases hm with rfl | rfl | rfl | rfl | rfl | rfl | rfl | rfl <;> simp at h2
    have hs : ¬ ((c :: (r ++ u)).takeWhile tagB ∈ stopsL) := by
      intro hm
      have : (c :: (r ++ u)).takeWhile tagB = c :: (r ++ u).takeWhile tagB := by rw [List.takeWhile_cons, dig_tag h]; simp
      rw [this] at hm
      simp only [stopsL, List.mem_cons, List.not_mem_nil, or_false, List.cons.injEq] at hm
      rcases hm with e | e | e | e | e <;> (rw [e.1] at h1; revert h1; decide)
    simp only [List.cons_append, tkey, h5, ho, h4, hs, if_false, or_self, Bool.false_eq_true]
  | quo r => simp [tkey, opc, stopsL, List.takeWhile_cons, tagB, lowB, highB, digB]
  | brc r => simp [tkey, opc, stopsL, List.takeWhile_cons, tagB, lowB, highB, digB]
  | par r => simp [tkey, opc, stopsL, List.takeWhile_cons, tagB, lowB, highB, digB]
  | nam c r h ha hw =>
    obtain ⟨h1, _, _, _, _, _, h4, h5, _⟩ := low_dig h
    have ho : opc c = false := by
      unfold lowB at h
      have h2 := of_decide_eq_true h
      unfold opc
      refine decide_eq_false (fun hm => ?_)
      simp only [List.mem_cons, List.not_mem_nil, or_false] at hm
      rcases hm with rfl | rfl | rfl | rfl | rfl | rfl | rfl | rfl <;> simp at h2
    have hr := runT_app ha hu
    have hs : ¬ ((c :: (r ++ u)).takeWhile tagB ∈ stopsL) := by
      rw [List.cons_append] at hr
      rw [hr]
      exact fun hm => hw (stops_words _ hm)
    simp only [List.cons_append, tkey, h5, ho, h4, hs, if_false, or_self, Bool.false_eq_true]
  | rea =>
    have hr := runT_app (s := [114, 101, 97, 100]) (allT_of (by decide)) hu
    show tkey (32 :: 114 :: ([101, 97, 100] ++ u)) = 3
    have hs : ¬ ((114 :: ([101, 97, 100] ++ u)).takeWhile tagB ∈ stopsL) := by
      rw [show (114 :: ([101, 97, 100] ++ u)) = [114, 101, 97, 100] ++ u from rfl, hr]
      decide
    simp only [tkey, hs]
    simp [opc]
theorem op_first {s : Str} (h : s ∈ opsL) : ∃ c r, s = c :: r ∧ opc c = true ∧ c ≠ 58 := by
  simp only [opsL, List.mem_cons, List.not_mem_nil, or_false] at h
  rcases h with rfl | rfl | rfl | rfl | rfl | rfl | rfl | rfl
  all_goals exact ⟨_, _, rfl, by decide, by decide⟩
theorem tkey_op {s u : Str} (h : s ∈ opsL) : tkey (32 :: (s ++ u)) = 4 := by
  obtain ⟨c, r, rfl, h1, h2⟩ := op_first h
  simp only [List.cons_append, tkey, h2, h1, if_false, if_true]
theorem op_pre {s t u v : Str} (hs : s ∈ opsL) (ht : t ∈ opsL) (h : s ++ 32 :: u = t ++ 32 :: v) : s = t ∧ u = v := by
  simp only [opsL, List.mem_cons, List.not_mem_nil, or_false] at hs ht
  rcases hs with rfl | rfl | rfl | rfl | rfl | rfl | rfl | rfl <;> rcases ht with rfl | rfl | rfl | rfl | rfl | rfl | rfl | rfl <;> first | (exact ⟨rfl, by simpa using h⟩) | (exfalso; revert h; simp)
theorem folW_nil : FolW [] := ⟨folP_nil, rfl⟩
theorem folW_close (u : Str) : FolW (41 :: u) := ⟨folP_cons (by decide), rfl⟩
theorem folW_brace (u : Str) : FolW (125 :: u) := ⟨folP_cons (by decide), rfl⟩
theorem folW_comma (u : Str) : FolW (44 :: u) := ⟨folP_cons (by decide), rfl⟩
theorem folW_bar (u : Str) : FolW (32 :: 124 :: u) := ⟨folP_cons (by decide), by simp [tkey, opc]⟩
theorem folW_stop {s : Str} (h : s ∈ stopsL) {u : Str} (hu : FolP u) : FolW (32 :: (s ++ u)) := by
  refine ⟨folP_cons (by decide), ?_⟩
  have hall : ∀ s ∈ stopsL, s.all tagB = true := by decide
  have hr := runT_app (s := s) (allT_of (hall s h)) hu
  cases s with
  | nil => simp [stopsL] at h
  | cons c r =>
    rw [List.cons_append] at hr ⊢
    have hc : c ≠ 58 ∧ opc c = false := by
      simp only [stopsL, List.mem_cons, List.not_mem_nil, or_false, List.cons.injEq] at h
      rcases h with e | e | e | e | e <;> (rw [e.1]; decide)
    simp only [tkey, hc.1, hc.2, if_false, Bool.false_eq_true, hr, h, or_true, if_true]
end Go.Proofs.YtaglmmcjhlehjaaDoor
