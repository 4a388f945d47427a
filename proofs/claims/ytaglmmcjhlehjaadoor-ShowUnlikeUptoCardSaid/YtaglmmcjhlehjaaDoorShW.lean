/-
  Unlike expressions have unlike texts: what a text begins with, what stands behind a part. About no program.
-/
import Derived.Test.YtaglmmcjhlehjaaDoorShV
namespace Go.Proofs.YtaglmmcjhlehjaaDoor
open Go.RowKit
set_option linter.unusedVariables false
set_option linter.unusedSimpArgs false

/-- What an expression that may be has, in itself. -/
inductive Ex.Ok : Ex → Prop
  | mk (d : ExD) (l : List Ex) (f : Fld d) (z : d.kind ≠ 1 → d.n = 0) (ll : d.labels.length = d.ln) (nl : d.names.length = d.nn) (pl : l.length = d.pn) (sub : ∀ x ∈ l, Ex.Ok x) : Ex.Ok (.mk d l)
theorem ok_of (w : World) : ∀ (e : Ex), e.In w → e.fineE = true → e.Ok
  | .mk d l, hI, hf => by
    refine .mk d l (fields_of (fine_own hf)) ?_ hI.labLen hI.namLen hI.len (fun x hx => ok_of w x (hI.sub x hx) (fine_sub hf x hx))
    intro hk
    have h := fine_own hf
    unfold ExD.fieldsB at h
    simp only [Bool.and_eq_true, decide_eq_true_eq, Bool.or_eq_true] at h
    rcases h.1.1.1.2 with h | h
    · exact h
    · exact absurd h.1 hk
theorem Ex.Ok.fld {d : ExD} {l : List Ex} (h : (Ex.mk d l).Ok) : Fld d := by cases h; assumption
theorem Ex.Ok.z {d : ExD} {l : List Ex} (h : (Ex.mk d l).Ok) : d.kind ≠ 1 → d.n = 0 := by cases h; assumption
theorem Ex.Ok.ll {d : ExD} {l : List Ex} (h : (Ex.mk d l).Ok) : d.labels.length = d.ln := by cases h; assumption
theorem Ex.Ok.nl {d : ExD} {l : List Ex} (h : (Ex.mk d l).Ok) : d.names.length = d.nn := by cases h; assumption
theorem Ex.Ok.pl {d : ExD} {l : List Ex} (h : (Ex.mk d l).Ok) : l.length = d.pn := by cases h; assumption
theorem Ex.Ok.sub {d : ExD} {l : List Ex} (h : (Ex.mk d l).Ok) : ∀ x ∈ l, x.Ok := by cases h; assumption
theorem Fld.s0 {d : ExD} (h : Fld d) (hk : ¬ (d.kind = 2 ∨ d.kind = 3 ∨ d.kind = 4 ∨ d.kind = 6 ∨ d.kind = 7 ∨ d.kind = 9 ∨ d.kind = 10 ∨ d.kind = 11 ∨ d.kind = 12 ∨ d.kind = 13 ∨ d.kind = 16)) : d.s = [] := by
  have h1 := h.s
  unfold ExD.sB at h1
  rw [if_neg (by omega), if_neg (by omega), if_neg (by omega), if_neg (by omega)] at h1
  exact of_decide_eq_true h1
theorem Fld.name {d : ExD} (h : Fld d) (hk : d.kind = 3 ∨ d.kind = 4 ∨ d.kind = 6 ∨ d.kind = 7 ∨ d.kind = 9 ∨ d.kind = 10 ∨ d.kind = 11 ∨ d.kind = 12) : tokB d.s 1 = true := by
  have h1 := h.s
  unfold ExD.sB at h1
  rw [if_pos hk] at h1
  exact h1
theorem Fld.tag {d : ExD} (h : Fld d) (hk : d.kind = 13) : tokB d.s 3 = true := by
  have h1 := h.s
  unfold ExD.sB at h1
  rw [if_neg (by omega), if_pos hk] at h1
  exact h1
theorem Fld.op {d : ExD} (h : Fld d) (hk : d.kind = 16) : d.s ∈ opsL := by
  have h1 := h.s
  unfold ExD.sB at h1
  rw [if_neg (by omega), if_neg (by omega), if_neg (by omega), if_pos hk] at h1
  exact of_decide_eq_true h1
theorem Fld.quote {d : ExD} (h : Fld d) (hk : d.kind = 2) : ∃ q, quoteS d.s = some q := by
  have h1 := h.s
  unfold ExD.sB at h1
  rw [if_neg (by omega), if_neg (by omega), if_pos hk] at h1
  exact Option.isSome_iff_exists.1 h1
theorem Fld.t0 {d : ExD} (h : Fld d) (hk : ¬ (d.kind = 7 ∨ d.kind = 14)) : d.t = [] := by
  have h1 := h.t
  unfold ExD.tB at h1
  rw [if_neg (by omega), if_neg (by omega)] at h1
  exact of_decide_eq_true h1
theorem Fld.t7 {d : ExD} (h : Fld d) (hk : d.kind = 7) : tokB d.t 1 = true := by
  have h1 := h.t
  unfold ExD.tB at h1
  rw [if_pos hk] at h1
  exact h1
theorem Fld.t14 {d : ExD} (h : Fld d) (hk : d.kind = 14) : d.t = [] ∨ tokB d.t 1 = true := by
  have h1 := h.t
  unfold ExD.tB at h1
  rw [if_neg (by omega), if_pos hk] at h1
  simpa using h1
theorem Ex.Ok.l0 {d : ExD} {l : List Ex} (h : (Ex.mk d l).Ok) (hk : ¬ (d.kind = 8 ∨ d.kind = 14)) : d.labels = [] ∧ d.names = [] := by
  have h1 := h.fld.lists
  unfold ExD.listsB at h1
  rw [if_neg (by omega), if_neg (by omega)] at h1
  simp only [Bool.and_eq_true, decide_eq_true_eq] at h1
  exact ⟨List.length_eq_zero_iff.1 (by rw [h.ll]; exact h1.1), List.length_eq_zero_iff.1 (by rw [h.nl]; exact h1.2)⟩
theorem labB_all {l : List Str} {k : Int} (h : labB l k = true) : ∀ s ∈ l, tokB s k = true := by
  unfold labB at h
  simp only [Bool.and_eq_true] at h
  exact List.all_eq_true.1 h.2

/-! ### Alike: but for where they stand -/
mutual
def Ex.eqv : Ex → Ex → Prop
  | .mk d l, .mk e m => d.kind = e.kind ∧ d.n = e.n ∧ d.s = e.s ∧ d.t = e.t ∧ d.labels = e.labels ∧ d.names = e.names ∧ eqvL l m
def eqvL : List Ex → List Ex → Prop
  | [], [] => True
  | x :: l, y :: m => x.eqv y ∧ eqvL l m
  | _, _ => False
end
theorem eqvL_app : ∀ {a b a' b' : List Ex}, eqvL a a' → eqvL b b' → eqvL (a ++ b) (a' ++ b')
  | [], b, [], b', _, h => h
  | x :: a, b, y :: a', b', h1, h2 => by
    simp only [eqvL] at h1
    simp only [List.cons_append, eqvL]
    exact ⟨h1.1, eqvL_app h1.2 h2⟩
  | [], b, y :: a', b', h1, _ => by simp [eqvL] at h1
  | x :: a, b, [], b', h1, _ => by simp [eqvL] at h1

/-! ### What a text is, by kinds -/
theorem sh_4 {d : ExD} {a : Ex} (hk : d.kind = 4) : (Ex.mk d [a]).sh = [102, 110, 32] ++ d.s ++ [32, 45, 62, 32] ++ a.sh := by
  rw [sh_mk]; unfold ExD.shF; rw [if_neg (by omega), if_neg (by omega), if_neg (by omega), if_neg (by omega)]; rw [if_neg (by unfold braceB; rw [decide_eq_true_eq]; omega), if_pos (by unfold blockB; exact decide_eq_true (by omega))]; unfold ExD.blockF; rw [if_pos hk]; simp [shAt, betweenTo, inS]
theorem sh_5 {d : ExD} {a c : Ex} (hk : d.kind = 5) : (Ex.mk d [a, c]).sh = a.pa ++ (32 :: c.pa) := by
  rw [sh_mk]; unfold ExD.shF; rw [if_neg (by omega), if_neg (by omega), if_neg (by omega), if_neg (by omega)]; rw [if_neg (by unfold braceB; rw [decide_eq_true_eq]; omega), if_neg (by unfold blockB; rw [decide_eq_true_eq]; omega)]; unfold ExD.aheadF ExD.behindF; rw [if_neg (by omega), if_neg (by omega), if_neg (by omega), if_neg (by omega), if_neg (by omega), if_neg (by omega), if_neg (by omega), if_pos hk]; simp [paAt]
theorem sh_6 {d : ExD} {a c : Ex} (hk : d.kind = 6) : (Ex.mk d [a, c]).sh = [108, 101, 116, 32] ++ d.s ++ [32, 61, 32] ++ a.sh ++ [32, 105, 110, 32] ++ c.sh := by
  rw [sh_mk]; unfold ExD.shF; rw [if_neg (by omega), if_neg (by omega), if_neg (by omega), if_neg (by omega)]; rw [if_neg (by unfold braceB; rw [decide_eq_true_eq]; omega), if_pos (by unfold blockB; exact decide_eq_true (by omega))]; unfold ExD.blockF; rw [if_neg (by omega), if_pos hk]; simp [shAt, betweenTo, inS]
theorem sh_7 {d : ExD} {a c : Ex} (hk : d.kind = 7) : (Ex.mk d [a, c]).sh = [108, 101, 116, 32, 114, 101, 99, 32] ++ d.s ++ [32] ++ d.t ++ [32, 61, 32] ++ a.sh ++ [32, 105, 110, 32] ++ c.sh := by
  rw [sh_mk]; unfold ExD.shF; rw [if_neg (by omega), if_neg (by omega), if_neg (by omega), if_neg (by omega)]; rw [if_neg (by unfold braceB; rw [decide_eq_true_eq]; omega), if_pos (by unfold blockB; exact decide_eq_true (by omega))]; unfold ExD.blockF; rw [if_neg (by omega), if_neg (by omega), if_pos hk]; simp [shAt, betweenTo, inS]
theorem sh_9 {d : ExD} {a : Ex} (hk : d.kind = 9) : (Ex.mk d [a]).sh = a.pa ++ (46 :: d.s) := by
  rw [sh_mk]; unfold ExD.shF; rw [if_neg (by omega), if_neg (by omega), if_neg (by omega), if_neg (by omega)]; rw [if_neg (by unfold braceB; rw [decide_eq_true_eq]; omega), if_neg (by unfold blockB; rw [decide_eq_true_eq]; omega)]; unfold ExD.aheadF ExD.behindF; rw [if_neg (by omega), if_neg (by omega), if_neg (by omega), if_neg (by omega), if_neg (by omega), if_pos hk]; simp [paAt]
theorem sh_10 {d : ExD} {a c : Ex} (hk : d.kind = 10) : (Ex.mk d [a, c]).sh = [123] ++ d.s ++ [32, 61, 32] ++ a.sh ++ [32, 124, 32] ++ c.sh ++ [125] := by
  rw [sh_mk]; unfold ExD.shF; rw [if_neg (by omega), if_neg (by omega), if_neg (by omega), if_neg (by omega)]; rw [if_pos (by unfold braceB; exact decide_eq_true (by omega))]; unfold ExD.bracesF; rw [if_neg (by omega), if_pos hk]; simp [shAt]
theorem sh_11 {d : ExD} {a : Ex} (hk : d.kind = 11) : (Ex.mk d [a]).sh = a.pa ++ (92 :: d.s) := by
  rw [sh_mk]; unfold ExD.shF; rw [if_neg (by omega), if_neg (by omega), if_neg (by omega), if_neg (by omega)]; rw [if_neg (by unfold braceB; rw [decide_eq_true_eq]; omega), if_neg (by unfold blockB; rw [decide_eq_true_eq]; omega)]; unfold ExD.aheadF ExD.behindF; rw [if_neg (by omega), if_neg (by omega), if_neg (by omega), if_neg (by omega), if_neg (by omega), if_neg (by omega), if_pos hk]; simp [paAt]
theorem sh_12 {d : ExD} {a c : Ex} (hk : d.kind = 12) : (Ex.mk d [a, c]).sh = [123] ++ c.pa ++ [32, 119, 105, 116, 104, 32] ++ d.s ++ [32, 61, 32] ++ a.sh ++ [125] := by
  rw [sh_mk]; unfold ExD.shF; rw [if_neg (by omega), if_neg (by omega), if_neg (by omega), if_neg (by omega)]; rw [if_pos (by unfold braceB; exact decide_eq_true (by omega))]; unfold ExD.bracesF; rw [if_neg (by omega), if_neg (by omega)]; simp [shAt, paAt]
theorem sh_13 {d : ExD} {a : Ex} (hk : d.kind = 13) : (Ex.mk d [a]).sh = d.s ++ [32] ++ a.pa := by
  rw [sh_mk]; unfold ExD.shF; rw [if_neg (by omega), if_neg (by omega), if_neg (by omega), if_neg (by omega)]; rw [if_neg (by unfold braceB; rw [decide_eq_true_eq]; omega), if_neg (by unfold blockB; rw [decide_eq_true_eq]; omega)]; unfold ExD.aheadF ExD.behindF; rw [if_pos hk, if_neg (by omega), if_neg (by omega), if_neg (by omega), if_neg (by omega), if_neg (by omega)]; simp [paAt]
theorem sh_15 {d : ExD} {a c f : Ex} (hk : d.kind = 15) : (Ex.mk d [a, c, f]).sh = [105, 102, 32] ++ a.sh ++ [32, 116, 104, 101, 110, 32] ++ c.sh ++ [32, 101, 108, 115, 101, 32] ++ f.sh := by
  rw [sh_mk]; unfold ExD.shF; rw [if_neg (by omega), if_neg (by omega), if_neg (by omega), if_neg (by omega)]; rw [if_neg (by unfold braceB; rw [decide_eq_true_eq]; omega), if_pos (by unfold blockB; exact decide_eq_true (by omega))]; unfold ExD.blockF; rw [if_neg (by omega), if_neg (by omega), if_neg (by omega), if_pos hk]; simp [shAt, betweenTo, inS]
theorem sh_16 {d : ExD} {a c : Ex} (hk : d.kind = 16) : (Ex.mk d [a, c]).sh = a.pa ++ (32 :: (d.s ++ (32 :: c.pa))) := by
  rw [sh_mk]; unfold ExD.shF; rw [if_neg (by omega), if_neg (by omega), if_neg (by omega), if_neg (by omega)]; rw [if_neg (by unfold braceB; rw [decide_eq_true_eq]; omega), if_neg (by unfold blockB; rw [decide_eq_true_eq]; omega)]; unfold ExD.aheadF ExD.behindF; rw [if_neg (by omega), if_neg (by omega), if_neg (by omega), if_neg (by omega), if_neg (by omega), if_neg (by omega), if_neg (by omega), if_neg (by omega), if_pos hk]; simp [paAt]
theorem sh_17 {d : ExD} {a : Ex} (hk : d.kind = 17) : (Ex.mk d [a]).sh = [114, 101, 102, 32] ++ a.pa := by
  rw [sh_mk]; unfold ExD.shF; rw [if_neg (by omega), if_neg (by omega), if_neg (by omega), if_neg (by omega)]; rw [if_neg (by unfold braceB; rw [decide_eq_true_eq]; omega), if_neg (by unfold blockB; rw [decide_eq_true_eq]; omega)]; unfold ExD.aheadF ExD.behindF; rw [if_neg (by omega), if_pos hk, if_neg (by omega), if_neg (by omega), if_neg (by omega), if_neg (by omega), if_neg (by omega)]; simp [paAt]
theorem sh_18 {d : ExD} {a : Ex} (hk : d.kind = 18) : (Ex.mk d [a]).sh = [33] ++ a.pa := by
  rw [sh_mk]; unfold ExD.shF; rw [if_neg (by omega), if_neg (by omega), if_neg (by omega), if_neg (by omega)]; rw [if_neg (by unfold braceB; rw [decide_eq_true_eq]; omega), if_neg (by unfold blockB; rw [decide_eq_true_eq]; omega)]; unfold ExD.aheadF ExD.behindF; rw [if_neg (by omega), if_neg (by omega), if_neg (by omega), if_neg (by omega), if_pos hk, if_neg (by omega), if_neg (by omega), if_neg (by omega), if_neg (by omega), if_neg (by omega)]; simp [paAt]
theorem sh_19 {d : ExD} {a c : Ex} (hk : d.kind = 19) : (Ex.mk d [a, c]).sh = a.pa ++ (32 :: 58 :: 61 :: 32 :: c.pa) := by
  rw [sh_mk]; unfold ExD.shF; rw [if_neg (by omega), if_neg (by omega), if_neg (by omega), if_neg (by omega)]; rw [if_neg (by unfold braceB; rw [decide_eq_true_eq]; omega), if_neg (by unfold blockB; rw [decide_eq_true_eq]; omega)]; unfold ExD.aheadF ExD.behindF; rw [if_neg (by omega), if_neg (by omega), if_neg (by omega), if_neg (by omega), if_neg (by omega), if_neg (by omega), if_neg (by omega), if_neg (by omega), if_neg (by omega), if_pos hk]; simp [paAt]
theorem sh_20 {d : ExD} {a : Ex} (hk : d.kind = 20) : (Ex.mk d [a]).sh = [112, 114, 105, 110, 116, 32] ++ a.pa := by
  rw [sh_mk]; unfold ExD.shF; rw [if_neg (by omega), if_neg (by omega), if_neg (by omega), if_neg (by omega)]; rw [if_neg (by unfold braceB; rw [decide_eq_true_eq]; omega), if_neg (by unfold blockB; rw [decide_eq_true_eq]; omega)]; unfold ExD.aheadF ExD.behindF; rw [if_neg (by omega), if_neg (by omega), if_pos hk, if_neg (by omega), if_neg (by omega), if_neg (by omega), if_neg (by omega), if_neg (by omega)]; simp [paAt]
theorem sh_21 {d : ExD} {a : Ex} (hk : d.kind = 21) : (Ex.mk d [a]).sh = [115, 104, 111, 119, 32] ++ a.pa := by
  rw [sh_mk]; unfold ExD.shF; rw [if_neg (by omega), if_neg (by omega), if_neg (by omega), if_neg (by omega)]; rw [if_neg (by unfold braceB; rw [decide_eq_true_eq]; omega), if_neg (by unfold blockB; rw [decide_eq_true_eq]; omega)]; unfold ExD.aheadF ExD.behindF; rw [if_neg (by omega), if_neg (by omega), if_neg (by omega), if_pos hk, if_neg (by omega), if_neg (by omega), if_neg (by omega), if_neg (by omega), if_neg (by omega)]; simp [paAt]
theorem sh_1 {d : ExD} {l : List Ex} (hk : d.kind = 1) : (Ex.mk d l).sh = Lib.itoa d.n := by rw [sh_mk]; unfold ExD.shF; rw [if_pos hk]
theorem sh_2 {d : ExD} {l : List Ex} (hk : d.kind = 2) : (Ex.mk d l).sh = (quoteS d.s).getD [] := by rw [sh_mk]; unfold ExD.shF; rw [if_neg (by omega), if_pos hk]
theorem sh_3 {d : ExD} {l : List Ex} (hk : d.kind = 3) : (Ex.mk d l).sh = d.s := by rw [sh_mk]; unfold ExD.shF; rw [if_neg (by omega), if_neg (by omega), if_pos hk]
theorem sh_22 {d : ExD} {l : List Ex} (hk : d.kind = 22) : (Ex.mk d l).sh = [114, 101, 97, 100] := by rw [sh_mk]; unfold ExD.shF; rw [if_neg (by omega), if_neg (by omega), if_neg (by omega), if_pos hk]
theorem sh_8 {d : ExD} {l : List Ex} (hk : d.kind = 8) : (Ex.mk d l).sh = 123 :: (fieldsTo d.labels (shAt l) d.ln ++ [125]) := by
  rw [sh_mk]; unfold ExD.shF
  rw [if_neg (by omega), if_neg (by omega), if_neg (by omega), if_neg (by omega), if_pos (by unfold braceB; exact decide_eq_true (by omega))]
  unfold ExD.bracesF
  rw [if_pos hk]; simp
theorem sh_14 {d : ExD} {l : List Ex} (hk : d.kind = 14) : (Ex.mk d l).sh = [109, 97, 116, 99, 104, 32] ++ shAt l 0 ++ [32, 119, 105, 116, 104] ++ armsTo d.labels d.names (shAt l) d.ln ++ d.restF (shAt l) ++ [32, 101, 110, 100] := by
  rw [sh_mk]; unfold ExD.shF
  rw [if_neg (by omega), if_neg (by omega), if_neg (by omega), if_neg (by omega), if_neg (by unfold braceB; rw [decide_eq_true_eq]; omega), if_pos (by unfold blockB; exact decide_eq_true (by omega))]
  unfold ExD.blockF
  rw [if_neg (by omega), if_neg (by omega), if_neg (by omega), if_neg (by omega)]
  rfl
theorem pa_bare {x : Ex} (h : bareB x.d.kind = true) : x.pa = x.sh := by unfold Ex.pa brk; rw [if_pos h]
theorem pa_brk {x : Ex} (h : ¬ bareB x.d.kind = true) : x.pa = 40 :: (x.sh ++ [41]) := by unfold Ex.pa brk; rw [if_neg h]; simp

theorem digits_ne' (u : Nat) : Lib.decDigits u ≠ [] := by
  unfold Lib.decDigits
  split <;> simp
theorem itoa_ne' (n : Int) : Lib.itoa n ≠ [] := by
  unfold Lib.itoa
  split
  · simp
  · exact digits_ne' _
/-! ### What a part begins with -/
inductive PS : Str → Prop
  | dig (c : UInt8) (r : Str) (h : digB c = true) : PS (c :: r)
  | quo (r : Str) : PS (34 :: r)
  | brc (r : Str) : PS (123 :: r)
  | par (r : Str) : PS (40 :: r)
  | nam (c : UInt8) (r : Str) (h : lowB c = true) (ha : AllT (c :: r)) (hw : (c :: r) ∉ wordsL) : PS (c :: r)
  | rea : PS [114, 101, 97, 100]
theorem pa_start {x : Ex} (h : x.Ok) : PS x.pa := by
  obtain ⟨d, l⟩ := x
  by_cases hb : bareB d.kind = true
  · rw [pa_bare (x := .mk d l) hb]
    have hF := h.fld
    unfold bareB at hb
    rcases of_decide_eq_true hb with k | k | k | k | k | k | k
    · rw [sh_1 k]
      have h1 := itoa_all (hF.n0 k)
      cases hi : Lib.itoa d.n with
      | nil => exact absurd hi (itoa_ne' d.n)
      | cons c r => rw [hi] at h1; exact .dig c r (h1 c (by simp))
    · rw [sh_2 k]
      obtain ⟨q, hq⟩ := hF.quote k
      rw [hq]
      unfold quoteS at hq
      split at hq
      · cases hq
      · cases hb : qbody d.s with
        | none => rw [hb] at hq; cases hq
        | some b => rw [hb] at hq; simp at hq; subst hq; exact .quo _
    · rw [sh_3 k]
      obtain ⟨⟨c, r, e, hc⟩, ha, hw⟩ := tok1 (hF.name (by omega))
      rw [e] at ha hw ⊢
      exact .nam c r hc ha hw
    · rw [sh_8 k]; exact .brc _
    · obtain ⟨a, c, rfl, _⟩ := parts_two hF h.pl (by omega)
      rw [sh_10 k]; simp only [List.append_assoc]; exact .brc _
    · obtain ⟨a, c, rfl, _⟩ := parts_two hF h.pl (by omega)
      rw [sh_12 k]; simp only [List.append_assoc]; exact .brc _
    · rw [sh_22 k]; exact .rea
  · rw [pa_brk (x := .mk d l) hb]; exact .par _
end Go.Proofs.YtaglmmcjhlehjaaDoor
