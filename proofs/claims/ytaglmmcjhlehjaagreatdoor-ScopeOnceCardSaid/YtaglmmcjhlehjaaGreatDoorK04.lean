/-
  The text of an expression, as the document tells it. About no program.
  How long an expression's text is at most. About no program.
  The writer: a strings.Builder as a struct's one field. What it gathers.
  An expression's own fields, by the code: tokens.
  An expression's own fields, by the code: lists of tokens, S, T.
  A region that draws its order: what its guards leave out.
  Quoted texts, by the document's answer.
-/
import Derived.Test.YtaglmmcjhlehjaaGreatDoorK00
import Derived.Lib.ItoaLen
import Derived.Test.YtaglmmcjhlehjaaGreatDoorK02
import Derived.Test.YtaglmmcjhlehjaaGreatDoorK03
import Derived.Lib.Builder
import Derived.Lib.AppendStr
import Derived.Lib.UnsafeStr
import Derived.Laws.Externs
import Derived.Lib.ConvBytes
import Derived.BigQuiet
import Derived.Deep.QuietTactic
import Derived.Lib.QuietBelow
import Derived.Laws.Strings2
namespace Go.Proofs.YtaglmmcjhlehjaaGreatDoor
open Go.RowKit
set_option linter.unusedVariables false
set_option linter.unusedSimpArgs false

def bareB (k : Int) : Bool := decide (k = 1 ∨ k = 2 ∨ k = 3 ∨ k = 8 ∨ k = 10 ∨ k = 12 ∨ k = 22)
/-- A record's fields, up to so many. -/
def fieldsTo (lb : List Str) (T : Nat → Str) : Nat → Str
  | 0 => []
  | k + 1 => fieldsTo lb T k ++ (if k = 0 then [] else [44, 32]) ++ lb.getD k [] ++ [32, 61, 32] ++ T k
/-- A Match's arms, up to so many. -/
def armsTo (lb nm : List Str) (T : Nat → Str) : Nat → Str
  | 0 => []
  | k + 1 => armsTo lb nm T k ++ [32, 124, 32] ++ lb.getD k [] ++ [32] ++ nm.getD k [] ++ [32, 45, 62, 32] ++ T (k + 1)
/-- Parts, with texts between them. -/
def betweenTo (sep : List Str) (T : Nat → Str) : Nat → Str
  | 0 => []
  | k + 1 => betweenTo sep T k ++ (if k = 0 then [] else sep.getD (k - 1) []) ++ T k
def ExD.aheadF (d : ExD) : Str :=
  if d.kind = 13 then d.s ++ [32]
  else if d.kind = 17 then [114, 101, 102, 32]
  else if d.kind = 20 then [112, 114, 105, 110, 116, 32]
  else if d.kind = 21 then [115, 104, 111, 119, 32]
  else if d.kind = 18 then [33]
  else []
def ExD.behindF (d : ExD) (P : Nat → Str) : Str :=
  if d.kind = 9 then [46] ++ d.s
  else if d.kind = 11 then [92] ++ d.s
  else if d.kind = 5 then [32] ++ P 1
  else if d.kind = 16 then [32] ++ d.s ++ [32] ++ P 1
  else if d.kind = 19 then [32, 58, 61, 32] ++ P 1
  else []
def ExD.bracesF (d : ExD) (T P : Nat → Str) : Str :=
  if d.kind = 8 then fieldsTo d.labels T d.ln
  else if d.kind = 10 then d.s ++ [32, 61, 32] ++ T 0 ++ [32, 124, 32] ++ T 1
  else P 1 ++ [32, 119, 105, 116, 104, 32] ++ d.s ++ [32, 61, 32] ++ T 0
def ExD.restF (d : ExD) (T : Nat → Str) : Str := if d.t = [] then [] else [32, 124, 32] ++ d.t ++ [32, 45, 62, 32] ++ T (d.pn - 1)
def ExD.matchF (d : ExD) (T : Nat → Str) : Str :=
  [109, 97, 116, 99, 104, 32] ++ T 0 ++ [32, 119, 105, 116, 104] ++ armsTo d.labels d.names T d.ln ++ d.restF T ++ [32, 101, 110, 100]
def inS : Str := [32, 105, 110, 32]
def ExD.blockF (d : ExD) (T : Nat → Str) : Str :=
  if d.kind = 4 then [102, 110, 32] ++ d.s ++ [32, 45, 62, 32] ++ T 0
  else if d.kind = 6 then [108, 101, 116, 32] ++ d.s ++ [32, 61, 32] ++ betweenTo [inS] T 2
  else if d.kind = 7 then [108, 101, 116, 32, 114, 101, 99, 32] ++ d.s ++ [32] ++ d.t ++ [32, 61, 32] ++ betweenTo [inS] T 2
  else if d.kind = 15 then [105, 102, 32] ++ betweenTo [[32, 116, 104, 101, 110, 32], [32, 101, 108, 115, 101, 32]] T 3
  else d.matchF T
def braceB (k : Int) : Bool := decide (k = 8 ∨ k = 10 ∨ k = 12)
def blockB (k : Int) : Bool := decide (k = 4 ∨ k = 6 ∨ k = 7 ∨ k = 15 ∨ k = 14)
def ExD.shF (d : ExD) (T P : Nat → Str) : Str :=
  if d.kind = 1 then Lib.itoa d.n
  else if d.kind = 2 then (quoteS d.s).getD []
  else if d.kind = 3 then d.s
  else if d.kind = 22 then [114, 101, 97, 100]
  else if braceB d.kind = true then [123] ++ d.bracesF T P ++ [125]
  else if blockB d.kind = true then d.blockF T
  else d.aheadF ++ P 0 ++ d.behindF P
def brk (k : Int) (s : Str) : Str := if bareB k = true then s else [40] ++ s ++ [41]
mutual
def Ex.sh : Ex → Str
  | .mk d l => d.shF (fun i => (shL l).getD i []) (fun i => (paL l).getD i [])
def shL : List Ex → List Str
  | [] => []
  | x :: l => x.sh :: shL l
def paL : List Ex → List Str
  | [] => []
  | .mk d l :: r => brk d.kind (d.shF (fun i => (shL l).getD i []) (fun i => (paL l).getD i [])) :: paL r
end
def Ex.pa (x : Ex) : Str := brk x.d.kind x.sh
theorem shL_map : ∀ l : List Ex, shL l = l.map Ex.sh
  | [] => by simp [shL]
  | x :: l => by simp only [shL, shL_map l, List.map_cons]
theorem paL_map : ∀ l : List Ex, paL l = l.map Ex.pa
  | [] => by simp [paL]
  | .mk d l :: r => by simp only [paL, paL_map r, List.map_cons, Ex.pa, Ex.sh, Ex.d]
abbrev shAt (l : List Ex) (i : Nat) : Str := (l.map Ex.sh).getD i []
abbrev paAt (l : List Ex) (i : Nat) : Str := (l.map Ex.pa).getD i []
theorem sh_mk (d : ExD) (l : List Ex) : (Ex.mk d l).sh = d.shF (shAt l) (paAt l) := by
  simp only [Ex.sh, shL_map, paL_map]
theorem shAt_get {l : List Ex} {i : Nat} (h : i < l.length) : shAt l i = l[i].sh := by simp [shAt, List.getD, h]
theorem paAt_get {l : List Ex} {i : Nat} (h : i < l.length) : paAt l i = l[i].pa := by simp [paAt, List.getD, h]

/-! ### How long it is -/
/-- What an expression's own fields weigh. -/
def ExD.own (d : ExD) : Nat := 40 + 8 * d.labels.length + 8 * d.names.length + 2 * d.s.length + d.t.length + (d.labels.map List.length).sum + (d.names.map List.length).sum
mutual
def Ex.wt : Ex → Nat
  | .mk d l => d.own + wtL l
def wtL : List Ex → Nat
  | [] => 0
  | x :: l => x.wt + wtL l
end
theorem itoa_le (n : Int) (h0 : 0 ≤ n) (h1 : n ≤ 9223372036854775807) : (Lib.itoa n).length ≤ 21 := Lib.itoa_length_le n (by omega) h1

/-- Numbers within their kind's range. -/
inductive Ex.Rg : Ex → Prop
  | mk (d : ExD) (l : List Ex) (hn : d.n ≤ 9223372036854775807) (ha : -9223372036854775808 ≤ d.at_ ∧ d.at_ ≤ 9223372036854775807) (sub : ∀ x ∈ l, Ex.Rg x) : Ex.Rg (.mk d l)
theorem Ex.Rg.n {e : Ex} (h : e.Rg) : e.d.n ≤ 9223372036854775807 := by cases h; assumption
theorem Ex.Rg.sub {e : Ex} (h : e.Rg) : ∀ x ∈ e.l, Ex.Rg x := by cases h; assumption

/-! ### What an expression that may be has -/
theorem fine_own {d : ExD} {l : List Ex} (h : (Ex.mk d l).fineE = true) : d.fieldsB = true := by
  simp only [Ex.fineE, Bool.and_eq_true] at h; exact h.1
theorem fine_sub {d : ExD} {l : List Ex} (h : (Ex.mk d l).fineE = true) : ∀ x ∈ l, x.fineE = true := by
  simp only [Ex.fineE, Bool.and_eq_true] at h
  exact fun x hx => fineEL_mem h.2 hx
structure Fld (d : ExD) : Prop where
  pn : (d.pn : Int) = partsF d.kind d.ln (!decide (d.t = []))
  n0 : d.kind = 1 → 0 ≤ d.n
  s : d.sB = true
  t : d.tB = true
  lists : d.listsB = true
theorem fields_of {d : ExD} (h : d.fieldsB = true) : Fld d := by
  unfold ExD.fieldsB at h
  simp only [Bool.and_eq_true, decide_eq_true_eq, Bool.or_eq_true] at h
  obtain ⟨⟨⟨⟨h1, h2⟩, h3⟩, h4⟩, h5⟩ := h
  exact ⟨h1, fun hk => by rcases h2 with h2 | h2 <;> omega, h3, h4, h5⟩
theorem parts_one {d : ExD} {l : List Ex} (h : Fld d) (hl : l.length = d.pn) (hk : d.kind = 4 ∨ d.kind = 9 ∨ d.kind = 11 ∨ d.kind = 13 ∨ d.kind = 17 ∨ d.kind = 18 ∨ d.kind = 20 ∨ d.kind = 21) : ∃ a, l = [a] ∧ d.pn = 1 := by
  have h1 := h.pn
  have h2 : partsF d.kind d.ln (!decide (d.t = [])) = 1 := by unfold partsF; rw [if_neg (by omega), if_pos (by omega)]
  rw [h2] at h1
  have h3 : d.pn = 1 := by omega
  rw [h3] at hl
  match l, hl with
  | [a], _ => exact ⟨a, rfl, h3⟩
theorem parts_two {d : ExD} {l : List Ex} (h : Fld d) (hl : l.length = d.pn) (hk : d.kind = 5 ∨ d.kind = 6 ∨ d.kind = 7 ∨ d.kind = 10 ∨ d.kind = 12 ∨ d.kind = 16 ∨ d.kind = 19) : ∃ a b, l = [a, b] ∧ d.pn = 2 := by
  have h1 := h.pn
  have h2 : partsF d.kind d.ln (!decide (d.t = [])) = 2 := by unfold partsF; rw [if_neg (by omega), if_neg (by omega), if_pos (by omega)]
  rw [h2] at h1
  have h3 : d.pn = 2 := by omega
  rw [h3] at hl
  match l, hl with
  | [a, b], _ => exact ⟨a, b, rfl, h3⟩
theorem parts_three {d : ExD} {l : List Ex} (h : Fld d) (hl : l.length = d.pn) (hk : d.kind = 15) : ∃ a b c, l = [a, b, c] ∧ d.pn = 3 := by
  have h1 := h.pn
  have h2 : partsF d.kind d.ln (!decide (d.t = [])) = 3 := by unfold partsF; rw [if_neg (by omega), if_neg (by omega), if_neg (by omega), if_pos (by omega)]
  rw [h2] at h1
  have h3 : d.pn = 3 := by omega
  rw [h3] at hl
  match l, hl with
  | [a, b, c], _ => exact ⟨a, b, c, rfl, h3⟩
theorem parts_rec {d : ExD} (h : Fld d) (hk : d.kind = 8) : d.pn = d.ln ∧ d.nn = 0 ∧ d.t = [] ∧ labB d.labels 1 = true := by
  have h1 := h.pn
  have h2 : partsF d.kind d.ln (!decide (d.t = [])) = d.ln := by unfold partsF; rw [if_neg (by omega), if_neg (by omega), if_neg (by omega), if_neg (by omega), if_pos (by omega)]
  have h3 := h.lists
  have h4 := h.t
  unfold ExD.listsB at h3
  unfold ExD.tB at h4
  rw [if_pos hk, Bool.and_eq_true] at h3
  rw [if_neg (by omega), if_neg (by omega)] at h4
  exact ⟨by omega, by simpa using h3.2, by simpa using h4, h3.1⟩
theorem parts_match {d : ExD} (h : Fld d) (hk : d.kind = 14) (hm : d.ln ≤ 1000000) : d.pn = d.ln + 1 + (if d.t = [] then 0 else 1) ∧ d.nn = d.ln ∧ labB d.labels 3 = true := by
  have h1 := h.pn
  have h3 := h.lists
  unfold ExD.listsB at h3
  rw [if_neg (by omega), if_pos hk] at h3
  simp only [Bool.and_eq_true, decide_eq_true_eq] at h3
  refine ⟨?_, h3.1.1.2, h3.1.1.1⟩
  unfold partsF at h1
  rw [if_neg (by omega), if_neg (by omega), if_neg (by omega), if_neg (by omega), if_neg (by omega), if_pos (by omega)] at h1
  by_cases ht : d.t = []
  · rw [ht] at h1
    rw [if_pos ht]
    simp only [decide_true, Bool.not_true, Bool.false_eq_true, if_false] at h1
    unfold wrap64 at h1
    omega
  · rw [if_neg ht]
    simp only [decide_eq_false ht, Bool.not_false, if_true] at h1
    unfold wrap64 at h1
    omega
theorem kinds_of {d : ExD} (h : Fld d) : d.kind = 1 ∨ d.kind = 2 ∨ d.kind = 3 ∨ d.kind = 22 ∨ braceB d.kind = true ∨ blockB d.kind = true ∨ d.kind = 9 ∨ d.kind = 11 ∨ d.kind = 13 ∨ d.kind = 17 ∨ d.kind = 18 ∨ d.kind = 20 ∨ d.kind = 21 ∨ d.kind = 5 ∨ d.kind = 16 ∨ d.kind = 19 := by
  have h1 := h.pn
  unfold partsF at h1
  unfold braceB blockB
  simp only [decide_eq_true_eq]
  by_cases q : d.kind = 1 ∨ d.kind = 2 ∨ d.kind = 3 ∨ d.kind = 22 ∨ (d.kind = 8 ∨ d.kind = 10 ∨ d.kind = 12) ∨ (d.kind = 4 ∨ d.kind = 6 ∨ d.kind = 7 ∨ d.kind = 15 ∨ d.kind = 14) ∨ d.kind = 9 ∨ d.kind = 11 ∨ d.kind = 13 ∨ d.kind = 17 ∨ d.kind = 18 ∨ d.kind = 20 ∨ d.kind = 21 ∨ d.kind = 5 ∨ d.kind = 16 ∨ d.kind = 19
  · exact q
  · rw [if_neg (by omega), if_neg (by omega), if_neg (by omega), if_neg (by omega), if_neg (by omega), if_neg (by omega)] at h1
    omega
theorem labB_len {l : List Str} {k : Int} (h : labB l k = true) : l.length ≤ 30 := by
  unfold labB at h
  simp only [Bool.and_eq_true, decide_eq_true_eq] at h
  exact h.1.1
end Go.Proofs.YtaglmmcjhlehjaaGreatDoor

namespace Go.Proofs.YtaglmmcjhlehjaaGreatDoor
open Go.RowKit
set_option linter.unusedVariables false
set_option linter.unusedSimpArgs false

def sumTo (T : Nat → Str) : Nat → Nat
  | 0 => 0
  | k + 1 => sumTo T k + (T k).length
theorem sumTo_shift (T : Nat → Str) : ∀ n, sumTo T (n + 1) = (T 0).length + sumTo (fun i => T (i + 1)) n
  | 0 => by simp [sumTo]
  | n + 1 => by
    have h := sumTo_shift T n
    rw [show sumTo T (n + 1 + 1) = sumTo T (n + 1) + (T (n + 1)).length from rfl, h]
    simp only [sumTo]
    omega
theorem sumTo_list : ∀ (lb : List Str) (n : Nat), sumTo (fun i => lb.getD i []) n ≤ (lb.map List.length).sum
  | [], n => by
    have : sumTo (fun i => ([] : List Str).getD i []) n = 0 := by
      induction n with
      | zero => rfl
      | succ n ih => simp only [sumTo, ih]; simp
    rw [this]; simp
  | x :: r, 0 => by simp [sumTo]
  | x :: r, n + 1 => by
    rw [sumTo_shift]
    have := sumTo_list r n
    simp only [List.getD_cons_zero, List.getD_cons_succ, List.map_cons, List.sum_cons]
    omega
theorem sumTo_mono (T : Nat → Str) {a b : Nat} (h : a ≤ b) : sumTo T a ≤ sumTo T b := by
  induction h with
  | refl => exact Nat.le_refl _
  | step h ih => simp only [sumTo]; omega
theorem fieldsTo_le (lb : List Str) (T : Nat → Str) : ∀ k, (fieldsTo lb T k).length ≤ sumTo (fun i => lb.getD i []) k + sumTo T k + 5 * k
  | 0 => by simp [fieldsTo]
  | k + 1 => by
    have h := fieldsTo_le lb T k
    simp only [fieldsTo, sumTo, List.length_append]
    split <;> simp only [List.length_cons, List.length_nil] <;> omega
theorem armsTo_le (lb nm : List Str) (T : Nat → Str) : ∀ k, (T 0).length + (armsTo lb nm T k).length ≤ sumTo (fun i => lb.getD i []) k + sumTo (fun i => nm.getD i []) k + sumTo T (k + 1) + 8 * k
  | 0 => by simp [armsTo, sumTo]
  | k + 1 => by
    have h := armsTo_le lb nm T k
    rw [show sumTo T (k + 1 + 1) = sumTo T (k + 1) + (T (k + 1)).length from rfl]
    simp only [armsTo, List.length_append]
    simp only [show sumTo (fun i => lb.getD i []) (k + 1) = sumTo (fun i => lb.getD i []) k + (lb.getD k []).length from rfl, show sumTo (fun i => nm.getD i []) (k + 1) = sumTo (fun i => nm.getD i []) k + (nm.getD k []).length from rfl]
    simp only [List.length_cons, List.length_nil]
    omega
theorem quote_le (s : Str) : ((quoteS s).getD []).length ≤ 2 * s.length + 2 := by
  unfold quoteS
  split
  · simp
  · cases h : qbody s with
    | none => simp
    | some q => have := qbody_len s q h; simp; omega
theorem wtL_ge : ∀ (l : List Ex), (∀ x ∈ l, x.sh.length + 2 ≤ x.wt) → ((l.map Ex.sh).map List.length).sum + 2 * l.length ≤ wtL l
  | [], _ => by simp [wtL]
  | x :: r, h => by
    have h1 := h x (by simp)
    have h2 := wtL_ge r (fun y hy => h y (by simp [hy]))
    simp only [List.map_cons, List.sum_cons, List.length_cons, wtL]
    omega
theorem sumTo_sh (l : List Ex) (h : ∀ x ∈ l, x.sh.length + 2 ≤ x.wt) (n : Nat) : sumTo (shAt l) n + 2 * l.length ≤ wtL l := by
  have h1 := sumTo_list (l.map Ex.sh) n
  have h2 := wtL_ge l h
  have h3 : sumTo (shAt l) n = sumTo (fun i => (l.map Ex.sh).getD i []) n := rfl
  omega
theorem pa_le (x : Ex) : x.pa.length ≤ x.sh.length + 2 := by
  unfold Ex.pa brk
  split <;> simp
theorem own_ge (d : ExD) : 40 + 2 * d.s.length + d.t.length + 8 * d.labels.length + 8 * d.names.length + (d.labels.map List.length).sum + (d.names.map List.length).sum ≤ d.own := by
  unfold ExD.own; omega
theorem wt_one (d : ExD) (a : Ex) : (Ex.mk d [a]).wt = d.own + a.wt := by simp [Ex.wt, wtL]
theorem wt_two (d : ExD) (a b : Ex) : (Ex.mk d [a, b]).wt = d.own + a.wt + b.wt := by simp [Ex.wt, wtL]; omega
theorem wt_three (d : ExD) (a b c : Ex) : (Ex.mk d [a, b, c]).wt = d.own + a.wt + b.wt + c.wt := by simp [Ex.wt, wtL]; omega
theorem sh_le (w : World) : ∀ (e : Ex), e.In w → e.fineE = true → e.Rg → e.sh.length + 2 ≤ e.wt
  | .mk d l, hI, hf, hr => by
    have hF := fields_of (fine_own hf)
    have ih : ∀ x ∈ l, x.sh.length + 2 ≤ x.wt := fun x hx => sh_le w x (hI.sub x hx) (fine_sub hf x hx) (hr.sub x hx)
    have hlen : l.length = d.pn := hI.len
    have hll : d.labels.length = d.ln := hI.labLen
    have hnl : d.names.length = d.nn := hI.namLen
    have ho := own_ge d
    have hwt : (Ex.mk d l).wt = d.own + wtL l := rfl
    rw [sh_mk, hwt]
    have hS := sumTo_sh l ih
    have p1 : ∀ {a : Ex}, a ∈ l → a.pa.length ≤ a.wt := fun h => by have := pa_le ‹Ex›; have := ih _ h; omega
    rcases kinds_of hF with k | k | k | k | k | k | k
    · unfold ExD.shF; rw [if_pos k]
      have := itoa_le d.n (hF.n0 k) hr.n
      omega
    · unfold ExD.shF; rw [if_neg (by omega), if_pos k]
      have := quote_le d.s
      omega
    · unfold ExD.shF; rw [if_neg (by omega), if_neg (by omega), if_pos k]; omega
    · unfold ExD.shF; rw [if_neg (by omega), if_neg (by omega), if_neg (by omega), if_pos k]; simp; omega
    · have hb := k
      unfold braceB at k
      have k := of_decide_eq_true k
      unfold ExD.shF
      rw [if_neg (by omega), if_neg (by omega), if_neg (by omega), if_neg (by omega), if_pos hb]
      unfold ExD.bracesF
      rcases k with k | k | k
      · rw [if_pos k]
        have h1 := fieldsTo_le d.labels (shAt l) d.ln
        have h2 := sumTo_list d.labels d.ln
        have h3 := hS d.ln
        have h4 := (parts_rec hF k).1
        simp only [List.length_append, List.length_cons, List.length_nil]
        omega
      · obtain ⟨a, b, rfl, _⟩ := parts_two hF hlen (by omega)
        rw [if_neg (by omega), if_pos k]
        have h1 := ih a (by simp)
        have h2 := ih b (by simp)
        simp [shAt, wtL]
        omega
      · obtain ⟨a, b, rfl, _⟩ := parts_two hF hlen (by omega)
        rw [if_neg (by omega), if_neg (by omega)]
        have h1 := ih a (by simp)
        have h2 := ih b (by simp)
        have h3 := pa_le b
        simp [shAt, paAt, wtL]
        omega
    · have hb := k
      unfold blockB at k
      have k := of_decide_eq_true k
      have nb : ¬ braceB d.kind = true := by unfold braceB; rw [decide_eq_true_eq]; omega
      unfold ExD.shF
      rw [if_neg (by omega), if_neg (by omega), if_neg (by omega), if_neg (by omega), if_neg nb, if_pos hb]
      unfold ExD.blockF
      rcases k with k | k | k | k | k
      · obtain ⟨a, rfl, _⟩ := parts_one hF hlen (by omega)
        rw [if_pos k]
        have h1 := ih a (by simp)
        simp [shAt, wtL]
        omega
      · obtain ⟨a, b, rfl, _⟩ := parts_two hF hlen (by omega)
        rw [if_neg (by omega), if_pos k]
        have h1 := ih a (by simp)
        have h2 := ih b (by simp)
        simp [shAt, wtL, betweenTo, inS]
        omega
      · obtain ⟨a, b, rfl, _⟩ := parts_two hF hlen (by omega)
        rw [if_neg (by omega), if_neg (by omega), if_pos k]
        have h1 := ih a (by simp)
        have h2 := ih b (by simp)
        simp [shAt, wtL, betweenTo, inS]
        omega
      · obtain ⟨a, b, c, rfl, _⟩ := parts_three hF hlen (by omega)
        rw [if_neg (by omega), if_neg (by omega), if_neg (by omega), if_pos k]
        have h1 := ih a (by simp)
        have h2 := ih b (by simp)
        have h3 := ih c (by simp)
        simp [shAt, wtL, betweenTo, inS]
        omega
      · rw [if_neg (by omega), if_neg (by omega), if_neg (by omega), if_neg (by omega)]
        have h30 : d.ln ≤ 30 := by
          have h3 := hF.lists
          unfold ExD.listsB at h3
          rw [if_neg (by omega), if_pos k] at h3
          simp only [Bool.and_eq_true, decide_eq_true_eq] at h3
          have := labB_len h3.1.1.1
          omega
        obtain ⟨h4, h5, h6⟩ := parts_match hF k (by omega)
        have h1 := armsTo_le d.labels d.names (shAt l) d.ln
        have h2 := sumTo_list d.labels d.ln
        have h3 := sumTo_list d.names d.ln
        have h7 := hS (d.ln + 1)
        have h8 := hS (d.ln + 1 + 1)
        rw [show sumTo (shAt l) (d.ln + 1 + 1) = sumTo (shAt l) (d.ln + 1) + (shAt l (d.ln + 1)).length from rfl] at h8
        unfold ExD.matchF ExD.restF
        by_cases ht : d.t = []
        · rw [if_pos ht]
          simp only [List.length_append, List.length_cons, List.length_nil]
          omega
        · rw [if_neg ht]
          rw [if_neg ht] at h4
          rw [show d.pn - 1 = d.ln + 1 from by omega]
          simp only [List.length_append, List.length_cons, List.length_nil]
          omega
    · have nb : ¬ braceB d.kind = true := by unfold braceB; rw [decide_eq_true_eq]; omega
      have nk : ¬ blockB d.kind = true := by unfold blockB; rw [decide_eq_true_eq]; omega
      unfold ExD.shF
      rw [if_neg (by omega), if_neg (by omega), if_neg (by omega), if_neg (by omega), if_neg nb, if_neg nk]
      have ha : d.aheadF.length ≤ d.s.length + 6 := by
        unfold ExD.aheadF
        repeat' split
        all_goals simp
      by_cases k2 : d.kind = 5 ∨ d.kind = 16 ∨ d.kind = 19
      · obtain ⟨a, b, rfl, _⟩ := parts_two hF hlen (by omega)
        have h1 := p1 (a := a) (by simp)
        have h2 := p1 (a := b) (by simp)
        have hbh : (d.behindF (paAt [a, b])).length ≤ d.s.length + 4 + b.pa.length := by
          unfold ExD.behindF
          repeat' split
          all_goals (simp [paAt]; try omega)
        simp only [List.length_append]
        have e0 : paAt [a, b] 0 = a.pa := rfl
        rw [e0]
        simp only [wtL]
        omega
      · obtain ⟨a, rfl, _⟩ := parts_one hF hlen (by omega)
        have h1 := p1 (a := a) (by simp)
        have hbh : (d.behindF (paAt [a])).length ≤ d.s.length + 4 := by
          unfold ExD.behindF
          rw [if_neg (show ¬ d.kind = 5 by omega), if_neg (show ¬ d.kind = 16 by omega), if_neg (show ¬ d.kind = 19 by omega)]
          repeat' split
          all_goals (simp [paAt]; try omega)
        simp only [List.length_append]
        have e0 : paAt [a] 0 = a.pa := rfl
        rw [e0]
        simp only [wtL]
        omega
end Go.Proofs.YtaglmmcjhlehjaaGreatDoor

namespace Go.Proofs.YtaglmmcjhlehjaaGreatDoor
open Go.ChangeShapes Go.WideShapes Go.ChangeAt Go.RowKit
set_option linter.unusedVariables false
set_option linter.unusedSimpArgs false

abbrev WT : TypeId := 65
abbrev U8 : TypeId := 5
/-- The writer in block b holds a text. -/
def Wd (B b : Nat) (s : Str) (w : World) : Prop := Lib.IsBuilder WT U8 B b (u8s s) w
/-- Rows of another type stay. -/
def Keeps (w w' : World) : Prop := ∀ (k : Nat) (cs : Array Value) (T : TypeId) (fr : Nat × Nat), w.heap[k]? = some (.cells cs T fr) → T ≠ WT → T ≠ U8 → w'.heap[k]? = some (.cells cs T fr)
theorem Keeps.refl (w : World) : Keeps w w := fun _ _ _ _ h _ _ => h
theorem Keeps.trans {a b c : World} (h : Keeps a b) (k : Keeps b c) : Keeps a c := fun q cs T fr hq h1 h2 => k q cs T fr (h q cs T fr hq h1 h2) h1 h2
theorem lt_of_heap {w : World} {k : Nat} {o : Obj} (h : w.heap[k]? = some o) : k < w.heap.size := by
  rcases Nat.lt_or_ge k w.heap.size with h' | h'
  · exact h'
  · rw [Array.getElem?_eq_none h'] at h; cases h
theorem Keeps.of_below {w w' : World} (h : RowKit.Below w.heap.size w w') : Keeps w w' := fun k cs T fr hk _ _ => by rw [h.block k (lt_of_heap hk)]; exact hk
theorem Wd.lt {B b : Nat} {s : Str} {w : World} (h : Wd B b s w) : b < w.heap.size := by
  rcases h with h | h <;> exact h.lt
theorem Wd.ge {B b : Nat} {s : Str} {w : World} (h : Wd B b s w) : B ≤ b := by
  rcases h with h | h <;> exact h.1
theorem builder_below {B b : Nat} {p : Value} {bs : List Value} {w w' : World} (h : Lib.BuilderAt WT U8 B b p bs w) (hb : RowKit.Below w.heap.size w w') : Lib.BuilderAt WT U8 B b p bs w' := by
  obtain ⟨hB, v, hk, hown, hne⟩ := h
  refine ⟨hB, v, by rw [hb.block b (lt_of_heap hk)]; exact hk, ?_, hne⟩
  obtain ⟨h1, h2⟩ := hown
  refine ⟨h1, ?_⟩
  rcases h2 with h2 | ⟨g, cap, cur, hv, hg, hgc, r⟩
  · exact .inl h2
  · exact .inr ⟨g, cap, cur, hv, hg, by rw [hb.block g (lt_of_heap hgc)]; exact hgc, r⟩
theorem Wd.below {B b : Nat} {s : Str} {w w' : World} (h : Wd B b s w) (hb : RowKit.Below w.heap.size w w') : Wd B b s w' := by
  rcases h with h | h
  · exact .inl (builder_below h hb)
  · exact .inr (builder_below h hb)
theorem wd_new (w : World) : Wd w.heap.size w.heap.size [] (w.alloc (.cells #[.pointer none, .slice none 0 0] WT)) := Lib.fresh_isBuilder WT U8 w
theorem wt_ne : WT ≠ U8 := by decide

set_option maxHeartbeats 1000000 in
set_option maxRecDepth 100000 in
theorem copyUsed_any (b : Nat) (w : World) (h0 : w.cell? ⟨b, 0, none⟩ = some (.pointer (some ⟨b, 0, none⟩))) :
    Calls Tryz.prog 117 #[.pointer (some ⟨b, 0, none⟩)] w fun e w' => e = .returned (.tuple #[]) ∧ w' = w := by
  obtain ⟨j, hj, hjs⟩ : ∃ j, Tryz.prog.info? 63 = some j ∧ j.size = 2 := Option.map_eq_some_iff.1 (show (Tryz.prog.info? 63).map (·.size) = some 2 by kernel_rfl)
  have hN := Lib.run_neq_ptr_same (P := Tryz.prog) w ⟨b, 0, none⟩ Tryz.underlying60 hj
  go_enter Tryz.func117, Tryz.ntmps117
  go_wp2
  go_end0
  exact ⟨rfl, rfl⟩

set_option maxHeartbeats 1000000 in
set_option maxRecDepth 100000 in
theorem copyFresh_any (b : Nat) (w : World) (h0 : w.cell? ⟨b, 0, none⟩ = some (.pointer none)) (hsh : w.shape? b = some (WT, 2)) (hfz : w.frozen? ⟨b, 0, none⟩ = false) :
    Calls Tryz.prog 117 #[.pointer (some ⟨b, 0, none⟩)] w fun e w' => e = .returned (.tuple #[]) ∧ w' = w.setCell ⟨b, 0, none⟩ (.pointer (some ⟨b, 0, none⟩)) := by
  obtain ⟨j, hj, hjs⟩ : ∃ j, Tryz.prog.info? 63 = some j ∧ j.size = 2 := Option.map_eq_some_iff.1 (show (Tryz.prog.info? 63).map (·.size) = some 2 by kernel_rfl)
  have hU := Lib.run_to_unsafe (P := Tryz.prog) w (src := 60) (dst := 97) ⟨b, 0, none⟩ Tryz.underlying60 Tryz.underlying97 hj (by rw [hjs]; decide) hsh (Nat.zero_lt_succ 1)
  have hF := Lib.run_from_unsafe (P := Tryz.prog) w (src := 97) (dst := 60) ⟨b, 0, none⟩ Tryz.underlying97 Tryz.underlying60 hj hsh (by kernel_rfl)
  have hE := run_callFunc_extern (P := Tryz.prog) (w := w) (args := #[.pointer (some ⟨b, 0, none⟩)]) Tryz.func131 (by kernel_rfl) (by kernel_rfl) (by kernel_rfl) (e := Extern.AbiNoEscape.same) (by kernel_rfl)
  rw [Lib.run_noEscape] at hE
  go_enter Tryz.func117, Tryz.ntmps117
  go_wp2
  go_end0
  exact ⟨rfl, rfl⟩

theorem copy_any (B b : Nat) (bs : List Value) (w : World) (h : Lib.IsBuilder WT U8 B b bs w) :
    Calls Tryz.prog 117 #[.pointer (some ⟨b, 0, none⟩)] w fun e w' => e = .returned (.tuple #[]) ∧ Lib.BuilderAt WT U8 B b (.pointer (some ⟨b, 0, none⟩)) bs w' ∧ Below B w w' ∧ Keeps w w' := by
  rcases h with h | h
  · refine (copyFresh_any b w h.cell0 h.shape h.frozen0).mono ?_
    rintro e w' ⟨rfl, rfl⟩
    refine ⟨rfl, h.used _, (Below.refl B w).setCell (p := ⟨b, 0, none⟩) h.1 _, ?_⟩
    intro k cs T fr hk h1 h2
    have hkb : k ≠ b := by
      rintro rfl
      obtain ⟨_, v, hv, _⟩ := h
      rw [hv] at hk
      injection hk with hk
      injection hk with _ hk _
      exact h1 hk.symm
    rw [show (w.setCell ⟨b, 0, none⟩ (.pointer (some ⟨b, 0, none⟩))).heap[k]? = w.heap[k]? from Below.heap_setCell _ _ _ _ (by exact hkb)]
    exact hk
  · refine (copyUsed_any b w h.cell0).mono ?_
    rintro e w' ⟨rfl, rfl⟩
    exact ⟨rfl, h, Below.refl B _, Keeps.refl _⟩

theorem u8s_strCells (s : Str) : Lib.strCells (bstr s) = u8s s := by rw [Lib.strCells, bstr_data]; rfl

set_option maxHeartbeats 2000000 in
set_option maxRecDepth 100000 in
theorem write_any (B b : Nat) (acc s : Str) (w : World) (h : Wd B b acc w) (hlen : acc.length + s.length ≤ 140737488355328) (hBw : B ≤ w.heap.size) :
    Calls Tryz.prog 81 #[.pointer (some ⟨b, 0, none⟩), .string (bstr s)] w fun e w' => (∃ v, e = .returned v) ∧ Wd B b (acc ++ s) w' ∧ Below B w w' ∧ Keeps w w' := by
  obtain ⟨i0, hi, hz0, hz1, hz2⟩ := info_parts (show (Tryz.prog.info? 5).map (fun i => (i.zero, i.size, i.bytes)) = some (some (.int .u8 0), 1, 1) by kernel_rfl)
  have hsz : (bstr s).size = s.length := bstr_size s
  have HC := Lib.hid (copy_any B b (u8s acc) w h)
  clear h
  go_enter Tryz.func81, Tryz.ntmps81
  go_wp2_with fail
  refine HC.out.mono ?_
  rintro e w1 ⟨rfl, h1, hb1, hk1⟩
  have HK1 := Lib.hid hk1
  clear hk1 HC
  obtain ⟨hB, v, hbk, hown, hne⟩ := h1
  have c0 : w1.cell? ⟨b, 0, none⟩ = some (.pointer (some ⟨b, 0, none⟩)) := by rw [Lib.cell_of_heap hbk]; rfl
  have c1 : w1.cell? ⟨b, 1, none⟩ = some v := by rw [Lib.cell_of_heap hbk]; rfl
  go_wp2_with (at_builtin; refine Lib.wpList_append_own_string _ rfl _ _ 61 9 rfl B U8 i0 Tryz.underlying61 Tryz.underlying9 hi hz0 hz1 hz2 _ _ _ rfl hown (bstr s) rfl ?c3 ?c4 ?c5 ?_)
  case c3 => rw [u8s_length, hsz]; unfold maxLen; omega
  case c4 => rw [u8s_length, hsz]; omega
  case c5 => have := hb1.size; omega
  intro v' w2 hown' hgrow _
  have hlt : b < w1.heap.size := lt_of_heap hbk
  have hb2 : w2.heap[b]? = some (.cells #[.pointer (some ⟨b, 0, none⟩), v] WT (0, 0)) := by
    rw [hgrow.block b hlt (fun e => hne e.symm)]
    exact hbk
  have d0 : w2.cell? ⟨b, 0, none⟩ = some (.pointer (some ⟨b, 0, none⟩)) := by rw [Lib.cell_of_heap hb2]; rfl
  have d1 : w2.cell? ⟨b, 1, none⟩ = some v := by rw [Lib.cell_of_heap hb2]; rfl
  have f1 : w2.frozen? ⟨b, 1, none⟩ = false := Lib.frozen_of_heap hb2 1
  have hK2 : Keeps w1 w2 := by
    intro k cs T fr hk ha hb'
    rw [hgrow.block k (lt_of_heap hk) ?_]
    · exact hk
    · intro e
      rcases hown.2 with ⟨rfl, _⟩ | ⟨g, cap, cur, rfl, _, hg, _⟩
      · simp [Value.ownBlock] at e
      · simp only [Value.ownBlock, Option.some.injEq] at e
        subst e
        rw [hg] at hk
        injection hk with hk
        injection hk with _ hk _
        exact hb' hk.symm
  have hK3 : ∀ x, Keeps w2 (w2.setCell ⟨b, 1, none⟩ x) := by
    intro x k cs T fr hk ha hb'
    have hkb : k ≠ b := by
      rintro rfl
      rw [hb2] at hk
      injection hk with hk
      injection hk with _ hk _
      exact ha hk.symm
    rw [show (w2.setCell ⟨b, 1, none⟩ x).heap[k]? = w2.heap[k]? from Below.heap_setCell _ _ _ _ (by exact hkb)]
    exact hk
  have HK := Lib.hid (And.intro hK2 hK3)
  clear hK2 hK3
  obtain ⟨ao, n', cap, rfl⟩ : ∃ ao n' cap, v' = .slice ao n' cap := by
    rcases hown'.2 with ⟨hv, _⟩ | ⟨g, cap, cur, hv, _⟩
    · exact ⟨_, _, _, hv⟩
    · exact ⟨_, _, _, hv⟩
  go_wp2_with fail
  go_returns
  refine ⟨⟨_, rfl⟩, .inr ?_, ?_, (HK1.out.trans HK.out.1).trans (HK.out.2 _)⟩
  · refine Lib.BuilderAt.put (T := WT) (e := U8) hB hb2 (bs' := u8s (acc ++ s)) ?_ wt_ne
    have e1 : u8s (acc ++ s) = u8s acc ++ Lib.strCells (bstr s) := by rw [u8s_strCells]; simp [u8s]
    rw [e1, List.length_append, Lib.strCells_length]
    rw [hsz]
    exact hown'
  · exact (hb1.grown hgrow (by have := hb1.size; omega) (fun k hk => (hown.lt k hk).1)).setCell (p := ⟨b, 1, none⟩) hB _

theorem flat_snoc (l : List Str) (k : Nat) (hk : k < l.length) : (l.take (k + 1)).flatten = (l.take k).flatten ++ l[k] := by
  rw [List.take_succ_eq_append_getElem hk, List.flatten_append]; simp
theorem flat_take_le (l : List Str) (k : Nat) : (l.take k).flatten.length ≤ l.flatten.length := by
  have : l.flatten = (l.take k).flatten ++ (l.drop k).flatten := by rw [← List.flatten_append, List.take_append_drop]
  rw [this, List.length_append]; omega
set_option maxHeartbeats 1000000 in
set_option maxRecDepth 100000 in
theorem say_any (B b g : Nat) (acc : Str) (l : List Str) (fr : Nat × Nat) (w : World) (h : Wd B b acc w) (hlen : acc.length + l.flatten.length ≤ 140737488355328) (hBw : B ≤ w.heap.size) (hl4 : l.length ≤ 100)
    (hg : w.heap[g]? = some (.cells (strs l).toArray 9 fr)) :
    Calls Tryz.prog 58 #[.pointer (some ⟨b, 0, none⟩), .slice (some ⟨g, 0, none⟩) l.length l.length] w fun e w' => e = .returned (.tuple #[]) ∧ Wd B b (acc ++ l.flatten) w' ∧ Below B w w' ∧ Keeps w w' := by
  have H := Lib.hid (And.intro hg (And.intro hlen (And.intro hBw h)))
  clear h hg hBw hlen
  go_enter Tryz.func58, Tryz.ntmps58
  go_wp2_with fail
  go_loopw [8] (fun i wr => ∃ k : Nat, i = .int .i64 k ∧ k ≤ l.length ∧ Wd B b (acc ++ (l.take k).flatten) wr ∧ Below B w wr ∧ Keeps w wr) (fun i _ => l.length - (intOf i).toNat)
  case atStart => exact ⟨0, rfl, Nat.zero_le _, by simpa using H.out.2.2.2, Below.refl _ _, Keeps.refl _⟩
  case round =>
    obtain ⟨k, rfl, hk, hwd, hbr, hkp⟩ := hrel
    have HR := Lib.hid (And.intro hwd (And.intro hbr hkp))
    clear hwd hbr hkp
    by_cases hlt : k < l.length
    · have hgr := HR.out.2.2 g _ _ _ H.out.1 (by decide) (by decide)
      have hc : wr.cell? ⟨g, 0 + k, none⟩ = some (.string (bstr l[k])) := by
        rw [Lib.cell_of_heap hgr, Nat.zero_add]
        simp [strs, hlt]
      rw [Nat.zero_add] at hc
      have HN := Lib.hid (flat_snoc l k hlt)
      have HLE := Lib.hid (flat_take_le l (k + 1))
      obtain ⟨x, hx⟩ : ∃ x, l[k] = x := ⟨_, rfl⟩
      rw [hx] at hc HN
      have HW := Lib.hid (write_any B b (acc ++ (l.take k).flatten) x wr HR.out.1 (by have h1 := HLE.out; have h2 := H.out.2.1; rw [HN.out, List.length_append] at h1; rw [List.length_append]; omega) (Nat.le_trans H.out.2.2.1 HR.out.2.1.size))
      have hki : (k : Int) < (l.length : Int) := by omega
      have hk0 : (0 : Int) ≤ (k : Int) := by omega
      clear hx hgr
      go_wp2_with fail
      refine HW.out.mono ?_
      rintro e w2 ⟨⟨v, rfl⟩, hw2, hb2, hk2⟩
      have H2 := Lib.hid (And.intro hw2 (And.intro (HR.out.2.1.trans hb2) (HR.out.2.2.trans hk2)))
      clear hw2 hb2 hk2 HW hc
      go_wp2_with fail
      go_roundw
      case rel => exact ⟨k + 1, by go_num, hlt, by rw [HN.out, ← List.append_assoc]; exact H2.out.1, H2.out.2.1, H2.out.2.2⟩
      case measure => simp [intOf] <;> omega
    · have hki : ¬ (k : Int) < (l.length : Int) := by omega
      go_wp2_with fail
      go_end0
      exact ⟨rfl, by have := HR.out.1; rwa [List.take_of_length_le (by omega)] at this, HR.out.2.1, HR.out.2.2⟩
/-- A call of 'say' at texts that are laid for it. -/
theorem say_new (B b : Nat) (acc : Str) (l : List Str) (w : World) (h : Wd B b acc w) (hlen : acc.length + l.flatten.length ≤ 140737488355328) (hBw : B ≤ w.heap.size) (hl4 : l.length ≤ 100) (n : Nat) (hn : l.length = n) (cs : Array Value) (hcs : (strs l).toArray = cs) :
    Calls Tryz.prog 58 #[.pointer (some ⟨b, 0, none⟩), .slice (some ⟨w.heap.size, 0, none⟩) n n] (w.alloc (.cells cs 9)) fun e w' => e = .returned (.tuple #[]) ∧ Wd B b (acc ++ l.flatten) w' ∧ Below B w w' ∧ Keeps w w' := by
  subst hn
  subst hcs
  have hb : Below w.heap.size w (w.alloc (.cells (strs l).toArray 9)) := (Below.refl _ _).alloc (Nat.le_refl _) _
  refine (say_any B b w.heap.size acc l (0, 0) _ (h.below hb) hlen (Nat.le_trans hBw hb.size) hl4 (Go.heap_alloc_new w _)).mono fun e w' hh => ⟨hh.1, hh.2.1, ?_, ?_⟩
  · exact ((Below.refl _ _).alloc hBw _).trans hh.2.2.1
  · exact (Keeps.of_below hb).trans hh.2.2.2
end Go.Proofs.YtaglmmcjhlehjaaGreatDoor

namespace Go.Proofs.YtaglmmcjhlehjaaGreatDoor
open Go.ChangeShapes Go.WideShapes Go.ChangeAt Go.RowKit Go.Sort
set_option linter.unusedVariables false
set_option linter.unusedSimpArgs false

theorem cut_len (A : Option Addr) (l : Str) (n cp : Nat) (hn : l.length = n) (w : World) (hL : Lay w) (hr : Rd w 1 A n (u8s l)) (hcap : n ≤ cp) (hm : n ≤ 4000) :
    Calls Tryz.prog 124 #[.slice A n cp] w fun e w' => CutRes (cutS l 0) w e w' := by
  subst hn
  exact cut_any A l cp w hL hr hcap hm
/- A text as bytes of new memory. -/
set_option maxRecDepth 100000 in
theorem conv_text (q : Str) (w : World) : ∃ c, q.length ≤ c ∧ (convert 9 61 (.string (bstr q))).run Tryz.prog w = .ok (.slice (some ⟨w.heap.size, 0, none⟩) q.length c) (Lib.bytesWorld w 5 (bstr q)) ∧ Rd (Lib.bytesWorld w 5 (bstr q)) 1 (some ⟨w.heap.size, 0, none⟩) q.length (u8s q) := by
  have h := Lib.run_convert_string_bytes (P := Tryz.prog) w 9 61 5 (bstr q) Tryz.underlying9 Tryz.underlying61 Tryz.underlying5
  have hz := bstr_size q
  refine ⟨grownCap w (bstr q).size 0 5, ?_, by rw [h, hz], ⟨by rw [u8s_length, Nat.mul_one], fun _ => ⟨_, rfl, fun j u hu => ?_⟩⟩⟩
  · have := grownCap_ge w (bstr q).size 0 5
    omega
  · rw [Addr.add_lit, Nat.zero_add]
    have hj : j < q.length := by
      have := (List.getElem?_eq_some_iff.1 hu).1
      rwa [u8s_length] at this
    rw [Lib.bytesWorld_cell w 5 (bstr q) j (by omega), bstr_data]
    rw [u8s_at q j hj] at hu
    injection hu with hu
    rw [← hu]
    simp [List.getD, hj]
theorem one_tok {w : World} {A : Option Addr} {t : Tok} (h : Rd w 4 A 1 (toks [t])) : ∃ b o, A = some ⟨b, o, none⟩ ∧ b < w.heap.size ∧ w.cell? ⟨b, o, none⟩ = some (.int .i64 t.kind) ∧ w.cell? ⟨b, o + 3, none⟩ = some (.string (bstr t.s)) := by
  obtain ⟨b, o, rfl, hb, hc⟩ := h.base (by simp [toks, Tok.cells])
  exact ⟨b, o, rfl, hb, hc 0 _ rfl, hc 3 _ rfl⟩

theorem tokB_long {s : Str} {k : Int} (h : 20 < s.length) : tokB s k = false := by unfold tokB; rw [if_pos h]
theorem tokB_short {s : Str} {k : Int} (h : ¬ 20 < s.length) : tokB s k = tokR s k (cutS s 0) := by unfold tokB; rw [if_neg h]

set_option maxRecDepth 100000 in
set_option maxHeartbeats 1000000 in
theorem tok_any (s : Str) (k : Int) (w : World) (hL : Lay w) (hs : s.length ≤ 9223372036854775807) : Calls Tryz.prog 102 #[.string (bstr s), .int .i64 k] w fun e w' => e = .returned (.bool (tokB s k)) ∧ Below w.heap.size w w' := by
  have hz : (bstr s).size = s.length := bstr_size s
  by_cases h20 : 20 < s.length
  · rw [tokB_long h20]
    have hi : (20 : Int) < (s.length : Int) := by omega
    clear hL h20 hs
    go_enter Tryz.func102, Tryz.ntmps102
    go_wp2_with fail
    go_returns
    exact ⟨rfl, Below.refl _ _⟩
  have hi : ¬ (20 : Int) < (s.length : Int) := by omega
  rw [tokB_short h20]
  obtain ⟨c, hc, hcv, hrd⟩ := conv_text s w
  have hbq := Joins.below_bytesWorld w.heap.size w 5 (bstr s) (Nat.le_refl _)
  have HC := Lib.hid (cut_len (some ⟨w.heap.size, 0, none⟩) s s.length c rfl (Lib.bytesWorld w 5 (bstr s)) (hL.below hbq) hrd hc (by omega))
  have HB := Lib.hid hbq
  clear hrd hbq hc hL h20 hs
  obtain ⟨r, hr⟩ : ∃ r, cutS s 0 = r := ⟨_, rfl⟩
  rw [hr] at HC ⊢
  clear hr
  go_enter Tryz.func102, Tryz.ntmps102
  go_wp2_with fail
  clear hcv
  generalize Lib.bytesWorld w 5 (bstr s) = w1 at *
  refine HC.out.mono ?_
  rintro e w2 hres
  unfold CutRes at hres
  cases r with
  | bad p =>
    obtain ⟨v, rfl, hv, hb2⟩ := hres
    obtain ⟨g, _, rfl, _⟩ := hv
    have H2 := Lib.hid (below_then HB.out hb2)
    clear hb2 HC
    go_wp2_with fail
    go_returns
    exact ⟨rfl, H2.out⟩
  | ok ts =>
    obtain ⟨v, rfl, hown, _, hb2⟩ := hres
    have H2 := Lib.hid (below_then HB.out hb2)
    clear hb2 HC
    obtain ⟨A, cc, rfl, _⟩ := own_cap hown
    rcases ts with _ | ⟨t, _ | ⟨t2, r⟩⟩
    · skip
      clear hown
      go_wp2_with fail
      go_returns
      exact ⟨rfl, H2.out⟩
    · skip
      obtain ⟨b, o, rfl, _, c0, c3⟩ := one_tok (Rd.of_own hown)
      clear hown
      by_cases hk : t.kind = k
      · have q1 : (t.kind == k) = true := by simpa using hk
        by_cases hts : t.s = s
        · have q2 : ((bstr t.s).toList == (bstr s).toList) = true := by rw [beq_bstr]; simpa using hts
          have HA := Lib.hid (show (decide (t.kind = k) && decide (t.s = s)) = true by simp [hk, hts])
          clear hk hts
          go_wp2_with fail
          go_returns
          exact ⟨by show _ = Ending.returned (.bool (decide (t.kind = k) && decide (t.s = s))); rw [HA.out]; rfl, H2.out⟩
        · have q2 : ((bstr t.s).toList == (bstr s).toList) = false := by rw [beq_bstr]; simpa using hts
          have HA := Lib.hid (show (decide (t.kind = k) && decide (t.s = s)) = false by simp [hts])
          clear hk hts
          go_wp2_with fail
          go_returns
          exact ⟨by show _ = Ending.returned (.bool (decide (t.kind = k) && decide (t.s = s))); rw [HA.out]; rfl, H2.out⟩
      · have q1 : (t.kind == k) = false := by simpa using hk
        have HA := Lib.hid (show (decide (t.kind = k) && decide (t.s = s)) = false by simp [hk])
        clear hk
        go_wp2_with fail
        go_returns
        exact ⟨by show _ = Ending.returned (.bool (decide (t.kind = k) && decide (t.s = s))); rw [HA.out]; rfl, H2.out⟩
    · skip
      have q1 : ¬ ((r.length : Int) + 1 + 1 = 1) := by omega
      have q2 : (((t :: t2 :: r).length : Nat) : Int) ≠ 1 := by simp; omega
      clear hown
      go_wp2_with fail
      go_returns
      exact ⟨rfl, H2.out⟩
end Go.Proofs.YtaglmmcjhlehjaaGreatDoor

namespace Go.Proofs.YtaglmmcjhlehjaaGreatDoor
open Go.ChangeShapes Go.WideShapes Go.ChangeAt Go.RowKit Go.Sort
set_option linter.unusedVariables false
set_option linter.unusedSimpArgs false

theorem all_take_snoc {l : List Str} {j : Nat} (f : Str → Bool) (hj : j < l.length) (h : (l.take j).all f = true) : (l.take (j + 1)).all f = f l[j] := by
  rw [List.take_succ_eq_append_getElem hj, List.all_append, h]; simp
theorem all_take_false {l : List Str} {j : Nat} (f : Str → Bool) (h : (l.take j).all f = false) : l.all f = false := by
  rw [← List.take_append_drop j l, List.all_append, h]; rfl

set_option maxRecDepth 100000 in
set_option maxHeartbeats 1000000 in
theorem toks_any (A : Option Addr) (l : List Str) (n c : Nat) (k : Int) (w : World) (hL : Lay w) (hr : Rd w 1 A n (strs l)) (hm : n ≤ 9223372036854775807) (hl : ∀ s ∈ l, s.length ≤ 9223372036854775807) :
    Calls Tryz.prog 105 #[.slice A n c, .int .i64 k] w fun e w' => e = .returned (.bool (l.all fun s => tokB s k)) ∧ Below w.heap.size w w' := by
  have hlen := rd_len hr
  have HR := Lib.hid (And.intro hr (And.intro hL hl))
  have HLEN := Lib.hid hlen
  clear hr hL hl hlen
  obtain ⟨ans, hans⟩ : ∃ ans, (l.all fun s => tokB s k) = ans := ⟨_, rfl⟩
  rw [hans]
  have HA := Lib.hid hans
  clear hans
  go_enter Tryz.func105, Tryz.ntmps105
  go_wp2_with fail
  go_loopw [9] (fun i wr => ∃ j : Nat, i = .int .i64 j ∧ j ≤ n ∧ (l.take j).all (fun s => tokB s k) = true ∧ Below w.heap.size w wr) (fun i _ => n - (intOf i).toNat)
  case atStart => exact ⟨0, rfl, Nat.zero_le _, by simp, Below.refl _ _⟩
  case round =>
    obtain ⟨j, rfl, hj, hall, hb⟩ := hrel
    have HB := Lib.hid (And.intro hall hb)
    clear hall
    by_cases hlt : j < n
    · have hjl : j < l.length := by rw [HLEN.out]; exact hlt
      obtain ⟨b, o, rfl, hcel⟩ := (HR.out.1.below hb).str (k := j) hjl
      have h1 := hcel j hjl
      have hji : (j : Int) < (n : Int) := by omega
      have hj4 : (j : Int) ≤ 9223372036854775806 := by omega
      have HT := Lib.hid (tok_any l[j] k wr (HR.out.2.1.below hb) (HR.out.2.2 _ (List.getElem_mem hjl)))
      have HN := Lib.hid (all_take_snoc (fun s => tokB s k) hjl HB.out.1)
      obtain ⟨x, hx⟩ : ∃ x, l[j] = x := ⟨_, rfl⟩
      rw [hx] at h1 HT HN
      clear hcel hx hjl hb
      go_wp2_with fail
      refine HT.out.mono ?_
      rintro e w2 ⟨rfl, hb2⟩
      have H2 := Lib.hid (below_then HB.out.2 hb2)
      clear hb2 HT h1
      cases ht : tokB x k with
      | true =>
        have HN2 := Lib.hid (HN.out.trans ht)
        clear ht
        go_wp2_with fail
        go_roundw
        case rel => exact ⟨j + 1, by go_num, hlt, HN2.out, H2.out⟩
        case measure => simp [intOf] <;> omega
      | false =>
        have HN2 := Lib.hid (HN.out.trans ht)
        have HF := Lib.hid (HA.out.symm.trans (all_take_false (fun s => tokB s k) HN2.out))
        clear ht
        go_wp2_with fail
        go_returns
        exact ⟨by rw [HF.out]; rfl, H2.out⟩
    · have hji : ¬ (j : Int) < (n : Int) := by omega
      have hall2 : ans = true := by
        have h5 := HB.out.1
        rw [List.take_of_length_le (by rw [HLEN.out]; omega)] at h5
        rw [← HA.out]; exact h5
      have HF := Lib.hid (And.intro hall2 hb)
      clear hall2 hb
      go_wp2_with fail
      go_returns
      exact ⟨by rw [HF.out.1]; rfl, HF.out.2⟩

set_option maxRecDepth 100000 in
set_option maxHeartbeats 1000000 in
theorem labelsMay_any (A : Option Addr) (l : List Str) (n c : Nat) (kd : Int) (w : World) (hL : Lay w) (hr : Rd w 1 A n (strs l)) (hm : n ≤ 9223372036854775807) (hl : ∀ s ∈ l, s.length ≤ 9223372036854775807) :
    Calls Tryz.prog 104 #[.slice A n c, .int .i64 kd] w fun e w' => e = .returned (.bool (labB l kd)) ∧ Below w.heap.size w w' := by
  have hlen := rd_len hr
  subst hlen
  by_cases h30n : ¬ l.length ≤ 30
  · have h30 : ¬ l.length ≤ 30 := h30n
    have HA := Lib.hid (show labB l kd = false by unfold labB; rw [decide_eq_false h30]; rfl)
    have hi : (30 : Int) < (l.length : Int) := by omega
    clear hr hL hl h30 h30n
    go_enter Tryz.func104, Tryz.ntmps104
    go_wp2_with fail
    go_returns
    exact ⟨by rw [HA.out]; rfl, Below.refl _ _⟩
  have h30 : l.length ≤ 30 := by omega
  have hi : ¬ (30 : Int) < (l.length : Int) := by omega
  clear h30n
  have HT := Lib.hid (fun w2 (hb : Below w.heap.size w w2) => toks_any A l l.length c kd w2 (hL.below hb) (hr.below hb) hm hl)
  have HL := Lib.hid h30
  have HR := Lib.hid hr
  clear hL hl hr h30
  go_enter Tryz.func104, Tryz.ntmps104
  go_wp2_with fail
  go_loopw [5] (fun i wr => ∃ k : Nat, i = .int .i64 ((k : Int) + 1) ∧ (k = 0 ∨ k < l.length) ∧ (∀ j (h : j + 1 < l.length), j < k → slt l[j] l[j + 1] = true) ∧ Below w.heap.size w wr) (fun i _ => l.length - (intOf i).toNat)
  case atStart => exact ⟨0, rfl, .inl rfl, by intro j _ h; omega, Below.refl _ _⟩
  case round =>
    obtain ⟨k, rfl, hk, hs, hb⟩ := hrel
    have HS := Lib.hid hs
    have HB := Lib.hid hb
    clear hs
    by_cases hlt : k + 1 < l.length
    · obtain ⟨b, o, hA, hc⟩ := (HR.out.below hb).str (k := k) (by omega)
      have h1 := hc k (by omega)
      have h2 := hc (k + 1) (by omega)
      rw [hA] at HT ⊢
      clear hc hb hA
      have hge := bytesLess_bstr l[k] l[k+1]
      cases hc : slt l[k] l[k + 1]
      · rw [hc] at hge
        have HF := Lib.hid (show labB l kd = false by unfold labB; rw [isB_false hlt hc]; simp)
        obtain ⟨x, hx⟩ : ∃ x, l[k] = x := ⟨_, rfl⟩
        obtain ⟨y, hy⟩ : ∃ y, l[k+1] = y := ⟨_, rfl⟩
        rw [hx] at h1 hge
        rw [hy] at h2 hge
        clear hx hy hc
        go_wp2_with fail
        have i1 : (k : Int) < (l.length : Int) := by omega
        have i2 : (k : Int) + 1 < (l.length : Int) := by omega
        have i3 : (0 : Int) ≤ (k : Int) + 1 := by omega
        have i4 : ((k : Int) + 1).toNat = k + 1 := by omega
        have hwr : IntKind.i64.wrap (k : Int) = (k : Int) := by rw [IntKind.wrap_i64]; omega
        go_quiet (fail)
        clear i1 i2 i3 i4 hwr
        go_wp2_with fail
        go_returns
        exact ⟨by rw [HF.out]; rfl, below_drewN HB.out _⟩
      · rw [hc] at hge
        have HC := Lib.hid hc
        obtain ⟨x, hx⟩ : ∃ x, l[k] = x := ⟨_, rfl⟩
        obtain ⟨y, hy⟩ : ∃ y, l[k+1] = y := ⟨_, rfl⟩
        rw [hx] at h1 hge
        rw [hy] at h2 hge
        clear hx hy hc
        go_wp2_with fail
        have i1 : (k : Int) < (l.length : Int) := by omega
        have i2 : (k : Int) + 1 < (l.length : Int) := by omega
        have i3 : (0 : Int) ≤ (k : Int) + 1 := by omega
        have i4 : ((k : Int) + 1).toNat = k + 1 := by omega
        have hwr : IntKind.i64.wrap (k : Int) = (k : Int) := by rw [IntKind.wrap_i64]; omega
        go_quiet (fail)
        clear i1 i2 i3 i4 hwr h1 h2 hge
        go_wp2_with fail
        go_roundw
        case rel => exact ⟨k + 1, by go_num, .inr (by omega), by intro j hj hjk; rcases Nat.lt_succ_iff_lt_or_eq.1 hjk with h | h; exact HS.out j hj h; subst h; exact HC.out, below_drewN HB.out _⟩
        case measure => simp [intOf] <;> omega
    · have HI := Lib.hid (show isB l = true from (isB_iff l).2 (fun i hi => HS.out i hi (by omega)))
      have hki : ¬ (k : Int) + 1 < (l.length : Int) := by omega
      clear hb
      go_wp2_with fail
      refine (HT.out _ HB.out).mono ?_
      rintro e w2 ⟨rfl, hb2⟩
      have H2 := Lib.hid (below_then HB.out hb2)
      have HF := Lib.hid (show labB l kd = (l.all fun s => tokB s kd) by unfold labB; rw [decide_eq_true HL.out, HI.out]; rfl)
      clear hb2
      go_wp2_with fail
      go_returns
      exact ⟨by rw [HF.out]; rfl, H2.out⟩

theorem str_empty {s : Str} (hs : s ≠ []) : (bstr s).toList.isEmpty = false := by
  rw [bstr_toList]; cases s with
  | nil => exact absurd rfl hs
  | cons a r => rfl
theorem quote_all (s : Str) (w : World) (h : s.length ≤ 9223372036854775807) : Calls Tryz.prog 59 #[.string (bstr s)] w fun e w' => QuoteRes s w e w' := by
  by_cases h2 : 2000 < s.length
  · exact quote_long s w h2 (by unfold maxLen; omega)
  · exact quote_short s w (by omega)

set_option maxRecDepth 100000 in
set_option maxHeartbeats 4000000 in
theorem sMay_any (d : ExD) (b o : Nat) (w : World) (h : d.At w b o) (hL : Lay w) (hs : d.s.length ≤ 9223372036854775807) : Calls Tryz.prog 75 #[.pointer (some ⟨b, o, none⟩)] w fun e w' => e = .returned (.bool d.sB) ∧ Below w.heap.size w w' := by
  have c0 := h.c0
  have c3 := h.c3
  have HT := Lib.hid (fun k => tok_any d.s k w hL hs)
  by_cases k3 : d.kind = 3
  · skip
    have HA := Lib.hid (show d.sB = tokB d.s 1 by unfold ExD.sB; simp [k3])
    have q3 : (d.kind == 3) = true := by rw [k3]; rfl
    clear k3 h
    go_enter Tryz.func75, Tryz.ntmps75
    go_wp2_with fail
    refine (HT.out 1).mono ?_
    rintro e w2 ⟨rfl, hb2⟩
    have H2 := Lib.hid hb2
    clear hb2
    go_wp2_with fail
    go_returns
    exact ⟨by rw [HA.out]; rfl, H2.out⟩
  by_cases k4 : d.kind = 4
  · skip
    have HA := Lib.hid (show d.sB = tokB d.s 1 by unfold ExD.sB; simp [k4])
    have q3 : (d.kind == 3) = false := by rw [k4]; rfl
    have q4 : (d.kind == 4) = true := by rw [k4]; rfl
    clear k3 k4 h
    go_enter Tryz.func75, Tryz.ntmps75
    go_wp2_with fail
    refine (HT.out 1).mono ?_
    rintro e w2 ⟨rfl, hb2⟩
    have H2 := Lib.hid hb2
    clear hb2
    go_wp2_with fail
    go_returns
    exact ⟨by rw [HA.out]; rfl, H2.out⟩
  by_cases k6 : d.kind = 6
  · skip
    have HA := Lib.hid (show d.sB = tokB d.s 1 by unfold ExD.sB; simp [k6])
    have q3 : (d.kind == 3) = false := by rw [k6]; rfl
    have q4 : (d.kind == 4) = false := by rw [k6]; rfl
    have q6 : (d.kind == 6) = true := by rw [k6]; rfl
    clear k3 k4 k6 h
    go_enter Tryz.func75, Tryz.ntmps75
    go_wp2_with fail
    refine (HT.out 1).mono ?_
    rintro e w2 ⟨rfl, hb2⟩
    have H2 := Lib.hid hb2
    clear hb2
    go_wp2_with fail
    go_returns
    exact ⟨by rw [HA.out]; rfl, H2.out⟩
  by_cases k7 : d.kind = 7
  · skip
    have HA := Lib.hid (show d.sB = tokB d.s 1 by unfold ExD.sB; simp [k7])
    have q3 : (d.kind == 3) = false := by rw [k7]; rfl
    have q4 : (d.kind == 4) = false := by rw [k7]; rfl
    have q6 : (d.kind == 6) = false := by rw [k7]; rfl
    have q7 : (d.kind == 7) = true := by rw [k7]; rfl
    clear k3 k4 k6 k7 h
    go_enter Tryz.func75, Tryz.ntmps75
    go_wp2_with fail
    refine (HT.out 1).mono ?_
    rintro e w2 ⟨rfl, hb2⟩
    have H2 := Lib.hid hb2
    clear hb2
    go_wp2_with fail
    go_returns
    exact ⟨by rw [HA.out]; rfl, H2.out⟩
  by_cases k9 : d.kind = 9
  · skip
    have HA := Lib.hid (show d.sB = tokB d.s 1 by unfold ExD.sB; simp [k9])
    have q3 : (d.kind == 3) = false := by rw [k9]; rfl
    have q4 : (d.kind == 4) = false := by rw [k9]; rfl
    have q6 : (d.kind == 6) = false := by rw [k9]; rfl
    have q7 : (d.kind == 7) = false := by rw [k9]; rfl
    have q9 : (d.kind == 9) = true := by rw [k9]; rfl
    clear k3 k4 k6 k7 k9 h
    go_enter Tryz.func75, Tryz.ntmps75
    go_wp2_with fail
    refine (HT.out 1).mono ?_
    rintro e w2 ⟨rfl, hb2⟩
    have H2 := Lib.hid hb2
    clear hb2
    go_wp2_with fail
    go_returns
    exact ⟨by rw [HA.out]; rfl, H2.out⟩
  by_cases k10 : d.kind = 10
  · skip
    have HA := Lib.hid (show d.sB = tokB d.s 1 by unfold ExD.sB; simp [k10])
    have q3 : (d.kind == 3) = false := by rw [k10]; rfl
    have q4 : (d.kind == 4) = false := by rw [k10]; rfl
    have q6 : (d.kind == 6) = false := by rw [k10]; rfl
    have q7 : (d.kind == 7) = false := by rw [k10]; rfl
    have q9 : (d.kind == 9) = false := by rw [k10]; rfl
    have q10 : (d.kind == 10) = true := by rw [k10]; rfl
    clear k3 k4 k6 k7 k9 k10 h
    go_enter Tryz.func75, Tryz.ntmps75
    go_wp2_with fail
    refine (HT.out 1).mono ?_
    rintro e w2 ⟨rfl, hb2⟩
    have H2 := Lib.hid hb2
    clear hb2
    go_wp2_with fail
    go_returns
    exact ⟨by rw [HA.out]; rfl, H2.out⟩
  by_cases k11 : d.kind = 11
  · skip
    have HA := Lib.hid (show d.sB = tokB d.s 1 by unfold ExD.sB; simp [k11])
    have q3 : (d.kind == 3) = false := by rw [k11]; rfl
    have q4 : (d.kind == 4) = false := by rw [k11]; rfl
    have q6 : (d.kind == 6) = false := by rw [k11]; rfl
    have q7 : (d.kind == 7) = false := by rw [k11]; rfl
    have q9 : (d.kind == 9) = false := by rw [k11]; rfl
    have q10 : (d.kind == 10) = false := by rw [k11]; rfl
    have q11 : (d.kind == 11) = true := by rw [k11]; rfl
    clear k3 k4 k6 k7 k9 k10 k11 h
    go_enter Tryz.func75, Tryz.ntmps75
    go_wp2_with fail
    refine (HT.out 1).mono ?_
    rintro e w2 ⟨rfl, hb2⟩
    have H2 := Lib.hid hb2
    clear hb2
    go_wp2_with fail
    go_returns
    exact ⟨by rw [HA.out]; rfl, H2.out⟩
  by_cases k12 : d.kind = 12
  · skip
    have HA := Lib.hid (show d.sB = tokB d.s 1 by unfold ExD.sB; simp [k12])
    have q3 : (d.kind == 3) = false := by rw [k12]; rfl
    have q4 : (d.kind == 4) = false := by rw [k12]; rfl
    have q6 : (d.kind == 6) = false := by rw [k12]; rfl
    have q7 : (d.kind == 7) = false := by rw [k12]; rfl
    have q9 : (d.kind == 9) = false := by rw [k12]; rfl
    have q10 : (d.kind == 10) = false := by rw [k12]; rfl
    have q11 : (d.kind == 11) = false := by rw [k12]; rfl
    have q12 : (d.kind == 12) = true := by rw [k12]; rfl
    clear k3 k4 k6 k7 k9 k10 k11 k12 h
    go_enter Tryz.func75, Tryz.ntmps75
    go_wp2_with fail
    refine (HT.out 1).mono ?_
    rintro e w2 ⟨rfl, hb2⟩
    have H2 := Lib.hid hb2
    clear hb2
    go_wp2_with fail
    go_returns
    exact ⟨by rw [HA.out]; rfl, H2.out⟩
  by_cases k13 : d.kind = 13
  · skip
    have HA := Lib.hid (show d.sB = tokB d.s 3 by unfold ExD.sB; simp [k13])
    have q3 : (d.kind == 3) = false := by rw [k13]; rfl
    have q4 : (d.kind == 4) = false := by rw [k13]; rfl
    have q6 : (d.kind == 6) = false := by rw [k13]; rfl
    have q7 : (d.kind == 7) = false := by rw [k13]; rfl
    have q9 : (d.kind == 9) = false := by rw [k13]; rfl
    have q10 : (d.kind == 10) = false := by rw [k13]; rfl
    have q11 : (d.kind == 11) = false := by rw [k13]; rfl
    have q12 : (d.kind == 12) = false := by rw [k13]; rfl
    have q13 : (d.kind == 13) = true := by rw [k13]; rfl
    clear k3 k4 k6 k7 k9 k10 k11 k12 k13 h
    go_enter Tryz.func75, Tryz.ntmps75
    go_wp2_with fail
    refine (HT.out 3).mono ?_
    rintro e w2 ⟨rfl, hb2⟩
    have H2 := Lib.hid hb2
    clear hb2
    go_wp2_with fail
    go_returns
    exact ⟨by rw [HA.out]; rfl, H2.out⟩
  by_cases k2 : d.kind = 2
  · skip
    have HQ := Lib.hid (quote_all d.s w hs)
    have HA := Lib.hid (show d.sB = (quoteS d.s).isSome by unfold ExD.sB; simp [k2])
    have q3 : (d.kind == 3) = false := by rw [k2]; rfl
    have q4 : (d.kind == 4) = false := by rw [k2]; rfl
    have q6 : (d.kind == 6) = false := by rw [k2]; rfl
    have q7 : (d.kind == 7) = false := by rw [k2]; rfl
    have q9 : (d.kind == 9) = false := by rw [k2]; rfl
    have q10 : (d.kind == 10) = false := by rw [k2]; rfl
    have q11 : (d.kind == 11) = false := by rw [k2]; rfl
    have q12 : (d.kind == 12) = false := by rw [k2]; rfl
    have q13 : (d.kind == 13) = false := by rw [k2]; rfl
    have q2 : (d.kind == 2) = true := by rw [k2]; rfl
    clear k3 k4 k6 k7 k9 k10 k11 k12 k13 k2 h
    obtain ⟨r, hr⟩ : ∃ r, quoteS d.s = r := ⟨_, rfl⟩
    unfold QuoteRes at HQ
    rw [hr] at HQ HA
    clear hr
    go_enter Tryz.func75, Tryz.ntmps75
    cases r with
    | none =>
      go_wp2_with fail
      refine HQ.out.mono ?_
      rintro e w2 ⟨rfl, hb2⟩
      have H2 := Lib.hid hb2
      clear hb2
      go_wp2_with fail
      go_returns
      exact ⟨by rw [HA.out]; rfl, H2.out⟩
    | some q =>
      go_wp2_with fail
      refine HQ.out.mono ?_
      rintro e w2 ⟨rfl, hb2⟩
      have H2 := Lib.hid hb2
      clear hb2
      go_wp2_with fail
      go_returns
      exact ⟨by rw [HA.out]; rfl, H2.out⟩
  by_cases k16 : d.kind = 16
  · skip
    have HA := Lib.hid (show d.sB = opB d.s by unfold ExD.sB; simp [k16])
    have q3 : (d.kind == 3) = false := by rw [k16]; rfl
    have q4 : (d.kind == 4) = false := by rw [k16]; rfl
    have q6 : (d.kind == 6) = false := by rw [k16]; rfl
    have q7 : (d.kind == 7) = false := by rw [k16]; rfl
    have q9 : (d.kind == 9) = false := by rw [k16]; rfl
    have q10 : (d.kind == 10) = false := by rw [k16]; rfl
    have q11 : (d.kind == 11) = false := by rw [k16]; rfl
    have q12 : (d.kind == 12) = false := by rw [k16]; rfl
    have q13 : (d.kind == 13) = false := by rw [k16]; rfl
    have q2 : (d.kind == 2) = false := by rw [k16]; rfl
    have q16 : (d.kind == 16) = true := by rw [k16]; rfl
    clear k3 k4 k6 k7 k9 k10 k11 k12 k13 k2 k16 h
    go_enter Tryz.func75, Tryz.ntmps75
    go_wp2_with fail
    refine (isOperator_any d.s w).mono ?_
    rintro e w2 ⟨rfl, rfl⟩
    go_wp2_with fail
    go_returns
    exact ⟨by rw [HA.out]; rfl, Below.refl _ _⟩
  have HA := Lib.hid (show d.sB = decide (d.s = []) by unfold ExD.sB; simp [k3, k4, k6, k7, k9, k10, k11, k12, k13, k2, k16])
  have q3 : (d.kind == 3) = false := by simpa using k3
  have q4 : (d.kind == 4) = false := by simpa using k4
  have q6 : (d.kind == 6) = false := by simpa using k6
  have q7 : (d.kind == 7) = false := by simpa using k7
  have q9 : (d.kind == 9) = false := by simpa using k9
  have q10 : (d.kind == 10) = false := by simpa using k10
  have q11 : (d.kind == 11) = false := by simpa using k11
  have q12 : (d.kind == 12) = false := by simpa using k12
  have q13 : (d.kind == 13) = false := by simpa using k13
  have q2 : (d.kind == 2) = false := by simpa using k2
  have q16 : (d.kind == 16) = false := by simpa using k16
  clear k3 k4 k6 k7 k9 k10 k11 k12 k13 k2 k16 h
  by_cases he : d.s = []
  · have q0 : (bstr d.s).toList.isEmpty = true := by rw [he, bstr_toList]; rfl
    have HE := Lib.hid (decide_eq_true he)
    clear he
    go_enter Tryz.func75, Tryz.ntmps75
    go_wp2_with fail
    go_returns
    exact ⟨by rw [HA.out, HE.out]; rfl, Below.refl _ _⟩
  · have q0 : (bstr d.s).toList.isEmpty = false := str_empty he
    have HE := Lib.hid (decide_eq_false he)
    clear he
    go_enter Tryz.func75, Tryz.ntmps75
    go_wp2_with fail
    go_returns
    exact ⟨by rw [HA.out, HE.out]; rfl, Below.refl _ _⟩

set_option maxRecDepth 100000 in
set_option maxHeartbeats 1000000 in
theorem tMay_any (d : ExD) (b o : Nat) (w : World) (h : d.At w b o) (hL : Lay w) (hs : d.t.length ≤ 9223372036854775807) : Calls Tryz.prog 76 #[.pointer (some ⟨b, o, none⟩)] w fun e w' => e = .returned (.bool d.tB) ∧ Below w.heap.size w w' := by
  have c0 := h.c0
  have c4 := h.c4
  have HT := Lib.hid (tok_any d.t 1 w hL hs)
  clear h hL hs
  by_cases k7 : d.kind = 7
  · have HA := Lib.hid (show d.tB = tokB d.t 1 by unfold ExD.tB; simp [k7])
    have q7 : (d.kind == 7) = true := by rw [k7]; rfl
    clear k7
    go_enter Tryz.func76, Tryz.ntmps76
    go_wp2_with fail
    refine HT.out.mono ?_
    rintro e w2 ⟨rfl, hb2⟩
    have H2 := Lib.hid hb2
    clear hb2
    go_wp2_with fail
    go_returns
    exact ⟨by rw [HA.out]; rfl, H2.out⟩
  have q7 : (d.kind == 7) = false := by simpa using k7
  by_cases k14 : d.kind = 14
  · have q14 : (d.kind == 14) = true := by rw [k14]; rfl
    by_cases he : d.t = []
    · have HA := Lib.hid (show d.tB = true by unfold ExD.tB; simp [k14, he])
      have q0 : (bstr d.t).toList.isEmpty = true := by rw [he, bstr_toList]; rfl
      clear k7 k14 he HT
      go_enter Tryz.func76, Tryz.ntmps76
      go_wp2_with fail
      go_returns
      exact ⟨by rw [HA.out]; rfl, Below.refl _ _⟩
    · have HA := Lib.hid (show d.tB = tokB d.t 1 by unfold ExD.tB; simp [k14, he])
      have q0 : (bstr d.t).toList.isEmpty = false := str_empty he
      clear k7 k14 he
      go_enter Tryz.func76, Tryz.ntmps76
      go_wp2_with fail
      refine HT.out.mono ?_
      rintro e w2 ⟨rfl, hb2⟩
      have H2 := Lib.hid hb2
      clear hb2
      go_wp2_with fail
      go_returns
      exact ⟨by rw [HA.out]; rfl, H2.out⟩
  have q14 : (d.kind == 14) = false := by simpa using k14
  have HA := Lib.hid (show d.tB = decide (d.t = []) by unfold ExD.tB; simp [k7, k14])
  clear k7 k14 HT
  by_cases he : d.t = []
  · have q0 : (bstr d.t).toList.isEmpty = true := by rw [he, bstr_toList]; rfl
    have HE := Lib.hid (decide_eq_true he)
    clear he
    go_enter Tryz.func76, Tryz.ntmps76
    go_wp2_with fail
    go_returns
    exact ⟨by rw [HA.out, HE.out]; rfl, Below.refl _ _⟩
  · have q0 : (bstr d.t).toList.isEmpty = false := str_empty he
    have HE := Lib.hid (decide_eq_false he)
    clear he
    go_enter Tryz.func76, Tryz.ntmps76
    go_wp2_with fail
    go_returns
    exact ⟨by rw [HA.out, HE.out]; rfl, Below.refl _ _⟩
end Go.Proofs.YtaglmmcjhlehjaaGreatDoor

namespace Go.Proofs.YtaglmmcjhlehjaaGreatDoor
open Go.ChangeShapes Go.WideShapes Go.ChangeAt Go.RowKit

/-- An operation that its guard leaves out, its slot empty already. -/
theorem wpQuiet_skip {P : Program} {ops : Array Oper} {C : World → Prop} {Q : Act → Prop} {a : Act} {o : Oper} {rest : List Oper} (h1 : Region.wanted o (yielded ops a.tmps) = false) (h2 : a.put o.dst undef = a) (h : wpQuiet P ops C Q rest a) : wpQuiet P ops C Q (o :: rest) a := by
  unfold wpQuiet
  rw [if_neg (by rw [h1]; simp), h2]
  exact h
end Go.Proofs.YtaglmmcjhlehjaaGreatDoor

namespace Go.Proofs.YtaglmmcjhlehjaaGreatDoor
open Go.ChangeShapes Go.WideShapes Go.ChangeAt Go.RowKit
set_option linter.unusedVariables false
set_option linter.unusedSimpArgs false

theorem bstr_app (a b : Str) : bstr a ++ bstr b = bstr (a ++ b) := by
  apply ByteArray.ext
  simp [bstr]
theorem bstr_part (s : Str) (i j : Nat) : (bstr s).extract i j = bstr ((s.drop i).take (j - i)) := by
  apply ByteArray.ext
  simp [bstr, List.extract_toArray, List.extract_eq_take_drop]

structure QR (s x : Str) (q : Nat) (acc : Str) : Prop where
  hi : q ≤ s.length
  inv : qbody s = qpre acc (qbody (s.drop q))
  eq : x = [34] ++ acc
  len : x.length ≤ 2 * q + 1
def RefQuoteRes (s : Str) (w : World) (e : Ending) (w' : World) : Prop := ∃ (q : Str) (ok : Bool), e = .returned (.tuple #[.string (bstr q), .bool ok]) ∧ w = w' ∧ quoteS s = (if ok then some q else none)

set_option maxRecDepth 100000 in
set_option maxHeartbeats 2000000 in
theorem refQuote_any (s : Str) (w : World) (h : s.length ≤ 3000000) : Calls Tryz.prog 40 #[.string (bstr s)] w fun e w' => RefQuoteRes s w e w' := by
  have hz : (bstr s).size = s.length := bstr_size s
  have HZ := Lib.hid hz
  have h3 : ((bstr s).size : Int) ≤ 3000000 := by omega
  clear hz
  go_enter Tryz.func40, Tryz.ntmps40
  go_wp2_with fail
  go_loop [4, 5] (fun z i => ∃ (q : Nat) (acc x : Str), i = .int .i64 q ∧ z = .string (bstr x) ∧ QR s x q acc) (fun _ i => s.length - (intOf i).toNat)
  case atStart => exact ⟨0, [], [34], rfl, rfl, ⟨Nat.zero_le _, by simp [qpre], rfl, by simp⟩⟩
  case round =>
    obtain ⟨q, acc, x, rfl, rfl, hqr⟩ := hrel
    have HI := Lib.hid hqr
    have hhi := hqr.hi
    have hsz : (bstr x).size ≤ 7000000 := by have := hqr.len; rw [bstr_size]; omega
    clear hqr
    have z0 : (0 : Int) ≤ (q : Int) := by omega
    by_cases hq : q < s.length
    · have z1 : (q : Int) < ((bstr s).size : Int) := by rw [HZ.out]; omega
      have z2 : (q : Int) + 1 ≤ ((bstr s).size : Int) := by rw [HZ.out]; omega
      have hb : q < (bstr s).size := by rw [HZ.out]; exact hq
      by_cases h10 : s[q].toNat = 10
      · have t10 : ((((bstr s)[q]'hb).toNat : Int) == 10) = true := by rw [str_at s q hb hq, beq_iff_eq]; omega
        have HCH := Lib.hid (qch_10 h10)
        clear h10
        go_wp2_with fail
        go_round
        case rel => exact ⟨q + 1, acc ++ [92, 110], x ++ [92, 110], by go_num, congrArg Value.string (bstr_app x [92, 110]), ⟨by omega, q_step HI.out.inv hq HCH.out, by rw [HI.out.eq, List.append_assoc], by have := HI.out.len; simp; omega⟩⟩
        case measure => simp [intOf] <;> omega
      · have t10 : ((((bstr s)[q]'hb).toNat : Int) == 10) = false := by rw [str_at s q hb hq, beq_eq_false_iff_ne]; omega
        cases hp : plainB s[q] with
        | false =>
          have hqb := q_fail HI.out.inv hq (qch_none h10 hp)
          have hqs : quoteS s = none := by unfold quoteS; rw [hqb]; split <;> rfl
          have HR := Lib.hid hqs
          have hp2 : ¬ (32 ≤ ((bstr s)[q]'hb).toNat ∧ ((bstr s)[q]'hb).toNat ≤ 126) := by rw [str_at s q hb hq]; exact of_decide_eq_false hp
          clear hqb hqs hp h10
          by_cases h32 : (((bstr s)[q]'hb).toNat : Int) < 32
          · go_wp2_with fail
            go_ret2
            exact ⟨[], false, rfl, rfl, HR.out⟩
          · have h126 : (126 : Int) < (((bstr s)[q]'hb).toNat : Int) := by omega
            go_wp2_with fail
            go_ret2
            exact ⟨[], false, rfl, rfl, HR.out⟩
        | true =>
          have hp2 : 32 ≤ ((bstr s)[q]'hb).toNat ∧ ((bstr s)[q]'hb).toNat ≤ 126 := by rw [str_at s q hb hq]; exact of_decide_eq_true hp
          have z3 : ¬ (((bstr s)[q]'hb).toNat : Int) < 32 := by omega
          have z4 : ¬ (126 : Int) < (((bstr s)[q]'hb).toNat : Int) := by omega
          have hpart : (bstr s).extract q (q + 1) = bstr [s[q]] := by
            rw [bstr_part, Nat.add_sub_cancel_left, List.drop_eq_getElem_cons hq]; rfl
          have hsl : (Instr.slice 9 (.string (bstr s)) (some (.int .i64 (q : Int))) (some (.int .i64 ((q : Int) + 1))) none).run Tryz.prog w = .ok (.string (bstr [s[q]])) w := by
            rw [run_slice_string w 9 (bstr s) .i64 .i64 (q : Int) ((q : Int) + 1) Tryz.underlying9 (by omega) (by omega) (by omega), show ((q : Int) + 1).toNat = q + 1 from by omega, show (q : Int).toNat = q from by omega, hpart]
          have hs1 : (bstr [s[q]]).size ≤ 1 := by rw [bstr_size]; simp
          clear hpart
          by_cases h34 : s[q].toNat = 34 ∨ s[q].toNat = 92
          · have HCH := Lib.hid (qch_esc h34)
            rcases h34 with h34 | h92
            · have t34 : ((((bstr s)[q]'hb).toNat : Int) == 34) = true := by rw [str_at s q hb hq, beq_iff_eq]; omega
              clear h34 hp hp2 h10
              go_wp2_with fail
              go_round
              case rel => exact ⟨q + 1, acc ++ [92, s[q]], x ++ [92] ++ [s[q]], by go_num, (by rw [← bstr_app, ← bstr_app]; rfl), ⟨by omega, q_step HI.out.inv hq HCH.out, by rw [HI.out.eq, List.append_assoc, List.append_assoc]; rfl, by have := HI.out.len; simp; omega⟩⟩
              case measure => simp [intOf] <;> omega
            · have t34 : ((((bstr s)[q]'hb).toNat : Int) == 34) = false := by rw [str_at s q hb hq, beq_eq_false_iff_ne]; omega
              have t92 : ((((bstr s)[q]'hb).toNat : Int) == 92) = true := by rw [str_at s q hb hq, beq_iff_eq]; omega
              clear h92 hp hp2 h10
              go_wp2_with fail
              go_round
              case rel => exact ⟨q + 1, acc ++ [92, s[q]], x ++ [92] ++ [s[q]], by go_num, (by rw [← bstr_app, ← bstr_app]; rfl), ⟨by omega, q_step HI.out.inv hq HCH.out, by rw [HI.out.eq, List.append_assoc, List.append_assoc]; rfl, by have := HI.out.len; simp; omega⟩⟩
              case measure => simp [intOf] <;> omega
          · have t34 : ((((bstr s)[q]'hb).toNat : Int) == 34) = false := by rw [str_at s q hb hq, beq_eq_false_iff_ne]; omega
            have t92 : ((((bstr s)[q]'hb).toNat : Int) == 92) = false := by rw [str_at s q hb hq, beq_eq_false_iff_ne]; omega
            have HCH := Lib.hid (qch_plain h10 h34 hp)
            clear h34 hp hp2 h10
            go_wp2_with fail
            go_round
            case rel => exact ⟨q + 1, acc ++ [s[q]], x ++ [s[q]], by go_num, (by rw [← bstr_app]), ⟨by omega, q_step HI.out.inv hq HCH.out, by rw [HI.out.eq, List.append_assoc], by have := HI.out.len; simp; omega⟩⟩
            case measure => simp [intOf] <;> omega
    · have z1 : ¬ (q : Int) < ((bstr s).size : Int) := by rw [HZ.out]; omega
      have hqb := q_done HI.out.inv (by omega)
      have HQB := Lib.hid hqb
      clear hqb
      by_cases hl : s.length ≤ 2000
      · have z5 : ((bstr s).size : Int) ≤ 2000 := by rw [HZ.out]; omega
        go_wp2_with fail
        go_ret2
        refine ⟨x ++ [34], true, ?_, rfl, ?_⟩
        · rw [← bstr_app]; rfl
        · unfold quoteS; rw [if_neg (by omega), HQB.out, HI.out.eq]; rfl
      · have z5 : ¬ ((bstr s).size : Int) ≤ 2000 := by rw [HZ.out]; omega
        go_wp2_with fail
        go_ret2
        refine ⟨x ++ [34], false, ?_, rfl, ?_⟩
        · rw [← bstr_app]; rfl
        · unfold quoteS; rw [if_pos (by omega)]; rfl
end Go.Proofs.YtaglmmcjhlehjaaGreatDoor
