/-
  The text of an expression, as the document tells it. About no program.
  How long an expression's text is at most. About no program.
-/
import Derived.Test.YtaglmmcjhlehjaaDoorExM
import Derived.Lib.ItoaLen
import Derived.Test.YtaglmmcjhlehjaaDoorLexQ
namespace Go.Proofs.YtaglmmcjhlehjaaDoor
open Go.RowKit
set_option linter.unusedVariables false
set_option linter.unusedSimpArgs false

def bareB (k : Int) : Bool := decide (k = 1 ∨ k = 2 ∨ k = 3 ∨ k = 8 ∨ k = 10 ∨ k = 12 ∨ k = 22)
/-- A record's fields, up to so many. -/
def fieldsTo (lb : List Str) (T : Nat → Str) : Nat → Str
  | 0 => []
  | k + 1 => fieldsTo lb T k ++ (if k = 0 then [] else [44, 32]) ++ lb.getD k [] ++ [32, 61, 32] ++ T k
/-- A Match's arms, up to so many. -/
def armsTo (lb nm : List Str) (T : Nat → Str) : Nat → Str
  | 0 => []
  | k + 1 => armsTo lb nm T k ++ [32, 124, 32] ++ lb.getD k [] ++ [32] ++ nm.getD k [] ++ [32, 45, 62, 32] ++ T (k + 1)
/-- Parts, with texts between them. -/
def betweenTo (sep : List Str) (T : Nat → Str) : Nat → Str
  | 0 => []
  | k + 1 => betweenTo sep T k ++ (if k = 0 then [] else sep.getD (k - 1) []) ++ T k
def ExD.aheadF (d : ExD) : Str :=
  if d.kind = 13 then d.s ++ [32]
  else if d.kind = 17 then [114, 101, 102, 32]
  else if d.kind = 20 then [112, 114, 105, 110, 116, 32]
  else if d.kind = 21 then [115, 104, 111, 119, 32]
  else if d.kind = 18 then [33]
  else []
def ExD.behindF (d : ExD) (P : Nat → Str) : Str :=
  if d.kind = 9 then [46] ++ d.s
  else if d.kind = 11 then [92] ++ d.s
  else if d.kind = 5 then [32] ++ P 1
  else if d.kind = 16 then [32] ++ d.s ++ [32] ++ P 1
  else if d.kind = 19 then [32, 58, 61, 32] ++ P 1
  else []
def ExD.bracesF (d : ExD) (T P : Nat → Str) : Str :=
  if d.kind = 8 then fieldsTo d.labels T d.ln
  else if d.kind = 10 then d.s ++ [32, 61, 32] ++ T 0 ++ [32, 124, 32] ++ T 1
  else P 1 ++ [32, 119, 105, 116, 104, 32] ++ d.s ++ [32, 61, 32] ++ T 0
def ExD.restF (d : ExD) (T : Nat → Str) : Str := if d.t = [] then [] else [32, 124, 32] ++ d.t ++ [32, 45, 62, 32] ++ T (d.pn - 1)
def ExD.matchF (d : ExD) (T : Nat → Str) : Str :=
  [109, 97, 116, 99, 104, 32] ++ T 0 ++ [32, 119, 105, 116, 104] ++ armsTo d.labels d.names T d.ln ++ d.restF T ++ [32, 101, 110, 100]
def inS : Str := [32, 105, 110, 32]
def ExD.blockF (d : ExD) (T : Nat → Str) : Str :=
  if d.kind = 4 then [102, 110, 32] ++ d.s ++ [32, 45, 62, 32] ++ T 0
  else if d.kind = 6 then [108, 101, 116, 32] ++ d.s ++ [32, 61, 32] ++ betweenTo [inS] T 2
  else if d.kind = 7 then [108, 101, 116, 32, 114, 101, 99, 32] ++ d.s ++ [32] ++ d.t ++ [32, 61, 32] ++ betweenTo [inS] T 2
  else if d.kind = 15 then [105, 102, 32] ++ betweenTo [[32, 116, 104, 101, 110, 32], [32, 101, 108, 115, 101, 32]] T 3
  else d.matchF T
def braceB (k : Int) : Bool := decide (k = 8 ∨ k = 10 ∨ k = 12)
def blockB (k : Int) : Bool := decide (k = 4 ∨ k = 6 ∨ k = 7 ∨ k = 15 ∨ k = 14)
def ExD.shF (d : ExD) (T P : Nat → Str) : Str :=
  if d.kind = 1 then Lib.itoa d.n
  else if d.kind = 2 then (quoteS d.s).getD []
  else if d.kind = 3 then d.s
  else if d.kind = 22 then [114, 101, 97, 100]
  else if braceB d.kind = true then [123] ++ d.bracesF T P ++ [125]
  else if blockB d.kind = true then d.blockF T
  else d.aheadF ++ P 0 ++ d.behindF P
def brk (k : Int) (s : Str) : Str := if bareB k = true then s else [40] ++ s ++ [41]
mutual
def Ex.sh : Ex → Str
  | .mk d l => d.shF (fun i => (shL l).getD i []) (fun i => (paL l).getD i [])
def shL : List Ex → List Str
  | [] => []
  | x :: l => x.sh :: shL l
def paL : List Ex → List Str
  | [] => []
  | .mk d l :: r => brk d.kind (d.shF (fun i => (shL l).getD i []) (fun i => (paL l).getD i [])) :: paL r
end
def Ex.pa (x : Ex) : Str := brk x.d.kind x.sh
theorem shL_map : ∀ l : List Ex, shL l = l.map Ex.sh
  | [] => by simp [shL]
  | x :: l => by simp only [shL, shL_map l, List.map_cons]
theorem paL_map : ∀ l : List Ex, paL l = l.map Ex.pa
  | [] => by simp [paL]
  | .mk d l :: r => by simp only [paL, paL_map r, List.map_cons, Ex.pa, Ex.sh, Ex.d]
abbrev shAt (l : List Ex) (i : Nat) : Str := (l.map Ex.sh).getD i []
abbrev paAt (l : List Ex) (i : Nat) : Str := (l.map Ex.pa).getD i []
theorem sh_mk (d : ExD) (l : List Ex) : (Ex.mk d l).sh = d.shF (shAt l) (paAt l) := by
  simp only [Ex.sh, shL_map, paL_map]
theorem shAt_get {l : List Ex} {i : Nat} (h : i < l.length) : shAt l i = l[i].sh := by simp [shAt, List.getD, h]
theorem paAt_get {l : List Ex} {i : Nat} (h : i < l.length) : paAt l i = l[i].pa := by simp [paAt, List.getD, h]

/-! ### How long it is -/
/-- What an expression's own fields weigh. -/
def ExD.own (d : ExD) : Nat := 40 + 8 * d.labels.length + 8 * d.names.length + 2 * d.s.length + d.t.length + (d.labels.map List.length).sum + (d.names.map List.length).sum
mutual
def Ex.wt : Ex → Nat
  | .mk d l => d.own + wtL l
def wtL : List Ex → Nat
  | [] => 0
  | x :: l => x.wt + wtL l
end
theorem itoa_le (n : Int) (h0 : 0 ≤ n) (h1 : n ≤ 9223372036854775807) : (Lib.itoa n).length ≤ 21 := Lib.itoa_length_le n (by omega) h1

/-- Numbers within their kind's range. -/
inductive Ex.Rg : Ex → Prop
  | mk (d : ExD) (l : List Ex) (hn : d.n ≤ 9223372036854775807) (ha : -9223372036854775808 ≤ d.at_ ∧ d.at_ ≤ 9223372036854775807) (sub : ∀ x ∈ l, Ex.Rg x) : Ex.Rg (.mk d l)
theorem Ex.Rg.n {e : Ex} (h : e.Rg) : e.d.n ≤ 9223372036854775807 := by cases h; assumption
theorem Ex.Rg.sub {e : Ex} (h : e.Rg) : ∀ x ∈ e.l, Ex.Rg x := by cases h; assumption

/-! ### What an expression that may be has -/
theorem fine_own {d : ExD} {l : List Ex} (h : (Ex.mk d l).fineE = true) : d.fieldsB = true := by
  simp only [Ex.fineE, Bool.and_eq_true] at h; exact h.1
theorem fine_sub {d : ExD} {l : List Ex} (h : (Ex.mk d l).fineE = true) : ∀ x ∈ l, x.fineE = true := by
  simp only [Ex.fineE, Bool.and_eq_true] at h
  exact fun x hx => fineEL_mem h.2 hx
structure Fld (d : ExD) : Prop where
  pn : (d.pn : Int) = partsF d.kind d.ln (!decide (d.t = []))
  n0 : d.kind = 1 → 0 ≤ d.n
  s : d.sB = true
  t : d.tB = true
  lists : d.listsB = true
theorem fields_of {d : ExD} (h : d.fieldsB = true) : Fld d := by
  unfold ExD.fieldsB at h
  simp only [Bool.and_eq_true, decide_eq_true_eq, Bool.or_eq_true] at h
  obtain ⟨⟨⟨⟨h1, h2⟩, h3⟩, h4⟩, h5⟩ := h
  exact ⟨h1, fun hk => by rcases h2 with h2 | h2 <;> omega, h3, h4, h5⟩
theorem parts_one {d : ExD} {l : List Ex} (h : Fld d) (hl : l.length = d.pn) (hk : d.kind = 4 ∨ d.kind = 9 ∨ d.kind = 11 ∨ d.kind = 13 ∨ d.kind = 17 ∨ d.kind = 18 ∨ d.kind = 20 ∨ d.kind = 21) : ∃ a, l = [a] ∧ d.pn = 1 := by
  have h1 := h.pn
  have h2 : partsF d.kind d.ln (!decide (d.t = [])) = 1 := by unfold partsF; rw [if_neg (by omega), if_pos (by omega)]
  rw [h2] at h1
  have h3 : d.pn = 1 := by omega
  rw [h3] at hl
  match l, hl with
  | [a], _ => exact ⟨a, rfl, h3⟩
theorem parts_two {d : ExD} {l : List Ex} (h : Fld d) (hl : l.length = d.pn) (hk : d.kind = 5 ∨ d.kind = 6 ∨ d.kind = 7 ∨ d.kind = 10 ∨ d.kind = 12 ∨ d.kind = 16 ∨ d.kind = 19) : ∃ a b, l = [a, b] ∧ d.pn = 2 := by
  have h1 := h.pn
  have h2 : partsF d.kind d.ln (!decide (d.t = [])) = 2 := by unfold partsF; rw [if_neg (by omega), if_neg (by omega), if_pos (by omega)]
  rw [h2] at h1
  have h3 : d.pn = 2 := by omega
  rw [h3] at hl
  match l, hl with
  | [a, b], _ => exact ⟨a, b, rfl, h3⟩
theorem parts_three {d : ExD} {l : List Ex} (h : Fld d) (hl : l.length = d.pn) (hk : d.kind = 15) : ∃ a b c, l = [a, b, c] ∧ d.pn = 3 := by
  have h1 := h.pn
  have h2 : partsF d.kind d.ln (!decide (d.t = [])) = 3 := by unfold partsF; rw [if_neg (by omega), if_neg (by omega), if_neg (by omega), if_pos (by omega)]
  rw [h2] at h1
  have h3 : d.pn = 3 := by omega
  rw [h3] at hl
  match l, hl with
  | [a, b, c], _ => exact ⟨a, b, c, rfl, h3⟩
theorem parts_rec {d : ExD} (h : Fld d) (hk : d.kind = 8) : d.pn = d.ln ∧ d.nn = 0 ∧ d.t = [] ∧ labB d.labels 1 = true := by
  have h1 := h.pn
  have h2 : partsF d.kind d.ln (!decide (d.t = [])) = d.ln := by unfold partsF; rw [if_neg (by omega), if_neg (by omega), if_neg (by omega), if_neg (by omega), if_pos (by omega)]
  have h3 := h.lists
  have h4 := h.t
  unfold ExD.listsB at h3
  unfold ExD.tB at h4
  rw [if_pos hk, Bool.and_eq_true] at h3
  rw [if_neg (by omega), if_neg (by omega)] at h4
  exact ⟨by omega, by simpa using h3.2, by simpa using h4, h3.1⟩
theorem parts_match {d : ExD} (h : Fld d) (hk : d.kind = 14) (hm : d.ln ≤ 1000000) : d.pn = d.ln + 1 + (if d.t = [] then 0 else 1) ∧ d.nn = d.ln ∧ labB d.labels 3 = true := by
  have h1 := h.pn
  have h3 := h.lists
  unfold ExD.listsB at h3
  rw [if_neg (by omega), if_pos hk] at h3
  simp only [Bool.and_eq_true, decide_eq_true_eq] at h3
  refine ⟨?_, h3.1.1.2, h3.1.1.1⟩
  unfold partsF at h1
  rw [if_neg (by omega), if_neg (by omega), if_neg (by omega), if_neg (by omega), if_neg (by omega), if_pos (by omega)] at h1
  by_cases ht : d.t = []
  · rw [ht] at h1
    rw [if_pos ht]
    simp only [decide_true, Bool.not_true, Bool.false_eq_true, if_false] at h1
    unfold wrap64 at h1
    omega
  · rw [if_neg ht]
    simp only [decide_eq_false ht, Bool.not_false, if_true] at h1
    unfold wrap64 at h1
    omega
theorem kinds_of {d : ExD} (h : Fld d) : d.kind = 1 ∨ d.kind = 2 ∨ d.kind = 3 ∨ d.kind = 22 ∨ braceB d.kind = true ∨ blockB d.kind = true ∨ d.kind = 9 ∨ d.kind = 11 ∨ d.kind = 13 ∨ d.kind = 17 ∨ d.kind = 18 ∨ d.kind = 20 ∨ d.kind = 21 ∨ d.kind = 5 ∨ d.kind = 16 ∨ d.kind = 19 := by
  have h1 := h.pn
  unfold partsF at h1
  unfold braceB blockB
  simp only [decide_eq_true_eq]
  by_cases q : d.kind = 1 ∨ d.kind = 2 ∨ d.kind = 3 ∨ d.kind = 22 ∨ (d.kind = 8 ∨ d.kind = 10 ∨ d.kind = 12) ∨ (d.kind = 4 ∨ d.kind = 6 ∨ d.kind = 7 ∨ d.kind = 15 ∨ d.kind = 14) ∨ d.kind = 9 ∨ d.kind = 11 ∨ d.kind = 13 ∨ d.kind = 17 ∨ d.kind = 18 ∨ d.kind = 20 ∨ d.kind = 21 ∨ d.kind = 5 ∨ d.kind = 16 ∨ d.kind = 19
  · exact q
  · rw [if_neg (by omega), if_neg (by omega), if_neg (by omega), if_neg (by omega), if_neg (by omega), if_neg (by omega)] at h1
    omega
theorem labB_len {l : List Str} {k : Int} (h : labB l k = true) : l.length ≤ 30 := by
  unfold labB at h
  simp only [Bool.and_eq_true, decide_eq_true_eq] at h
  exact h.1.1
end Go.Proofs.YtaglmmcjhlehjaaDoor

namespace Go.Proofs.YtaglmmcjhlehjaaDoor
open Go.RowKit
set_option linter.unusedVariables false
set_option linter.unusedSimpArgs false

def sumTo (T : Nat → Str) : Nat → Nat
  | 0 => 0
  | k + 1 => sumTo T k + (T k).length
theorem sumTo_shift (T : Nat → Str) : ∀ n, sumTo T (n + 1) = (T 0).length + sumTo (fun i => T (i + 1)) n
  | 0 => by simp [sumTo]
  | n + 1 => by
    have h := sumTo_shift T n
    rw [show sumTo T (n + 1 + 1) = sumTo T (n + 1) + (T (n + 1)).length from rfl, h]
    simp only [sumTo]
    omega
theorem sumTo_list : ∀ (lb : List Str) (n : Nat), sumTo (fun i => lb.getD i []) n ≤ (lb.map List.length).sum
  | [], n => by
    have : sumTo (fun i => ([] : List Str).getD i []) n = 0 := by
      induction n with
      | zero => rfl
      | succ n ih => simp only [sumTo, ih]; simp
    rw [this]; simp
  | x :: r, 0 => by simp [sumTo]
  | x :: r, n + 1 => by
    rw [sumTo_shift]
    have := sumTo_list r n
    simp only [List.getD_cons_zero, List.getD_cons_succ, List.map_cons, List.sum_cons]
    omega
theorem sumTo_mono (T : Nat → Str) {a b : Nat} (h : a ≤ b) : sumTo T a ≤ sumTo T b := by
  induction h with
  | refl => exact Nat.le_refl _
  | step h ih => simp only [sumTo]; omega
theorem fieldsTo_le (lb : List Str) (T : Nat → Str) : ∀ k, (fieldsTo lb T k).length ≤ sumTo (fun i => lb.getD i []) k + sumTo T k + 5 * k
  | 0 => by simp [fieldsTo]
  | k + 1 => by
    have h := fieldsTo_le lb T k
    simp only [fieldsTo, sumTo, List.length_append]
    split <;> simp only [List.length_cons, List.length_nil] <;> omega
theorem armsTo_le (lb nm : List Str) (T : Nat → Str) : ∀ k, (T 0).length + (armsTo lb nm T k).length ≤ sumTo (fun i => lb.getD i []) k + sumTo (fun i => nm.getD i []) k + sumTo T (k + 1) + 8 * k
  | 0 => by simp [armsTo, sumTo]
  | k + 1 => by
    have h := armsTo_le lb nm T k
    rw [show sumTo T (k + 1 + 1) = sumTo T (k + 1) + (T (k + 1)).length from rfl]
    simp only [armsTo, List.length_append]
    simp only [show sumTo (fun i => lb.getD i []) (k + 1) = sumTo (fun i => lb.getD i []) k + (lb.getD k []).length from rfl, show sumTo (fun i => nm.getD i []) (k + 1) = sumTo (fun i => nm.getD i []) k + (nm.getD k []).length from rfl]
    simp only [List.length_cons, List.length_nil]
    omega
theorem quote_le (s : Str) : ((quoteS s).getD []).length ≤ 2 * s.length + 2 := by
  unfold quoteS
  split
  · simp
  · cases h : qbody s with
    | none => simp
    | some q => have := qbody_len s q h; simp; omega
theorem wtL_ge : ∀ (l : List Ex), (∀ x ∈ l, x.sh.length + 2 ≤ x.wt) → ((l.map Ex.sh).map List.length).sum + 2 * l.length ≤ wtL l
  | [], _ => by simp [wtL]
  | x :: r, h => by
    have h1 := h x (by simp)
    have h2 := wtL_ge r (fun y hy => h y (by simp [hy]))
    simp only [List.map_cons, List.sum_cons, List.length_cons, wtL]
    omega
theorem sumTo_sh (l : List Ex) (h : ∀ x ∈ l, x.sh.length + 2 ≤ x.wt) (n : Nat) : sumTo (shAt l) n + 2 * l.length ≤ wtL l := by
  have h1 := sumTo_list (l.map Ex.sh) n
  have h2 := wtL_ge l h
  have h3 : sumTo (shAt l) n = sumTo (fun i => (l.map Ex.sh).getD i []) n := rfl
  omega
theorem pa_le (x : Ex) : x.pa.length ≤ x.sh.length + 2 := by
  unfold Ex.pa brk
  split <;> simp
theorem own_ge (d : ExD) : 40 + 2 * d.s.length + d.t.length + 8 * d.labels.length + 8 * d.names.length + (d.labels.map List.length).sum + (d.names.map List.length).sum ≤ d.own := by
  unfold ExD.own; omega
theorem wt_one (d : ExD) (a : Ex) : (Ex.mk d [a]).wt = d.own + a.wt := by simp [Ex.wt, wtL]
theorem wt_two (d : ExD) (a b : Ex) : (Ex.mk d [a, b]).wt = d.own + a.wt + b.wt := by simp [Ex.wt, wtL]; omega
theorem wt_three (d : ExD) (a b c : Ex) : (Ex.mk d [a, b, c]).wt = d.own + a.wt + b.wt + c.wt := by simp [Ex.wt, wtL]; omega
theorem sh_le (w : World) : ∀ (e : Ex), e.In w → e.fineE = true → e.Rg → e.sh.length + 2 ≤ e.wt
  | .mk d l, hI, hf, hr => by
    have hF := fields_of (fine_own hf)
    have ih : ∀ x ∈ l, x.sh.length + 2 ≤ x.wt := fun x hx => sh_le w x (hI.sub x hx) (fine_sub hf x hx) (hr.sub x hx)
    have hlen : l.length = d.pn := hI.len
    have hll : d.labels.length = d.ln := hI.labLen
    have hnl : d.names.length = d.nn := hI.namLen
    have ho := own_ge d
    have hwt : (Ex.mk d l).wt = d.own + wtL l := rfl
    rw [sh_mk, hwt]
    have hS := sumTo_sh l ih
    have p1 : ∀ {a : Ex}, a ∈ l → a.pa.length ≤ a.wt := fun h => by have := pa_le ‹Ex›; have := ih _ h; omega
    rcases kinds_of hF with k | k | k | k | k | k | k
    · unfold ExD.shF; rw [if_pos k]
      have := itoa_le d.n (hF.n0 k) hr.n
      omega
    · unfold ExD.shF; rw [if_neg (by omega), if_pos k]
      have := quote_le d.s
      omega
    · unfold ExD.shF; rw [if_neg (by omega), if_neg (by omega), if_pos k]; omega
    · unfold ExD.shF; rw [if_neg (by omega), if_neg (by omega), if_neg (by omega), if_pos k]; simp; omega
    · have hb := k
      unfold braceB at k
      have k := of_decide_eq_true k
      unfold ExD.shF
      rw [if_neg (by omega), if_neg (by omega), if_neg (by omega), if_neg (by omega), if_pos hb]
      unfold ExD.bracesF
      rcases k with k | k | k
      · rw [if_pos k]
        have h1 := fieldsTo_le d.labels (shAt l) d.ln
        have h2 := sumTo_list d.labels d.ln
        have h3 := hS d.ln
        have h4 := (parts_rec hF k).1
        simp only [List.length_append, List.length_cons, List.length_nil]
        omega
      · obtain ⟨a, b, rfl, _⟩ := parts_two hF hlen (by omega)
        rw [if_neg (by omega), if_pos k]
        have h1 := ih a (by simp)
        have h2 := ih b (by simp)
        simp [shAt, wtL]
        omega
      · obtain ⟨a, b, rfl, _⟩ := parts_two hF hlen (by omega)
        rw [if_neg (by omega), if_neg (by omega)]
        have h1 := ih a (by simp)
        have h2 := ih b (by simp)
        have h3 := pa_le b
        simp [shAt, paAt, wtL]
        omega
    · have hb := k
      unfold blockB at k
      have k := of_decide_eq_true k
      have nb : ¬ braceB d.kind = true := by unfold braceB; rw [decide_eq_true_eq]; omega
      unfold ExD.shF
      rw [if_neg (by omega), if_neg (by omega), if_neg (by omega), if_neg (by omega), if_neg nb, if_pos hb]
      unfold ExD.blockF
      rcases k with k | k | k | k | k
      · obtain ⟨a, rfl, _⟩ := parts_one hF hlen (by omega)
        rw [if_pos k]
        have h1 := ih a (by simp)
        simp [shAt, wtL]
        omega
      · obtain ⟨a, b, rfl, _⟩ := parts_two hF hlen (by omega)
        rw [if_neg (by omega), if_pos k]
        have h1 := ih a (by simp)
        have h2 := ih b (by simp)
        simp [shAt, wtL, betweenTo, inS]
        omega
      · obtain ⟨a, b, rfl, _⟩ := parts_two hF hlen (by omega)
        rw [if_neg (by omega), if_neg (by omega), if_pos k]
        have h1 := ih a (by simp)
        have h2 := ih b (by simp)
        simp [shAt, wtL, betweenTo, inS]
        omega
      · obtain ⟨a, b, c, rfl, _⟩ := parts_three hF hlen (by omega)
        rw [if_neg (by omega), if_neg (by omega), if_neg (by omega), if_pos k]
        have h1 := ih a (by simp)
        have h2 := ih b (by simp)
        have h3 := ih c (by simp)
        simp [shAt, wtL, betweenTo, inS]
        omega
      · rw [if_neg (by omega), if_neg (by omega), if_neg (by omega), if_neg (by omega)]
        have h30 : d.ln ≤ 30 := by
          have h3 := hF.lists
          unfold ExD.listsB at h3
          rw [if_neg (by omega), if_pos k] at h3
          simp only [Bool.and_eq_true, decide_eq_true_eq] at h3
          have := labB_len h3.1.1.1
          omega
        obtain ⟨h4, h5, h6⟩ := parts_match hF k (by omega)
        have h1 := armsTo_le d.labels d.names (shAt l) d.ln
        have h2 := sumTo_list d.labels d.ln
        have h3 := sumTo_list d.names d.ln
        have h7 := hS (d.ln + 1)
        have h8 := hS (d.ln + 1 + 1)
        rw [show sumTo (shAt l) (d.ln + 1 + 1) = sumTo (shAt l) (d.ln + 1) + (shAt l (d.ln + 1)).length from rfl] at h8
        unfold ExD.matchF ExD.restF
        by_cases ht : d.t = []
        · rw [if_pos ht]
          simp only [List.length_append, List.length_cons, List.length_nil]
          omega
        · rw [if_neg ht]
          rw [if_neg ht] at h4
          rw [show d.pn - 1 = d.ln + 1 from by omega]
          simp only [List.length_append, List.length_cons, List.length_nil]
          omega
    · have nb : ¬ braceB d.kind = true := by unfold braceB; rw [decide_eq_true_eq]; omega
      have nk : ¬ blockB d.kind = true := by unfold blockB; rw [decide_eq_true_eq]; omega
      unfold ExD.shF
      rw [if_neg (by omega), if_neg (by omega), if_neg (by omega), if_neg (by omega), if_neg nb, if_neg nk]
      have ha : d.aheadF.length ≤ d.s.length + 6 := by
        unfold ExD.aheadF
        repeat' split
        all_goals simp
      by_cases k2 : d.kind = 5 ∨ d.kind = 16 ∨ d.kind = 19
      · obtain ⟨a, b, rfl, _⟩ := parts_two hF hlen (by omega)
        have h1 := p1 (a := a) (by simp)
        have h2 := p1 (a := b) (by simp)
        have hbh : (d.behindF (paAt [a, b])).length ≤ d.s.length + 4 + b.pa.length := by
          unfold ExD.behindF
          repeat' split
          all_goals (simp [paAt]; try omega)
        simp only [List.length_append]
        have e0 : paAt [a, b] 0 = a.pa := rfl
        rw [e0]
        simp only [wtL]
        omega
      · obtain ⟨a, rfl, _⟩ := parts_one hF hlen (by omega)
        have h1 := p1 (a := a) (by simp)
        have hbh : (d.behindF (paAt [a])).length ≤ d.s.length + 4 := by
          unfold ExD.behindF
          rw [if_neg (show ¬ d.kind = 5 by omega), if_neg (show ¬ d.kind = 16 by omega), if_neg (show ¬ d.kind = 19 by omega)]
          repeat' split
          all_goals (simp [paAt]; try omega)
        simp only [List.length_append]
        have e0 : paAt [a] 0 = a.pa := rfl
        rw [e0]
        simp only [wtL]
        omega
end Go.Proofs.YtaglmmcjhlehjaaDoor
