/-
  How many nodes a type has, and whether it may be, by the document's answer.
-/
import Derived.Test.YtlgmddnpmmggdaaDoorTyE
namespace Go.Proofs.YtlgmddnpmmggdaaDoor
open Go.ChangeShapes Go.WideShapes Go.ChangeAt Go.RowKit Go.Sort
set_option linter.unusedVariables false
set_option linter.unusedSimpArgs false

mutual
def Ty.nodes : Ty → Nat
  | .mk _ l => 1 + nodesL l
def nodesL : List Ty → Nat
  | [] => 0
  | x :: l => x.nodes + nodesL l
end
mutual
def Ty.fine : Ty → Bool
  | .mk d l => d.fieldsB && fineL0 l
def fineL0 : List Ty → Bool
  | [] => true
  | x :: l => x.fine && fineL0 l
end
theorem nodesL_snoc : ∀ (l : List Ty) (x : Ty), nodesL (l ++ [x]) = nodesL l + x.nodes
  | [], x => by simp [nodesL]
  | y :: l, x => by simp only [List.cons_append, nodesL, nodesL_snoc l x]; omega
theorem nodesL_take (l : List Ty) (k : Nat) : nodesL (l.take k) ≤ nodesL l := by
  induction l generalizing k with
  | nil => simp [nodesL]
  | cons y l ih =>
    cases k with
    | zero => simp [nodesL]
    | succ k => simp only [List.take_succ_cons, nodesL]; have := ih k; omega
theorem nodesL_mem : ∀ (l : List Ty) (x : Ty), x ∈ l → x.nodes ≤ nodesL l
  | [], x, h => by cases h
  | y :: l, x, h => by
    simp only [nodesL]
    rcases List.mem_cons.1 h with rfl | h
    · omega
    · have := nodesL_mem l x h; omega
theorem fineL0_snoc : ∀ (l : List Ty) (x : Ty), fineL0 (l ++ [x]) = (fineL0 l && x.fine)
  | [], x => by simp [fineL0]
  | y :: l, x => by simp only [List.cons_append, fineL0, fineL0_snoc l x, Bool.and_assoc]
theorem fineL0_take {l : List Ty} {k : Nat} (h : fineL0 (l.take k) = false) : fineL0 l = false := by
  induction l generalizing k with
  | nil => simp [fineL0] at h
  | cons y l ih =>
    cases k with
    | zero => simp [fineL0] at h
    | succ k =>
      simp only [List.take_succ_cons, fineL0, Bool.and_eq_false_iff] at h ⊢
      rcases h with h | h
      · exact .inl h
      · exact .inr (ih h)
mutual
theorem mayF_nodes : ∀ (t : Ty) (k : Nat), mayF t k = if t.fine = true ∧ k + t.nodes ≤ 4000 then some (k + t.nodes) else none
  | .mk d l, k => by
    unfold mayF Ty.fine Ty.nodes
    by_cases h1 : 4000 < k + 1
    · rw [if_pos h1, if_neg (by rintro ⟨_, h⟩; omega)]
    rw [if_neg h1]
    cases hf : d.fieldsB with
    | false => simp
    | true =>
      rw [if_pos rfl, mayL_nodes l (k + 1) (by omega)]
      simp only [Bool.true_and]
      have e : k + 1 + nodesL l = k + (1 + nodesL l) := by omega
      rw [e]
theorem mayL_nodes : ∀ (l : List Ty) (k : Nat), k ≤ 4000 → mayL l k = if fineL0 l = true ∧ k + nodesL l ≤ 4000 then some (k + nodesL l) else none
  | [], k, hk => by simp [mayL, fineL0, nodesL, hk]
  | x :: l, k, hk => by
    unfold mayL fineL0 nodesL
    rw [mayF_nodes x k]
    by_cases h1 : x.fine = true ∧ k + x.nodes ≤ 4000
    · rw [if_pos h1]
      show mayL l (k + x.nodes) = _
      rw [mayL_nodes l (k + x.nodes) h1.2, h1.1, Bool.true_and, Nat.add_assoc]
    · rw [if_neg h1]
      show (none : Option Nat) = _
      rw [if_neg]
      rintro ⟨h2, h3⟩
      rw [Bool.and_eq_true] at h2
      exact h1 ⟨h2.1, by omega⟩
end
theorem may_spec (t : Ty) : (mayF t 0).isSome = (t.fine && decide (t.nodes ≤ 4000)) := by
  rw [mayF_nodes]
  by_cases h : t.fine = true ∧ 0 + t.nodes ≤ 4000
  · rw [if_pos h, h.1, decide_eq_true (by have := h.2; omega)]; rfl
  · rw [if_neg h]
    cases hf : t.fine with
    | false => rfl
    | true => rw [decide_eq_false (fun h2 => h ⟨hf, by omega⟩)]; rfl

set_option maxRecDepth 100000 in
set_option maxHeartbeats 1000000 in
theorem nodes_any (w0 : World) (t : Ty) (hIn : t.In w0) : t.nodes ≤ 4000000 → ∀ (w : World), Below w0.heap.size w0 w →
    Calls Tryd.prog 24 #[.agg t.d.arr] w fun e w' => e = .returned (.int .i64 (t.nodes : Nat)) ∧ Below w.heap.size w w' := by
  induction hIn with
  | mk d l lab par cap sub ih =>
  intro hsz w hb
  have hlen : l.length = d.pn := by have := par.1; rw [flat_len Ty.cells_len] at this; omega
  have hb1 : Below w.heap.size w (w.alloc (.cells d.arr 25)) := (Below.refl _ _).alloc (Nat.le_refl _) _
  have hAt := box_at w d
  have hsz2 : 1 + nodesL l ≤ 4000000 := hsz
  have HA := Lib.hid (And.intro hAt (And.intro (below_then hb hb1) (And.intro hsz2 (And.intro cap hlen))))
  have HI := Lib.hid (Ty.In.mk d l lab par cap sub)
  have HIH := Lib.hid ih
  have HB1 := Lib.hid hb1
  clear hb1 hAt lab par cap sub ih hb hlen hsz hsz2
  go_enter Tryd.func24, Tryd.ntmps24
  show _
  unfold Ty.d
  go_wp2_with fail
  generalize (w.alloc (.cells d.arr 25)) = w1 at *
  go_loopw [3, 4] (fun v i wr => ∃ (k : Nat), v = .int .i64 ((1 + nodesL (l.take k) : Nat) : Int) ∧ i = .int .i64 k ∧ k ≤ d.pn ∧ Below w1.heap.size w1 wr) (fun _ i _ => d.pn - (intOf i).toNat)
  case atStart => exact ⟨0, rfl, rfl, Nat.zero_le _, Below.refl _ _⟩
  case round =>
    obtain ⟨j, rfl, rfl, hj, hbr⟩ := hrel
    have HR := Lib.hid hbr
    have c2 := (HA.out.1.lower hbr).c2
    clear hbr
    by_cases hlt2 : j < d.pn
    · have hjl : j < l.length := by rw [HA.out.2.2.2.2]; exact hlt2
      obtain ⟨pb, po, hpA, hAtP⟩ := (HI.out.lower HA.out.2.1).part (k := j) hjl
      have hpA' : d.pA = some ⟨pb, po, none⟩ := hpA
      rw [hpA'] at c2
      have hAtM : (l[j]).d.At w1 pb (po + j * 5) := hAtP j hjl
      obtain ⟨x, hx⟩ : ∃ x, l[j] = x := ⟨_, rfl⟩
      rw [hx] at hAtM
      have hxm : x ∈ l := by rw [← hx]; exact List.getElem_mem hjl
      have htk : l.take (j + 1) = l.take j ++ [x] := by rw [List.take_succ_eq_append_getElem hjl, hx]
      have hn1 := nodesL_take l (j + 1)
      rw [htk, nodesL_snoc] at hn1
      obtain ⟨q, hq⟩ : ∃ q, nodesL (l.take j) = q := ⟨_, rfl⟩
      have hxn : x.nodes ≤ 4000000 := by have := HA.out.2.2.1; have := nodesL_mem l x hxm; omega
      have HM := Lib.hid (HIH.out x hxm hxn wr (HA.out.2.1.trans (HR.out.mono HA.out.2.1.size)))
      have hsn : nodesL (l.take (j + 1)) = q + x.nodes := by rw [htk, nodesL_snoc, hq]
      have HS := Lib.hid hsn
      rw [hq] at hn1 ⊢
      have hsm : 1 + (q + x.nodes) ≤ 4000000 := by have := HA.out.2.2.1; omega
      obtain ⟨y, hy⟩ : ∃ y, x.nodes = y := ⟨_, rfl⟩
      rw [hy] at HM hsm HS
      obtain ⟨p0, p1, p2, p3, p4⟩ := hAtM.lower HR.out
      have hji : (j : Int) < (d.pn : Int) := by omega
      have hj4 : (j : Int) ≤ 4000000 := by have := HA.out.2.2.2.1.2.2.2.2.2; omega
      clear hpA hpA' hAtP hAtM hx hxm hjl htk hn1 hsn hxn hq hy
      go_wp2_with fail
      refine HM.out.mono ?_
      rintro e w3 ⟨rfl, hb3⟩
      have H3 := Lib.hid (below_then HR.out hb3)
      clear hb3 HM
      go_wp2_with fail
      go_roundw
      case rel => exact ⟨j + 1, by rw [HS.out]; go_num, by go_num, hlt2, H3.out⟩
      case measure => simp [intOf] <;> omega
    · have hji : ¬ (j : Int) < (d.pn : Int) := by omega
      have hmm : l.take j = l := List.take_of_length_le (by rw [HA.out.2.2.2.2]; omega)
      rw [hmm]
      clear hmm
      go_wp2_with fail
      go_returns
      exact ⟨rfl, below_then HB1.out HR.out⟩
end Go.Proofs.YtlgmddnpmmggdaaDoor
