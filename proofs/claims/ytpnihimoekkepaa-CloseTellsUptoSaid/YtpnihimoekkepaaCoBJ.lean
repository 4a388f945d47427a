/-
  The document's functions of an expression: what a function takes along. About no program.
-/
import Derived.Test.YtpnihimoekkepaaCoBI
import Derived.Test.YtpnihimoekkepaaCoAC
namespace Go.Proofs.Ytpnihimoekkepaa
open Go.ChangeShapes Go.WideShapes Go.ChangeAt Go.RowKit Go.Sort Go.Maps
set_option linter.unusedVariables false
set_option linter.unusedSimpArgs false

/-- The names that a function takes along, of those that are free in it. -/
def capsF (d : ExD) (ss : List Str) : List Str := ss.filter (fun x => decide (d.kind = 4) || !decide (x = d.s))
theorem capsF_len (d : ExD) (ss : List Str) : (capsF d ss).length ≤ ss.length := List.length_filter_le _ _
theorem capsF_snoc (d : ExD) (ss : List Str) (x : Str) : capsF d (ss ++ [x]) = capsF d ss ++ (if d.kind = 4 ∨ x ≠ d.s then [x] else []) := by
  unfold capsF
  rw [List.filter_append]
  congr 1
  by_cases h : d.kind = 4
  · simp [h]
  · by_cases h2 : x = d.s
    · simp [h, h2]
    · simp [h, h2]
/-- A function by itself, as an expression in which its own name is free. -/
def ownX (d : ExD) (l : List Ex) : Ex :=
  if d.kind = 4 then .mk ⟨4, 0, d.s, [], none, 0, 0, [], d.pA, d.pn, d.pc⟩ l
  else if 1 < d.pn then .mk ⟨4, 0, d.t, [], none, 0, 0, [], d.pA, 1, d.pc⟩ (l.take 1)
  else .mk ⟨4, 0, d.t, [], none, 0, 0, [], d.pA, d.pn, d.pc⟩ l
theorem freeLB_congr {d e : ExD} (h : ∀ i, d.boundF i = e.boundF i) (x : Str) : ∀ (l : List Ex) (i : Nat), freeLB d l i x = freeLB e l i x
  | [], _ => rfl
  | y :: l, i => by simp only [freeLB, h i, freeLB_congr h x l (i + 1)]
theorem bound4 (d : ExD) (h : d.kind = 4) (i : Nat) : d.boundF i = if i = 0 then [d.s] else [] := by
  unfold ExD.boundF
  by_cases h0 : i = 0
  · simp [h, h0]
  · simp [h, h0]
theorem free1 (d : ExD) (h : d.kind = 4) (y : Ex) (x : Str) : (Ex.mk d [y]).freeB x = (y.freeB x && !decide (x = d.s)) := by
  show ((decide (d.kind = 3) && decide (x = d.s)) || ((y.freeB x && !decide (x ∈ d.boundF 0)) || false)) = _
  rw [bound4 d h, h]
  simp
theorem free0 (d : ExD) (h : d.kind = 4) (x : Str) : (Ex.mk d []).freeB x = false := by
  show ((decide (d.kind = 3) && decide (x = d.s)) || false) = _
  rw [h]
  simp
theorem zeroE_free (x : Str) : zeroE.freeB x = false := by
  show ((decide ((0 : Int) = 3) && decide (x = [])) || false) = false
  simp
theorem numD_kind (d : ExD) (m : Nat) : (d.numD m).kind = d.kind ∧ (d.numD m).s = d.s ∧ (d.numD m).t = d.t := by
  unfold ExD.numD
  split <;> exact ⟨rfl, rfl, rfl⟩
theorem partOf_num (d : ExD) (l : List Ex) (m : Nat) (x : Str) : (partOf (numE (.mk d l) m)).freeB x = (partOf (.mk d l)).freeB x := by
  cases l with
  | nil => rfl
  | cons y l =>
    unfold numE numL
    show (numE y (m + d.f)).freeB x = y.freeB x
    rw [numE_free]
theorem ownX_free (d : ExD) (l : List Ex) (hl : l.length = d.pn) (hk : d.kind = 4 ∨ d.kind = 7) (m : Nat) (x : Str) : (x ∈ capsF d [x] ∧ (ownX d l).freeB x = true) ↔ capB (numE (.mk d l) m) x = true := by
  have hd : (numE (.mk d l) m).d = d.numD m := by unfold numE; rfl
  obtain ⟨e1, e2, e3⟩ := numD_kind d m
  unfold capB
  rw [hd, e1]
  by_cases h4 : d.kind = 4
  · rw [if_pos h4, numE_free]
    have h5 : (ownX d l).freeB x = (Ex.mk d l).freeB x := by
      unfold ownX
      rw [if_pos h4]
      show ((decide ((4 : Int) = 3) && decide (x = d.s)) || freeLB _ l 0 x) = ((decide (d.kind = 3) && decide (x = d.s)) || freeLB d l 0 x)
      rw [freeLB_congr (e := d) (fun i => by rw [bound4 _ rfl, bound4 d h4]), h4]
    rw [h5]
    simp [capsF, h4]
  · have h7 : d.kind = 7 := hk.resolve_left h4
    rw [if_neg h4, partOf_num]
    have ho : ownB (d.numD m) x = (decide (x = d.s) || decide (x = d.t)) := by
      unfold ownB
      rw [e2, e3]
    rw [ho]
    have h5 : (ownX d l).freeB x = ((partOf (.mk d l)).freeB x && !decide (x = d.t)) := by
      unfold ownX
      rw [if_neg h4]
      match l, hl with
      | [], hl =>
        have : ¬ 1 < d.pn := by simp at hl; omega
        rw [if_neg this, free0 _ rfl]
        show _ = (zeroE.freeB x && _)
        rw [zeroE_free]
        rfl
      | [y], hl =>
        have : ¬ 1 < d.pn := by simp at hl; omega
        rw [if_neg this, free1 _ rfl]
        rfl
      | y :: z :: l, hl =>
        have : 1 < d.pn := by simp at hl; omega
        rw [if_pos this]
        show (Ex.mk _ [y]).freeB x = _
        rw [free1 _ rfl]
        rfl
    rw [h5]
    have hc : x ∈ capsF d [x] ↔ ¬ x = d.s := by simp [capsF, h4]
    rw [hc]
    cases (partOf (.mk d l)).freeB x <;> by_cases h1 : x = d.s <;> by_cases h2 : x = d.t <;> simp [h1, h2]
theorem capsF_mem (d : ExD) (ss : List Str) (x : Str) : x ∈ capsF d ss ↔ (x ∈ ss ∧ x ∈ capsF d [x]) := by
  unfold capsF
  simp [List.mem_filter]
/-- What is gathered is what is to be in a function. -/
theorem funZ_of {d : ExD} {l : List Ex} (hl : l.length = d.pn) (hk : d.kind = 4 ∨ d.kind = 7) {m : Nat} {ss : List Str} (hs : inOrder ss) (hm : ∀ x, x ∈ ss ↔ (ownX d l).freeB x = true) {fz : Fu} (h1 : fz.s = if d.kind = 4 then [] else d.s) (h2 : fz.t = if d.kind = 4 then d.s else d.t) (h3 : fz.caps = capsF d ss) : FunZ (numE (.mk d l) m) fz := by
  have hd : (numE (.mk d l) m).d = d.numD m := by unfold numE; rfl
  obtain ⟨e1, e2, e3⟩ := numD_kind d m
  intro y hy
  refine ⟨?_, ?_, hy, ?_, fun x => ?_⟩
  · rw [hd, e1, e2]; exact h1
  · rw [hd, e1, e2, e3]; exact h2
  · show inOrder fz.caps
    rw [h3]
    exact inOrder_filter hs _
  · show x ∈ fz.caps ↔ _
    rw [h3, capsF_mem, hm x, ← ownX_free d l hl hk m x]
    exact And.comm
theorem ownX_d (d : ExD) (l : List Ex) : (ownX d l).d.kind = 4 := by unfold ownX; split; rfl; split <;> rfl
theorem flat_take6 : ∀ (l : List Ex) (k : Nat), (l.flatMap Ex.cells).take (k * 6) = (l.take k).flatMap Ex.cells
  | [], k => by simp
  | x :: l, 0 => by simp
  | x :: l, k + 1 => by
    rw [List.flatMap_cons, List.take_succ_cons, List.flatMap_cons, List.take_append, Ex.cells_len, List.take_of_length_le (by rw [Ex.cells_len]; omega), show (k + 1) * 6 - 6 = k * 6 from by omega, flat_take6 l k]
theorem ownX_in {w : World} {d : ExD} {l : List Ex} (h : (Ex.mk d l).In w) : (ownX d l).In w := by
  have hc : (d.nn ≤ d.nc ∧ d.nc ≤ maxLen ∧ d.nn ≤ 4000000) ∧ (d.pn ≤ d.pc ∧ d.pc ≤ maxLen ∧ d.pn ≤ 4000000) ∧ d.s.length ≤ 4000000 ∧ d.t.length ≤ 4000000 ∧ ∀ s ∈ d.names, s.length ≤ 4000000 := h.cap
  have hp : Rd w 6 d.pA d.pn (l.flatMap Ex.cells) := h.par
  have hs : ∀ x ∈ l, x.In w := h.sub
  have hn : Rd w 1 none 0 (strs []) := Rd.nil _ _ _
  have h0 : (0 ≤ 0 ∧ 0 ≤ maxLen ∧ 0 ≤ 4000000) := ⟨Nat.le_refl _, Nat.zero_le _, Nat.zero_le _⟩
  unfold ownX
  split
  · exact .mk _ _ hn hp ⟨h0, hc.2.1, hc.2.2.1, Nat.zero_le _, (fun s hs => by cases hs)⟩ hs
  · split
    · rename_i h1
      have hl : l.length = d.pn := h.len
      refine .mk _ _ hn ?_ ⟨h0, ⟨by have := hc.2.1.1; show 1 ≤ d.pc; omega, hc.2.1.2.1, by show 1 ≤ 4000000; omega⟩, hc.2.2.2.1, Nat.zero_le _, (fun s hs => by cases hs)⟩ (fun x hx => hs x (List.mem_of_mem_take hx))
      have h2 := hp.take_ (m := 1) (by omega)
      rw [flat_take6] at h2
      exact h2
    · exact .mk _ _ hn hp ⟨h0, hc.2.1, hc.2.2.2.1, Nat.zero_le _, (fun s hs => by cases hs)⟩ hs
theorem ownX_nodes (d : ExD) (l : List Ex) : (ownX d l).nodes ≤ (Ex.mk d l).nodes := by
  unfold ownX
  split
  · exact Nat.le_refl _
  · split
    · unfold Ex.nodes; have := enodesL_take l 1; omega
    · exact Nat.le_refl _
end Go.Proofs.Ytpnihimoekkepaa
