/-
  Functions' numbers: what they come to; what stays where they are gathered.
-/
import Derived.Test.YtpnihimoekkepaaCoD
namespace Go.Proofs.Ytpnihimoekkepaa
open Go.ChangeShapes Go.WideShapes Go.ChangeAt Go.RowKit Go.Sort
set_option linter.unusedVariables false
set_option linter.unusedSimpArgs false

/-! ### Numbers. About no program -/
/-- How many functions an expression is itself; its fields with a number behind so many. -/
def ExD.f (d : ExD) : Nat := if d.kind = 4 ∨ d.kind = 7 then 1 else 0
def ExD.numD (d : ExD) (m : Nat) : ExD := if d.kind = 4 ∨ d.kind = 7 then { d with n := ((m + 1 : Nat) : Int) } else d
mutual
def Ex.cnt : Ex → Nat
  | .mk d l => d.f + cntL l
def cntL : List Ex → Nat
  | [] => 0
  | x :: l => x.cnt + cntL l
end
mutual
def numE : Ex → Nat → Ex
  | .mk d l, m => .mk (d.numD m) (numL l (m + d.f))
def numL : List Ex → Nat → List Ex
  | [], _ => []
  | x :: l, m => numE x m :: numL l (m + x.cnt)
end
mutual
/-- The functions in an expression, with their numbers, as they are met. -/
def fnsE : Ex → Nat → List Ex
  | .mk d l, m => (if d.kind = 4 ∨ d.kind = 7 then [numE (.mk d l) m] else []) ++ fnsL l (m + d.f)
def fnsL : List Ex → Nat → List Ex
  | [], _ => []
  | x :: l, m => fnsE x m ++ fnsL l (m + x.cnt)
end
theorem cntL_snoc (x : Ex) : ∀ l : List Ex, cntL (l ++ [x]) = cntL l + x.cnt
  | [] => by simp [cntL]
  | y :: l => by simp only [List.cons_append, cntL, cntL_snoc x l]; omega
theorem numL_snoc (x : Ex) : ∀ (l : List Ex) (m : Nat), numL (l ++ [x]) m = numL l m ++ [numE x (m + cntL l)]
  | [], m => by simp [numL, cntL]
  | y :: l, m => by
    simp only [List.cons_append, numL, numL_snoc x l, cntL]
    rw [show m + y.cnt + cntL l = m + (y.cnt + cntL l) from by omega]
theorem fnsL_snoc (x : Ex) : ∀ (l : List Ex) (m : Nat), fnsL (l ++ [x]) m = fnsL l m ++ fnsE x (m + cntL l)
  | [], m => by simp [fnsL, cntL]
  | y :: l, m => by
    simp only [List.cons_append, fnsL, fnsL_snoc x l, cntL, List.append_assoc]
    rw [show m + y.cnt + cntL l = m + (y.cnt + cntL l) from by omega]
theorem numL_len : ∀ (l : List Ex) (m : Nat), (numL l m).length = l.length
  | [], _ => rfl
  | x :: l, m => by simp [numL, numL_len l]
mutual
theorem fnsE_len : ∀ (t : Ex) (m : Nat), (fnsE t m).length = t.cnt
  | .mk d l, m => by
    unfold fnsE Ex.cnt ExD.f
    rw [List.length_append, fnsL_len l]
    split <;> rfl
theorem fnsL_len : ∀ (l : List Ex) (m : Nat), (fnsL l m).length = cntL l
  | [], _ => rfl
  | x :: l, m => by
    unfold fnsL cntL
    rw [List.length_append, fnsE_len x, fnsL_len l]
end
mutual
theorem cnt_nodes : ∀ t : Ex, t.cnt ≤ t.nodes
  | .mk d l => by
    unfold Ex.cnt Ex.nodes ExD.f
    have := cntL_nodes l
    split <;> omega
theorem cntL_nodes : ∀ l : List Ex, cntL l ≤ enodesL l
  | [] => Nat.le_refl _
  | x :: l => by
    unfold cntL enodesL
    have := cnt_nodes x
    have := cntL_nodes l
    omega
end
theorem exL_app : ∀ {a b c d : List Ex}, exL a b → exL c d → exL (a ++ c) (b ++ d)
  | [], [], _, _, _, h => h
  | x :: a, y :: b, c, d, h, k => by simp only [List.cons_append, exL] at h ⊢; exact ⟨h.1, exL_app h.2 k⟩
  | [], _ :: _, _, _, h, _ => by simp [exL] at h
  | _ :: _, [], _, _, h, _ => by simp [exL] at h

/-! ### What stays -/
/-- All blocks but p, and but a row's, are as they were. -/
structure KW (p : Nat) (w : World) (v : Value) (w' : World) (v' : Value) : Prop where
  os : w'.os = w.os
  tape : w'.tape = w.tape
  output : w'.output = w.output
  size : w.heap.size ≤ w'.heap.size
  block : ∀ b, b < w.heap.size → b ≠ p → some b ≠ v.ownBlock → w'.heap[b]? = w.heap[b]?
  at_ : v'.ownBlock = v.ownBlock ∨ ∃ g, v'.ownBlock = some g ∧ w.heap.size ≤ g
theorem KW.refl (p : Nat) (w : World) (v : Value) : KW p w v w v := ⟨rfl, rfl, rfl, Nat.le_refl _, fun _ _ _ _ => rfl, .inl rfl⟩
theorem KW.of_below {p : Nat} {w w' : World} (v : Value) (h : Below w.heap.size w w') : KW p w v w' v := ⟨h.os, h.tape, h.output, h.size, fun b hb _ _ => h.block b hb, .inl rfl⟩
theorem KW.trans {p : Nat} {a b c : World} {v1 v2 v3 : Value} (h : KW p a v1 b v2) (k : KW p b v2 c v3) : KW p a v1 c v3 := by
  refine ⟨k.os.trans h.os, k.tape.trans h.tape, k.output.trans h.output, Nat.le_trans h.size k.size, fun i hi hp hv => ?_, ?_⟩
  · refine (k.block i (Nat.lt_of_lt_of_le hi h.size) hp (fun e => ?_)).trans (h.block i hi hp hv)
    rcases h.at_ with q | ⟨g, q, hg⟩
    · rw [q] at e; exact hv e
    · rw [q] at e; injection e with e; omega
  · rcases k.at_ with q | ⟨g, q, hg⟩
    · rw [q]; exact h.at_
    · exact .inr ⟨g, q, Nat.le_trans h.size hg⟩
theorem KW.below {p M : Nat} {A w w' : World} {v v' : Value} (h : KW p w v w' v') (hb : Below M A w) (hp : M ≤ p) (hpw : p < w.heap.size) (hv : ∀ q, v.ownBlock = some q → M ≤ q) : Below M A w' :=
  ⟨h.os.trans hb.os, h.tape.trans hb.tape, h.output.trans hb.output, Nat.le_trans hb.size h.size, fun i hi => (h.block i (by omega) (by omega) (fun e => by have := hv i e.symm; omega)).trans (hb.block i hi)⟩
/-- Something that lies in blocks that stay. -/
structure YIn (P : Nat → Prop) (w : World) (y : Ex) : Prop where
  inn : y.In w
  bl : y.Bl P
theorem YIn.keep {P : Nat → Prop} {w w' : World} {y : Ex} (h : YIn P w y) (hk : ∀ b, P b → b < w.heap.size → w'.heap[b]? = w.heap[b]?) : YIn P w' y := ⟨h.inn.keepP h.bl hk, h.bl⟩
theorem YIn.imp {P Q : Nat → Prop} {w : World} {y : Ex} (h : YIn P w y) (hq : ∀ b, P b → b < w.heap.size → Q b) : YIn Q w y := ⟨h.inn, h.bl.imp h.inn hq⟩
/-- A function that was met: its cells in a block, its parts in others. -/
structure FnIn (P : Nat → Prop) (w : World) (z : Nat × Ex) : Prop where
  lo : P z.1
  hd : w.heap[z.1]? = some (.cells z.2.d.arr 25)
  y : YIn P w z.2
theorem FnIn.keep {P : Nat → Prop} {w w' : World} {z : Nat × Ex} (h : FnIn P w z) (hk : ∀ b, P b → b < w.heap.size → w'.heap[b]? = w.heap[b]?) : FnIn P w' z :=
  ⟨h.lo, (hk _ h.lo (lt_of_heap h.hd)).trans h.hd, h.y.keep hk⟩
theorem FnIn.imp {P Q : Nat → Prop} {w : World} {z : Nat × Ex} (h : FnIn P w z) (hq : ∀ b, P b → b < w.heap.size → Q b) : FnIn Q w z := ⟨hq _ h.lo (lt_of_heap h.hd), h.hd, h.y.imp hq⟩
theorem FnIn.at_ {P : Nat → Prop} {w : World} {z : Nat × Ex} (h : FnIn P w z) : z.2.d.At w z.1 0 := by
  obtain ⟨c0, c1, c2, c3, c4, c5⟩ := cells6 h.hd
  exact ⟨c0, c1, c2, c3, c4, c5⟩
/-- What a closing holds: in block p a list of places. -/
structure CS (w : World) (p : Nat) (v : Value) (vs : List Value) : Prop where
  c : w.heap[p]? = some (.cells #[v] 49)
  own : w.ownsRow (p + 1) 45 1 v vs.length vs
theorem CS.below {w w' : World} {p : Nat} {v : Value} {vs : List Value} (h : CS w p v vs) (hb : Below w.heap.size w w') : CS w' p v vs := ⟨(hb.block p (lt_of_heap h.c)).trans h.c, own_below h.own hb⟩
theorem own_keep {w w' : World} {base n : Nat} {e : TypeId} {size : Nat} {v : Value} {xs : List Value} (h : w.ownsRow base e size v n xs) (hk : ∀ g, v.ownBlock = some g → g < w.heap.size → w'.heap[g]? = w.heap[g]?) : w'.ownsRow base e size v n xs := by
  refine ⟨h.1, ?_⟩
  rcases h.2 with q | ⟨g, cap, cur, hv, hg, hh, r⟩
  · exact .inl q
  · subst hv
    exact .inr ⟨g, cap, cur, rfl, hg, (hk g rfl (lt_of_heap hh)).trans hh, r⟩
theorem CS.keep {w w' : World} {p : Nat} {v : Value} {vs : List Value} (h : CS w p v vs) (hk : ∀ b, (b = p ∨ v.ownBlock = some b) → b < w.heap.size → w'.heap[b]? = w.heap[b]?) : CS w' p v vs :=
  ⟨(hk p (.inl rfl) (lt_of_heap h.c)).trans h.c, own_keep h.own (fun g hg hl => hk g (.inr hg) hl)⟩
theorem elPtr : ElemTy Try.prog 47 45 (.pointer none) 1 8 :=
  ⟨Try.underlying47, by kernel_rfl, rfl, by omega, by omega⟩
def ptr (z : Nat × Ex) : Value := .pointer (some ⟨z.1, 0, none⟩)
/-- A cell of an own row, written. -/
theorem own_set {w : World} {base n g cap : Nat} {e : TypeId} {size : Nat} {xs : List Value} (h : w.ownsRow base e size (.slice (some ⟨g, 0, none⟩) n cap) n xs) (i : Nat) (hi : i < n * size) (u : Value) :
    (w.setCell ⟨g, i, none⟩ u).ownsRow base e size (.slice (some ⟨g, 0, none⟩) n cap) n (xs.set i u) := by
  refine ⟨by rw [List.length_set]; exact h.1, .inr ?_⟩
  rcases h.2 with ⟨q, _⟩ | ⟨g', cap', cur, hv, hg, hh, h1, h2, h3, h4⟩
  · cases q
  · injection hv with e1 _ e2
    injection e1 with e1
    injection e1 with e1
    subst e1 e2
    refine ⟨g, cap, cur.setIfInBounds i u, rfl, hg, ?_, h1, h2, by simpa using h3, ?_⟩
    · simp [World.setCell, Array.getElem?_modify, hh]
    · rw [Array.toList_setIfInBounds, List.take_set, h4]
end Go.Proofs.Ytpnihimoekkepaa
