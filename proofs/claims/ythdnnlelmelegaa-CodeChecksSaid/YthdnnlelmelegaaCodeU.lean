/-
  Reading a list: what a round does, whatever the elements are.
-/
import Derived.Test.YthdnnlelmelegaaCodeT
namespace Go.Proofs.Ythdnnlelmelegaa
open Go.ChangeShapes Go.WideShapes Go.ChangeAt Go.RowKit
set_option linter.unusedVariables false

/-- Elements of a list: their cells, what they mean, when they are well, and which blocks they do not touch. -/
structure Elt (β γ : Type) where
  cells : β → List Value
  abs : β → γ
  good : World → β → Prop
  away : (Nat → Prop) → β → Prop
  keep : ∀ {w w' : World} {X : Nat → Prop} {y : β}, good w y → (∀ k, k < w.heap.size → ¬ X k → w'.heap[k]? = w.heap[k]?) → away X y → good w' y
  lt : ∀ {w : World} {y : β}, good w y → away (fun b => w.heap.size ≤ b) y
  mono : ∀ {X Y : Nat → Prop} {y : β}, away X y → (∀ b, Y b → X b) → away Y y

theorem RS.upto {w w' : World} {rb : Nat} {s : List UInt8} {bad : Bool} {A : Option Addr} {c : Nat} (h : RS w rb s bad A c) (hb : Below (rb + 1) w w') : RS w' rb s bad A c := by
  refine ⟨(hb.cell (p := ⟨rb, 0, none⟩) (Nat.lt_succ_self rb)).trans h.c0, (hb.cell (p := ⟨rb, 1, none⟩) (Nat.lt_succ_self rb)).trans h.c1, (hb.frozen (p := ⟨rb, 0, none⟩) (Nat.lt_succ_self rb)).trans h.f0, (hb.frozen (p := ⟨rb, 1, none⟩) (Nat.lt_succ_self rb)).trans h.f1, ?_, h.cap, h.lt⟩
  refine ⟨h.rd.1, fun h0 => ?_⟩
  obtain ⟨a, e, hh⟩ := h.rd.2 h0
  exact ⟨a, e, fun j u hu => (hb.cell (by rw [add_block]; have := h.lt (by rwa [u8s_length] at h0) a e; omega)).trans (hh j u hu)⟩

theorem own_rk {w w' : World} {B rb : Nat} {e : TypeId} {size : Nat} {v : Value} {n : Nat} {xs : List Value} (h : w.ownsRow B e size v n xs) (hk : RK rb w w') (hrb : rb < B) : w'.ownsRow B e size v n xs := by
  refine ⟨h.1, ?_⟩
  rcases h.2 with hn | ⟨g, cap, cur, hv, hb, hg, rest⟩
  · exact .inl hn
  · exact .inr ⟨g, cap, cur, hv, hb, (hk.block g (Array.getElem?_eq_some_iff.1 hg).1 (fun e => by injection e with e; omega) (by simp [Value.ownBlock])).trans hg, rest⟩
theorem ownsRow_mono' {w : World} {B B' : Nat} {e : TypeId} {size : Nat} {v : Value} {n : Nat} {xs : List Value} (h : w.ownsRow B e size v n xs) (hB : B' ≤ B) : w.ownsRow B' e size v n xs := by
  refine ⟨h.1, ?_⟩
  rcases h.2 with hn | ⟨g, cap, cur, hv, hb, rest⟩
  · exact .inl hn
  · exact .inr ⟨g, cap, cur, hv, Nat.le_trans hB hb, rest⟩
section
variable {β γ : Type} (E : Elt β γ) (p : List UInt8 → Option (γ × List UInt8)) (et : TypeId) (size : Nat)

/-- Where the reading of a list stands; T: what it is to come to. -/
def LR (rb n : Nat) (T : Option (List γ × List UInt8)) (N : Nat) (w : World) (z i : Value) (wr : World) : Prop :=
  ∃ (k : Nat) (l : List β) (s' : List UInt8) (bad' : Bool), i = .int .i64 k ∧ k ≤ n ∧ l.length = k ∧ wr.ownsRow w.heap.size et size z k (l.flatMap E.cells) ∧
    (∀ y ∈ l, E.good wr y ∧ E.away (fun b => b < w.heap.size) y ∧ E.away (fun b => z.ownBlock = some b) y) ∧ RSt wr rb s' bad' ∧ (bad' = true → s' = []) ∧ s'.length ≤ N ∧ RK rb w wr ∧
    ((bad' = false ∧ T = (plistN p (n - k) s').map fun x => (l.map E.abs ++ x.1, x.2)) ∨ (bad' = true ∧ T = none))

theorem Step.rest {α : Type} {p : List UInt8 → Option (α × List UInt8)} {s : List UInt8} {rb : Nat} {w' : World} {x : α} (h : Step p s false rb w' x) :
    (∃ r, p s = some (x, r) ∧ RSt w' rb r false) ∨ (p s = none ∧ RSt w' rb [] true) := by
  rcases h with ⟨_, r, h1, h2⟩ | ⟨h1 | h1, h2⟩
  · exact .inl ⟨r, h1, h2⟩
  · cases h1
  · exact .inr ⟨h1, h2⟩

theorem LR.step {rb n N k : Nat} {T : Option (List γ × List UInt8)} {w wr w2 w4 : World} {z z' : Value} {l : List β} {s' : List UInt8} {y : β} {o : Obj} (hrb : rb < w.heap.size) (hkn : k < n) (hlk : l.length = k)
    (hown : wr.ownsRow w.heap.size et size z k (l.flatMap E.cells)) (hgood : ∀ y ∈ l, E.good wr y ∧ E.away (fun b => b < w.heap.size) y ∧ E.away (fun b => z.ownBlock = some b) y)
    (hsl : s'.length ≤ N) (hrk : RK rb w wr) (hT : T = (plistN p (n - k) s').map fun x => (l.map E.abs ++ x.1, x.2)) (hpl : ∀ s x r, p s = some (x, r) → r.length ≤ s.length)
    (hy : E.good w2 y) (hyf : E.away (fun b => b < wr.heap.size) y) (hst : Step p s' false rb w2 (E.abs y)) (hk2 : RK rb wr w2)
    (hown4 : w4.ownsRow w.heap.size et size z' (k + 1) (l.flatMap E.cells ++ E.cells y)) (hg : (w2.alloc o).grownBy w4 z.ownBlock) (ho : z'.ownBlock = z.ownBlock ∨ z'.ownBlock = some (w2.alloc o).heap.size) :
    LR E p et size rb n T N w z' (.int .i64 ((k : Int) + 1)) w4 := by
  have hsz : w2.heap.size ≤ (w2.alloc o).heap.size := by simp
  have hownlt : ∀ g, z.ownBlock = some g → w.heap.size ≤ g ∧ g < wr.heap.size := fun g e => hown.lt g e
  have hal : ∀ k, k < w2.heap.size → (w2.alloc o).heap[k]? = w2.heap[k]? := fun k hk => Below.heap_alloc w2 o k hk
  have h24 : ∀ k, k < w2.heap.size → z.ownBlock ≠ some k → w4.heap[k]? = w2.heap[k]? := fun k hk hne => (hg.block k (by omega) (fun e => hne e.symm)).trans (hal k hk)
  have hb24 : Below (rb + 1) w2 w4 := ⟨hg.os, hg.tape, hg.output, Nat.le_trans hsz hg.size, fun k hk => h24 k (by have := hrk.size; have := hk2.size; omega) (fun e => by have := (hownlt k e).1; omega)⟩
  have hrk4 : RK rb w w4 := by
    have h2 := hrk.trans hk2
    exact ⟨hg.os.trans h2.os, hg.tape.trans h2.tape, hg.output.trans h2.output, Nat.le_trans (Nat.le_trans h2.size hsz) hg.size,
      fun k hk hX hv => (h24 k (by have := h2.size; omega) (fun e => by have := (hownlt k e).1; omega)).trans (h2.block k hk hX hv), .inl rfl⟩
  have hold : ∀ x ∈ l ++ [y], E.good w4 x ∧ E.away (fun b => b < w.heap.size) x ∧ E.away (fun b => z'.ownBlock = some b) x := by
    intro x hx
    have key : E.good w2 x ∧ E.away (fun b => b < w.heap.size) x ∧ E.away (fun b => z.ownBlock = some b) x := by
      rcases List.mem_append.1 hx with hx | hx
      · obtain ⟨g1, g2, g3⟩ := hgood x hx
        exact ⟨E.keep g1 (fun k hk hX => hk2.block k hk (fun e => hX (by injection e)) (by simp [Value.ownBlock])) (E.mono (X := fun b => b < w.heap.size) g2 (fun b (h : b = rb) => by omega)), g2, g3⟩
      · simp at hx; subst hx
        exact ⟨hy, E.mono hyf (fun b hb => by have := hrk.size; omega), E.mono hyf (fun b hb => (hownlt b hb).2)⟩
    obtain ⟨g1, g2, g3⟩ := key
    refine ⟨E.keep g1 (fun k hk hX => h24 k hk hX) g3, g2, ?_⟩
    rcases ho with e | e
    · rw [e]; exact g3
    · rw [e]; exact E.mono (E.lt g1) (fun b hb => by injection hb with hb; omega)
  have hlen : (l ++ [y]).length = k + 1 := by simp [hlk]
  have hfl : (l ++ [y]).flatMap E.cells = l.flatMap E.cells ++ E.cells y := by simp
  obtain ⟨d, hd⟩ : ∃ d, n - k = d + 1 := ⟨n - k - 1, by omega⟩
  have hd2 : n - (k + 1) = d := by omega
  rw [hd] at hT
  rcases hst.rest with ⟨r, hp, hr⟩ | ⟨hp, hr⟩
  · obtain ⟨A, c, hr⟩ := hr
    refine ⟨k + 1, l ++ [y], r, false, by simp, by omega, hlen, by rw [hfl]; exact hown4, hold, ⟨A, c, hr.upto hb24⟩, (fun h => by cases h), by have := hpl _ _ _ hp; omega, hrk4, .inl ⟨rfl, ?_⟩⟩
    rw [hT, hd2, plistN, hp]
    simp only
    cases plistN p d r with
    | none => rfl
    | some x => simp
  · obtain ⟨A, c, hr⟩ := hr
    refine ⟨k + 1, l ++ [y], [], true, by simp, by omega, hlen, by rw [hfl]; exact hown4, hold, ⟨A, c, hr.upto hb24⟩, (fun _ => rfl), Nat.zero_le _, hrk4, .inr ⟨rfl, ?_⟩⟩
    rw [hT, plistN, hp]; rfl

theorem LR.start {rb n : Nat} {s s0 : List UInt8} {b0 bad : Bool} {w w1 : World} (hs0 : RSt w1 rb s0 b0) (hb0 : b0 = true → s0 = []) :
    LR E p et size rb n (if b0 then none else plistN p n s0) s0.length w1 (.slice none 0 0) (.int .i64 0) w1 := by
  refine ⟨0, [], s0, b0, rfl, Nat.zero_le _, rfl, World.ownsRow_nil _ _ _ _, (fun y hy => by cases hy), hs0, hb0, Nat.le_refl _, RK.refl _ _, ?_⟩
  cases b0 with
  | true => exact .inr ⟨rfl, rfl⟩
  | false =>
    refine .inl ⟨rfl, ?_⟩
    simp only [List.map_nil, List.nil_append, Nat.sub_zero]
    cases plistN p n s0 with
    | none => rfl
    | some x => rfl

/-- What a list comes to. -/
def ListRes (rb : Nat) (s : List UInt8) (bad : Bool) (w : World) (e : Ending) (w' : World) : Prop :=
  ∃ (A : Option Addr) (n c : Nat) (l : List β), e = .returned (.slice A n c) ∧ l.length = n ∧ n ≤ s.length ∧ w'.ownsRow w.heap.size et size (.slice A n c) n (l.flatMap E.cells) ∧
    (∀ y ∈ l, E.good w' y ∧ E.away (fun b => b < w.heap.size) y) ∧ Step (plist p) s bad rb w' (l.map E.abs) ∧ RK rb w w'

/-- What is known of the count. -/
structure Cnt (rb n : Nat) (s : List UInt8) (bad : Bool) (s0 : List UInt8) (b0 : Bool) (w w1 : World) : Prop where
  cases : (b0 = false ∧ bad = false ∧ cntP s = some (n, s0)) ∨ (b0 = true ∧ n = 0 ∧ (bad = true ∨ cntP s = none))
  n : n ≤ s0.length
  l : s0.length ≤ s.length
  rk : RK rb w w1

theorem Cnt.plist {p : List UInt8 → Option (γ × List UInt8)} {rb n : Nat} {s s0 : List UInt8} {b0 bad : Bool} {w w1 : World} (h : Cnt rb n s bad s0 b0 w w1) :
    (bad = false ∧ plist p s = if b0 then none else plistN p n s0) ∨ ((bad = true ∨ plist p s = none) ∧ (if b0 then none else plistN p n s0) = none) := by
  rcases h.cases with ⟨h1, h2, h3⟩ | ⟨h1, h2, h3⟩
  · refine .inl ⟨h2, ?_⟩
    unfold Go.Proofs.Ythdnnlelmelegaa.plist
    rw [h3, h1]; rfl
  · refine .inr ⟨?_, by rw [h1]; rfl⟩
    rcases h3 with h3 | h3
    · exact .inl h3
    · refine .inr ?_
      unfold Go.Proofs.Ythdnnlelmelegaa.plist
      rw [h3]

theorem LR.done {rb n : Nat} {s s0 : List UInt8} {b0 bad : Bool} {w w1 wr : World} {A : Option Addr} {m c : Nat} (hc : Cnt rb n s bad s0 b0 w w1) (hrb : rb < w.heap.size)
    (h : LR E p et size rb n (if b0 then none else plistN p n s0) s0.length w1 (.slice A m c) (.int .i64 n) wr) :
    ListRes E p et size rb s bad w (.returned (.slice A m c)) wr := by
  obtain ⟨k, l, s', bad', hi, hkn, hlk, hown, hgood, hst, hbd, hsl, hrk, hT⟩ := h
  have hk : k = n := by injection hi with _ hi; omega
  subst hk
  have hm : m = k := by
    rcases hown.2 with ⟨hv, h0⟩ | ⟨g, cap, cur, hv, _⟩
    · injection hv with _ hv _; omega
    · injection hv
  subst hm
  have hs1 := hc.rk.size
  refine ⟨A, m, c, l, rfl, hlk, by have := hc.n; have := hc.l; omega, ownsRow_mono' hown hs1, fun y hy => ⟨(hgood y hy).1, E.mono (hgood y hy).2.1 (fun b hb => by omega)⟩, ?_, hc.rk.trans hrk⟩
  rcases hc.plist (p := p) with ⟨q1, q2⟩ | ⟨q1, q2⟩
  · rcases hT with ⟨r1, r2⟩ | ⟨r1, r2⟩
    · refine .inl ⟨q1, s', ?_, by rw [r1] at hst; exact hst⟩
      rw [q2, r2, Nat.sub_self, plistN]; simp
    · refine .inr ⟨.inr (by rw [q2]; exact r2), ?_⟩
      rw [hbd r1, r1] at hst; exact hst
  · rcases hT with ⟨r1, r2⟩ | ⟨r1, r2⟩
    · rw [q2, Nat.sub_self, plistN] at r2; cases r2
    · refine .inr ⟨q1, ?_⟩
      rw [hbd r1, r1] at hst; exact hst

/-- The reader has gone amiss: there is nothing. -/
theorem LR.amiss {rb n k : Nat} {s s0 : List UInt8} {b0 bad : Bool} {w w1 wr : World} {l : List β} {T : Option (List γ × List UInt8)} (hc : Cnt rb n s bad s0 b0 w w1) (hTT : T = if b0 then none else plistN p n s0) (hst : RSt wr rb [] true) (hrk : RK rb w1 wr) (hT : T = none) :
    ListRes E p et size rb s bad w (.returned (.slice none 0 0)) wr := by
  refine ⟨none, 0, 0, [], rfl, rfl, Nat.zero_le _, World.ownsRow_nil _ _ _ _, (fun y hy => by cases hy), ?_, hc.rk.trans hrk⟩
  rw [hTT] at hT
  rcases hc.plist (p := p) with ⟨q1, q2⟩ | ⟨q1, q2⟩
  · exact .inr ⟨.inr (by rw [q2]; exact hT), hst⟩
  · exact .inr ⟨q1, hst⟩
end
end Go.Proofs.Ythdnnlelmelegaa
