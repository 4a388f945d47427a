/-
  Numbers given to an expression's functions, by the code: a part more, in whatever order it comes.
-/
import Derived.Test.YtpnihimoekkepaaCoN
namespace Go.Proofs.Ytpnihimoekkepaa
open Go.ChangeShapes Go.WideShapes Go.ChangeAt Go.RowKit Go.Sort
set_option linter.unusedVariables false
set_option linter.unusedSimpArgs false

abbrev HDN (d : ExD) (A : Option Addr) (c : Nat) (h : Value) : Array Value := #[.int .i64 d.kind, .int .i64 d.n, .string (bstr d.s), .string (bstr d.t), .slice A d.nn c, h]
def PQ (wr : World) (r v : Value) (b : Nat) : Prop := wr.heap.size ≤ b ∧ some b ≠ r.ownBlock ∧ some b ≠ v.ownBlock
/-- Where the told cells, the closing and the rows lie. -/
structure Fx (g p : Nat) (rv v : Value) (wr : World) : Prop where
  gl : g < wr.heap.size
  pg : p < g
  rg : ∀ q, rv.ownBlock = some q → g + 1 ≤ q ∧ q < wr.heap.size
  vp : ∀ q, v.ownBlock = some q → p + 1 ≤ q ∧ q < wr.heap.size ∧ q ≠ g
/-- How far a part more has come: the row r of n parts with cells cs, h in the told cells, v' and vs' in the closing, what has come of the call. -/
structure Sx (g p : Nat) (d : ExD) (A : Option Addr) (c : Nat) (rv v : Value) (wr : World) (r : Value) (n : Nat) (cl : List Value) (h v' : Value) (vs' : List Value) (ys : List Ex) (zs : List (Nat × Ex)) (V : World) : Prop where
  own : V.ownsRow (g + 1) 25 6 r n cl
  hd : V.heap[g]? = some (.cells (HDN d A c h) 25)
  cs : CS V p v' vs'
  yin : ∀ y ∈ ys, YIn (PQ wr r v') V y
  zin : ∀ z ∈ zs, FnIn (PQ wr r v') V z
  os : V.os = wr.os
  tape : V.tape = wr.tape
  output : V.output = wr.output
  size : wr.heap.size ≤ V.heap.size
  kept : ∀ b, b < wr.heap.size → b ≠ p → b ≠ g → some b ≠ rv.ownBlock → some b ≠ v.ownBlock → V.heap[b]? = wr.heap[b]?
  ra : r.ownBlock = rv.ownBlock ∨ ∃ q, r.ownBlock = some q ∧ wr.heap.size ≤ q
  va : v'.ownBlock = v.ownBlock ∨ ∃ q, v'.ownBlock = some q ∧ wr.heap.size ≤ q
  sep : ∀ q, r.ownBlock = some q → v'.ownBlock ≠ some q
section
variable {g p : Nat} {d : ExD} {A : Option Addr} {c : Nat} {rv v : Value} {wr : World} {r : Value} {n : Nat} {cl : List Value} {h v' : Value} {vs' : List Value} {ys : List Ex} {zs : List (Nat × Ex)} {V V' : World}
theorem Sx.below (s : Sx g p d A c rv v wr r n cl h v' vs' ys zs V) (hb : Below V.heap.size V V') : Sx g p d A c rv v wr r n cl h v' vs' ys zs V' :=
  ⟨own_below s.own hb, (hb.block g (lt_of_heap s.hd)).trans s.hd, s.cs.below hb, fun y hy => (s.yin y hy).keep (fun b _ hl => hb.block b hl), fun z hz => (s.zin z hz).keep (fun b _ hl => hb.block b hl), hb.os.trans s.os, hb.tape.trans s.tape, hb.output.trans s.output, Nat.le_trans s.size hb.size,
    fun b h1 h2 h3 h4 h5 => (hb.block b (Nat.lt_of_lt_of_le h1 s.size)).trans (s.kept b h1 h2 h3 h4 h5), s.ra, s.va, s.sep⟩
theorem Sx.rlt (s : Sx g p d A c rv v wr r n cl h v' vs' ys zs V) (q : Nat) (hq : r.ownBlock = some q) : g + 1 ≤ q ∧ q < V.heap.size := s.own.lt q hq
theorem Sx.vlt (s : Sx g p d A c rv v wr r n cl h v' vs' ys zs V) (q : Nat) (hq : v'.ownBlock = some q) : p + 1 ≤ q ∧ q < V.heap.size := s.cs.own.lt q hq
theorem Sx.vg (fx : Fx g p rv v wr) (s : Sx g p d A c rv v wr r n cl h v' vs' ys zs V) : v'.ownBlock ≠ some g := by
  intro e
  rcases s.va with q | ⟨q, hq, hl⟩
  · rw [q] at e; exact (fx.vp g e).2.2 rfl
  · rw [hq] at e; injection e with e; have := fx.gl; omega
/-- A cell more in the row. -/
theorem Sx.app (fx : Fx g p rv v wr) (s : Sx g p d A c rv v wr r n cl h v' vs' ys zs V) {v6 : Value} {w6 : World} {news : List Value} {n6 : Nat} (hown : w6.ownsRow (g + 1) 25 6 v6 n6 (cl ++ news)) (hgr : V.grownBy w6 r.ownBlock) (hat : v6.ownBlock = r.ownBlock ∨ v6.ownBlock = some V.heap.size) :
    Sx g p d A c rv v wr v6 n6 (cl ++ news) h v' vs' ys zs w6 := by
  have hr := s.rlt
  have hv := s.vlt
  have hno : ∀ b, b < V.heap.size → some b ≠ r.ownBlock → some b ≠ v6.ownBlock := fun b h1 h2 => by
    rcases hat with q | q
    · rw [q]; exact h2
    · rw [q]; intro e; injection e with e; omega
  have hpq : ∀ b, PQ wr r v' b → b < V.heap.size → PQ wr v6 v' b := fun b hb hl => ⟨hb.1, hno b hl hb.2.1, hb.2.2⟩
  have hpr : ∀ b, PQ wr r v' b → b < V.heap.size → PQ wr v6 v' b ∧ some b ≠ r.ownBlock := fun b hb hl => ⟨hpq b hb hl, hb.2.1⟩
  refine ⟨hown, (hgr.block g (lt_of_heap s.hd) (fun e => by have := hr g e.symm; omega)).trans s.hd, s.cs.keep (fun b hb hl => hgr.block b hl (fun e => ?_)), fun y hy => ((((s.yin y hy).imp hpr).keep (fun b hb hl => hgr.block b hl hb.2)).imp (fun b hb _ => hb.1)), fun z hz => ((((s.zin z hz).imp hpr).keep (fun b hb hl => hgr.block b hl hb.2)).imp (fun b hb _ => hb.1)), hgr.os.trans s.os, hgr.tape.trans s.tape, hgr.output.trans s.output, Nat.le_trans s.size hgr.size, fun b h1 h2 h3 h4 h5 => (hgr.block b (Nat.lt_of_lt_of_le h1 s.size) (fun e => ?_)).trans (s.kept b h1 h2 h3 h4 h5), ?_, s.va, fun q hq => ?_⟩
  · rcases hb with rfl | hb
    · have := (hr b e.symm).1; have := fx.pg; omega
    · exact s.sep b e.symm hb
  · rcases s.ra with q | ⟨q, hq, hl⟩
    · rw [q] at e; exact h4 e
    · rw [hq] at e; injection e with e; omega
  · rcases hat with q | q
    · rw [q]; exact s.ra
    · exact .inr ⟨_, q, s.size⟩
  · rcases hat with e | e
    · rw [e] at hq; exact s.sep q hq
    · rw [e] at hq; injection hq with hq; intro e2; have := (hv q e2).2; omega
/-- The call's answer. -/
theorem Sx.call (fx : Fx g p rv v wr) {vs : List Value} (s : Sx g p d A c rv v wr r n cl h v vs [] [] V) {v1 : Value} {vs1 : List Value} {y : Ex} {zs1 : List (Nat × Ex)} {w1 : World} (kw : KW p V v w1 v1) (cs : CS w1 p v1 vs1) (hy : YIn (fun b => V.heap.size ≤ b ∧ some b ≠ v1.ownBlock) w1 y) (hz : ∀ z ∈ zs1, FnIn (fun b => V.heap.size ≤ b ∧ some b ≠ v1.ownBlock) w1 z) :
    Sx g p d A c rv v wr r n cl h v1 vs1 [y] zs1 w1 := by
  have hr := s.rlt
  have hpg := fx.pg
  have hgl := lt_of_heap s.hd
  have hsz := s.size
  have hpq : ∀ b, (V.heap.size ≤ b ∧ some b ≠ v1.ownBlock) → b < w1.heap.size → PQ wr r v1 b := fun b hb _ => ⟨by omega, fun e => by have := (hr b e.symm).2; omega, hb.2⟩
  refine ⟨own_keep s.own (fun q hq hl => kw.block q hl (by have := (hr q hq).1; omega) (fun e => s.sep q hq e.symm)), (kw.block g hgl (by omega) (fun e => s.vg fx e.symm)).trans s.hd, cs, fun x hx => ?_, fun z hz' => (hz z hz').imp hpq, kw.os.trans s.os, kw.tape.trans s.tape, kw.output.trans s.output, Nat.le_trans s.size kw.size, fun b h1 h2 h3 h4 h5 => (kw.block b (by omega) h2 h5).trans (s.kept b h1 h2 h3 h4 h5), s.ra, ?_, fun q hq e => ?_⟩
  · rw [List.mem_singleton] at hx
    subst hx
    exact hy.imp hpq
  · rcases kw.at_ with q | ⟨q, hq, hl⟩
    · exact .inl q
    · exact .inr ⟨q, hq, by omega⟩
  · rcases kw.at_ with k | ⟨k, hk, hl⟩
    · rw [k] at e; exact s.sep q hq e
    · rw [hk] at e; injection e with e; have := (hr q hq).2; omega
/-- A cell of the row is written. -/
theorem Sx.store (fx : Fx g p rv v wr) {q cap : Nat} (s : Sx g p d A c rv v wr (.slice (some ⟨q, 0, none⟩) n cap) n cl h v' vs' ys zs V) (i : Nat) (hi : i < n * 6) (u : Value) :
    Sx g p d A c rv v wr (.slice (some ⟨q, 0, none⟩) n cap) n (cl.set i u) h v' vs' ys zs (V.setCell ⟨q, i, none⟩ u) := by
  have hr := s.rlt q rfl
  have hpg := fx.pg
  have hk : ∀ b, b ≠ q → (V.setCell ⟨q, i, none⟩ u).heap[b]? = V.heap[b]? := fun b hb => Below.heap_setCell V ⟨q, i, none⟩ u b hb
  refine ⟨own_set s.own i hi u, (hk g (by omega)).trans s.hd, s.cs.keep (fun b hb hl => hk b (fun e => ?_)), fun y hy => (s.yin y hy).keep (fun b hb hl => hk b (fun e => hb.2.1 (by rw [e]; rfl))), fun z hz => (s.zin z hz).keep (fun b hb hl => hk b (fun e => hb.2.1 (by rw [e]; rfl))), s.os, s.tape, s.output, by rw [World.size_setCell]; exact s.size, fun b h1 h2 h3 h4 h5 => (hk b (fun e => ?_)).trans (s.kept b h1 h2 h3 h4 h5), s.ra, s.va, s.sep⟩
  · rcases hb with rfl | hb
    · omega
    · rw [e] at hb; exact s.sep q rfl hb
  · rcases s.ra with k | ⟨k, hk', hl⟩
    · exact h4 (by rw [← k, e]; rfl)
    · injection hk' with hk'; simp only at hk'; omega
/-- The told cells are given the row. -/
theorem Sx.tell (fx : Fx g p rv v wr) (s : Sx g p d A c rv v wr r n cl h v' vs' ys zs V) (u : Value) : Sx g p d A c rv v wr r n cl u v' vs' ys zs (V.setCell ⟨g, 5, none⟩ u) := by
  have hpg := fx.pg
  have hgl := fx.gl
  have hk : ∀ b, b ≠ g → (V.setCell ⟨g, 5, none⟩ u).heap[b]? = V.heap[b]? := fun b hb => Below.heap_setCell V ⟨g, 5, none⟩ u b hb
  refine ⟨ownsRow_setCell_below s.own (by show g < g + 1; omega) u, ?_, s.cs.keep (fun b hb hl => hk b (fun e => ?_)), fun y hy => (s.yin y hy).keep (fun b hb hl => hk b (fun e => by have := hb.1; omega)), fun z hz => (s.zin z hz).keep (fun b hb hl => hk b (fun e => by have := hb.1; omega)), s.os, s.tape, s.output, by rw [World.size_setCell]; exact s.size, fun b h1 h2 h3 h4 h5 => (hk b h3).trans (s.kept b h1 h2 h3 h4 h5), s.ra, s.va, s.sep⟩
  · have hh := s.hd
    simp [World.setCell, Array.getElem?_modify, hh]
  · rcases hb with rfl | hb
    · omega
    · rw [e] at hb; exact s.vg fx hb
theorem set_app6 (xs : List Value) (a0 a1 a2 a3 a4 a5 : Value) : ((((((xs ++ ([.int .i64 0, .int .i64 0, .string ⟨#[]⟩, .string ⟨#[]⟩, .slice none 0 0, .slice none 0 0] : List Value)).set (xs.length) a0).set (xs.length + 1) a1).set (xs.length + 2) a2).set (xs.length + 3) a3).set (xs.length + 4) a4).set (xs.length + 5) a5 = xs ++ [a0, a1, a2, a3, a4, a5] := by
  rw [List.set_append_right _ _ (by omega), List.set_append_right _ _ (by omega), List.set_append_right _ _ (by omega), List.set_append_right _ _ (by omega), List.set_append_right _ _ (by omega), List.set_append_right _ _ (by omega)]
  simp
/-- The new part's cells are written. -/
theorem Sx.six (fx : Fx g p rv v wr) {q cap k : Nat} {xs : List Value} (hx : xs.length = k * 6) (s : Sx g p d A c rv v wr (.slice (some ⟨q, 0, none⟩) (k + 1) cap) (k + 1) (xs ++ ([.int .i64 0, .int .i64 0, .string ⟨#[]⟩, .string ⟨#[]⟩, .slice none 0 0, .slice none 0 0] : List Value)) h v' vs' ys zs V) (a0 a1 a2 a3 a4 a5 : Value) :
    Sx g p d A c rv v wr (.slice (some ⟨q, 0, none⟩) (k + 1) cap) (k + 1) (xs ++ [a0, a1, a2, a3, a4, a5]) h v' vs' ys zs ((((((V.setCell ⟨q, k * 6, none⟩ a0).setCell ⟨q, k * 6 + 1, none⟩ a1).setCell ⟨q, k * 6 + 2, none⟩ a2).setCell ⟨q, k * 6 + 3, none⟩ a3).setCell ⟨q, k * 6 + 4, none⟩ a4).setCell ⟨q, k * 6 + 5, none⟩ a5) := by
  have h6 := ((((((s.store fx (k * 6) (by omega) a0).store fx (k * 6 + 1) (by omega) a1).store fx (k * 6 + 2) (by omega) a2).store fx (k * 6 + 3) (by omega) a3).store fx (k * 6 + 4) (by omega) a4).store fx (k * 6 + 5) (by omega) a5)
  rw [← hx, set_app6] at h6
  rw [← hx]
  exact h6
end
end Go.Proofs.Ytpnihimoekkepaa
