/-
  Numbers given to an expression's functions, by the code: how far it has come; a part more.
-/
import Derived.Test.YtpnihimoekkepaaCoE
namespace Go.Proofs.Ytpnihimoekkepaa
open Go.ChangeShapes Go.WideShapes Go.ChangeAt Go.RowKit Go.Sort
set_option linter.unusedVariables false
set_option linter.unusedSimpArgs false

def PB (g : Nat) (r v : Value) (b : Nat) : Prop := g + 1 ≤ b ∧ some b ≠ r.ownBlock ∧ some b ≠ v.ownBlock
/-- What numbering an expression's functions tells. -/
def NmR (t : Ex) (p : Nat) (v0 : Value) (vs0 : List Value) (W : World) (e : Ending) (w' : World) : Prop :=
  ∃ (y : Ex) (v : Value) (zs : List (Nat × Ex)), e = .returned (.agg y.d.arr) ∧ YIn (fun b => W.heap.size ≤ b ∧ some b ≠ v.ownBlock) w' y ∧ y.eqv (numE t vs0.length) ∧ CS w' p v (vs0 ++ zs.map ptr) ∧
    (∀ z ∈ zs, FnIn (fun b => W.heap.size ≤ b ∧ some b ≠ v.ownBlock) w' z) ∧ exL (zs.map Prod.snd) (fnsE t vs0.length) ∧ KW p W v0 w' v
/-- The parts under way: the told cells in block g, the row rv of its parts, the closing's list v with what was met; the result's block is the first of W's new ones. -/
structure PiN (W : World) (p : Nat) (v0 : Value) (g : Nat) (d : ExD) (A : Option Addr) (c : Nat) (vs1 : List Value) (l : List Ex) (k : Nat) (ys : List Ex) (rv v : Value) (zs : List (Nat × Ex)) (wr : World) : Prop where
  own : wr.ownsRow (g + 1) 25 6 rv k (ys.flatMap Ex.cells)
  len : ys.length = k
  eqv : exL ys (numL (l.take k) vs1.length)
  zeq : exL (zs.map Prod.snd) (fnsL (l.take k) vs1.length)
  cs : CS wr p v (vs1 ++ zs.map ptr)
  yin : ∀ y ∈ ys, YIn (PB g rv v) wr y
  zin : ∀ z ∈ zs, FnIn (PB g rv v) wr z
  hd : wr.heap[g]? = some (.cells (HDN d A c rv) 25)
  rs : wr.heap[W.heap.size]? = some (.cells #[.int .i64 0, .int .i64 0, .string ⟨#[]⟩, .string ⟨#[]⟩, .slice none 0 0, .slice none 0 0] 25)
  kw : KW p W v0 wr v
  hg : W.heap.size < g
  hp : p < W.heap.size
  sep : ∀ q, rv.ownBlock = some q → v.ownBlock ≠ some q
  gv : v.ownBlock ≠ some g ∧ v.ownBlock ≠ some W.heap.size
  lab : Rd wr 1 A d.nn (strs d.names)
  lb : 0 < d.nn → ∀ a, A = some a → W.heap.size < a.block ∧ a.block ≠ g ∧ some a.block ≠ rv.ownBlock ∧ some a.block ≠ v.ownBlock
section
variable {W : World} {p : Nat} {v0 : Value} {g : Nat} {d : ExD} {A : Option Addr} {c : Nat} {vs1 : List Value} {l : List Ex} {k : Nat} {ys : List Ex} {rv v : Value} {zs : List (Nat × Ex)} {wr : World}
theorem PiN.fx (h : PiN W p v0 g d A c vs1 l k ys rv v zs wr) : Fx g p rv v wr := by
  have hg := h.hg
  have hp := h.hp
  refine ⟨lt_of_heap h.hd, by omega, fun q hq => h.own.lt q hq, fun q hq => ⟨(h.cs.own.lt q hq).1, (h.cs.own.lt q hq).2, fun e => h.gv.1 (by rw [hq, e])⟩⟩
theorem PiN.sx (h : PiN W p v0 g d A c vs1 l k ys rv v zs wr) : Sx g p d A c rv v wr rv k (ys.flatMap Ex.cells) rv v (vs1 ++ zs.map ptr) [] [] wr :=
  ⟨h.own, h.hd, h.cs, fun y hy => (by cases hy), fun z hz => (by cases hz), rfl, rfl, rfl, Nat.le_refl _, fun _ _ _ _ _ _ => rfl, .inl rfl, .inl rfl, h.sep⟩
theorem PiN.cnt (h : PiN W p v0 g d A c vs1 l k ys rv v zs wr) : (vs1 ++ zs.map ptr).length = vs1.length + cntL (l.take k) := by
  have := exL_len h.zeq
  rw [List.length_map, fnsL_len] at this
  rw [List.length_append, List.length_map, this]
theorem PiN.step (h : PiN W p v0 g d A c vs1 l k ys rv v zs wr) {rv' v1 : Value} {y x : Ex} {zs1 : List (Nat × Ex)} {wz : World} (htk : l.take (k + 1) = l.take k ++ [x])
    (s : Sx g p d A c rv v wr rv' (k + 1) (ys.flatMap Ex.cells ++ y.cells) rv' v1 ((vs1 ++ zs.map ptr) ++ zs1.map ptr) [y] zs1 wz) (he : y.eqv (numE x (vs1 ++ zs.map ptr).length)) (hz : exL (zs1.map Prod.snd) (fnsE x (vs1 ++ zs.map ptr).length)) :
    PiN W p v0 g d A c vs1 l (k + 1) (ys ++ [y]) rv' v1 (zs ++ zs1) wz := by
  have fx := h.fx
  have hg := h.hg
  have hp := h.hp
  have hgl := fx.gl
  rw [h.cnt] at he hz
  have hk : ∀ b, b < wr.heap.size → g + 1 ≤ b → some b ≠ rv.ownBlock → some b ≠ v.ownBlock → wz.heap[b]? = wr.heap[b]? := fun b h1 h2 h3 h4 => s.kept b h1 (by omega) (by omega) h3 h4
  have hr1 : ∀ b, b < wr.heap.size → some b ≠ rv.ownBlock → some b ≠ rv'.ownBlock := fun b h1 h2 => by
    rcases s.ra with q | ⟨q, hq, hl⟩
    · rw [q]; exact h2
    · rw [hq]; intro e; injection e with e; omega
  have hv1 : ∀ b, b < wr.heap.size → some b ≠ v.ownBlock → some b ≠ v1.ownBlock := fun b h1 h2 => by
    rcases s.va with q | ⟨q, hq, hl⟩
    · rw [q]; exact h2
    · rw [hq]; intro e; injection e with e; omega
  have hpb : ∀ b, PB g rv v b → b < wr.heap.size → PB g rv' v1 b ∧ PB g rv v b := fun b hb hl => ⟨⟨hb.1, hr1 b hl hb.2.1, hv1 b hl hb.2.2⟩, hb⟩
  have hrW : some W.heap.size ≠ rv.ownBlock := fun e => by have := (fx.rg _ e.symm).1; omega
  have hWl : W.heap.size < wr.heap.size := by omega
  refine ⟨?_, by rw [List.length_append, h.len]; rfl, ?_, ?_, ?_, fun z hzm => ?_, fun z hzm => ?_, s.hd, ?_, ?_, hg, hp, s.sep, ⟨s.vg fx, fun e => hv1 _ hWl (fun e2 => h.gv.2 e2.symm) e.symm⟩, ?_, fun hn a ha => ?_⟩
  · rw [List.flatMap_append, List.flatMap_cons, List.flatMap_nil, List.append_nil]
    exact s.own
  · rw [htk, numL_snoc]
    exact exL_snoc h.eqv he
  · rw [htk, fnsL_snoc, List.map_append]
    exact exL_app h.zeq hz
  · rw [List.map_append, ← List.append_assoc]
    exact s.cs
  · rcases List.mem_append.1 hzm with q | q
    · exact (((h.yin z q).imp hpb).keep (fun b hb hl => hk b hl hb.2.1 hb.2.2.1 hb.2.2.2)).imp (fun b hb _ => hb.1)
    · exact (s.yin z q).imp (fun b hb _ => ⟨by have := hb.1; omega, hb.2.1, hb.2.2⟩)
  · rcases List.mem_append.1 hzm with q | q
    · exact (((h.zin z q).imp hpb).keep (fun b hb hl => hk b hl hb.2.1 hb.2.2.1 hb.2.2.2)).imp (fun b hb _ => hb.1)
    · exact (s.zin z q).imp (fun b hb _ => ⟨by have := hb.1; omega, hb.2.1, hb.2.2⟩)
  · exact (s.kept _ hWl (by omega) (by omega) hrW (fun e => h.gv.2 e.symm)).trans h.rs
  · refine ⟨s.os.trans h.kw.os, s.tape.trans h.kw.tape, s.output.trans h.kw.output, Nat.le_trans h.kw.size s.size, fun b h1 h2 h3 => ?_, ?_⟩
    · have hbw : b < wr.heap.size := Nat.lt_of_lt_of_le h1 h.kw.size
      refine (s.kept b hbw h2 (by omega) (fun e => by have := (fx.rg _ e.symm).1; omega) (fun e => ?_)).trans (h.kw.block b h1 h2 h3)
      rcases h.kw.at_ with q | ⟨q, hq, hl⟩
      · rw [q] at e; exact h3 e
      · rw [hq] at e; injection e with e; omega
    · rcases s.va with q | ⟨q, hq, hl⟩
      · rw [q]; exact h.kw.at_
      · exact .inr ⟨q, hq, Nat.le_trans h.kw.size hl⟩
  · exact rd_keepP (P := fun b => b ≠ p ∧ b ≠ g ∧ some b ≠ rv.ownBlock ∧ some b ≠ v.ownBlock) h.lab (fun hn a ha => ⟨by have := (h.lb hn a ha).1; omega, (h.lb hn a ha).2.1, (h.lb hn a ha).2.2.1, (h.lb hn a ha).2.2.2⟩) (fun b hb hl => s.kept b hl hb.1 hb.2.1 hb.2.2.1 hb.2.2.2)
  · have hal := h.lab.lt_ hn ha
    exact ⟨(h.lb hn a ha).1, (h.lb hn a ha).2.1, hr1 _ hal (h.lb hn a ha).2.2.1, hv1 _ hal (h.lb hn a ha).2.2.2⟩
end
/-- What the new part's cells hold; that they may be written. -/
theorem Sx.zero6 {g p : Nat} {d : ExD} {A : Option Addr} {c : Nat} {rv v : Value} {wr : World} {q cap k : Nat} {xs : List Value} (hx : xs.length = k * 6) {h v' : Value} {vs' : List Value} {ys : List Ex} {zs : List (Nat × Ex)} {V : World} (s : Sx g p d A c rv v wr (.slice (some ⟨q, 0, none⟩) (k + 1) cap) (k + 1) (xs ++ ([.int .i64 0, .int .i64 0, .string ⟨#[]⟩, .string ⟨#[]⟩, .slice none 0 0, .slice none 0 0] : List Value)) h v' vs' ys zs V) :
    (V.cell? ⟨q, k * 6, none⟩ = some (.int .i64 0) ∧ V.cell? ⟨q, k * 6 + 1, none⟩ = some (.int .i64 0) ∧ V.cell? ⟨q, k * 6 + 2, none⟩ = some (.string ⟨#[]⟩) ∧ V.cell? ⟨q, k * 6 + 3, none⟩ = some (.string ⟨#[]⟩) ∧ V.cell? ⟨q, k * 6 + 4, none⟩ = some (.slice none 0 0) ∧ V.cell? ⟨q, k * 6 + 5, none⟩ = some (.slice none 0 0)) ∧
    (V.frozen? ⟨q, k * 6, none⟩ = false ∧ V.frozen? ⟨q, k * 6 + 1, none⟩ = false ∧ V.frozen? ⟨q, k * 6 + 2, none⟩ = false ∧ V.frozen? ⟨q, k * 6 + 3, none⟩ = false ∧ V.frozen? ⟨q, k * 6 + 4, none⟩ = false ∧ V.frozen? ⟨q, k * 6 + 5, none⟩ = false) := by
  rcases s.own.2 with ⟨e, _⟩ | ⟨q', cap', cur, hv, hg, hh, h1, h2, h3, h4⟩
  · cases e
  · injection hv with e1 _ _
    injection e1 with e1
    injection e1 with e1
    subst e1
    have hc : ∀ i u, i < 6 → ([.int .i64 0, .int .i64 0, .string ⟨#[]⟩, .string ⟨#[]⟩, .slice none 0 0, .slice none 0 0] : List Value)[i]? = some u → V.cell? ⟨q, k * 6 + i, none⟩ = some u := fun i u hi hu => by
      rw [Lib.cell_of_heap hh, ← Array.getElem?_toList]
      have h5 : (cur.toList.take ((k + 1) * 6))[k * 6 + i]? = some u := by
        rw [h4, List.getElem?_append_right (by omega), hx]
        rw [show k * 6 + i - k * 6 = i from by omega]
        exact hu
      rw [List.getElem?_take_of_lt (by omega)] at h5
      exact h5
    exact ⟨⟨hc 0 _ (by omega) rfl, hc 1 _ (by omega) rfl, hc 2 _ (by omega) rfl, hc 3 _ (by omega) rfl, hc 4 _ (by omega) rfl, hc 5 _ (by omega) rfl⟩, Lib.frozen_of_heap hh _, Lib.frozen_of_heap hh _, Lib.frozen_of_heap hh _, Lib.frozen_of_heap hh _, Lib.frozen_of_heap hh _, Lib.frozen_of_heap hh _⟩
theorem Sx.told5 {g p : Nat} {d : ExD} {A : Option Addr} {c : Nat} {rv v : Value} {wr : World} {r : Value} {n : Nat} {cl : List Value} {h v' : Value} {vs' : List Value} {ys : List Ex} {zs : List (Nat × Ex)} {V : World} (s : Sx g p d A c rv v wr r n cl h v' vs' ys zs V) : V.cell? ⟨g, 5, none⟩ = some h ∧ V.frozen? ⟨g, 5, none⟩ = false :=
  ⟨(cells6 s.hd).2.2.2.2.2, (frozen6 s.hd).2.2.2.2.2⟩
end Go.Proofs.Ytpnihimoekkepaa
