/-
  The document's functions of an expression: what stands when the parts are done, and the end.
-/
import Derived.Test.YtpnihimoekkepaaCoBG
namespace Go.Proofs.Ytpnihimoekkepaa
open Go.ChangeShapes Go.WideShapes Go.ChangeAt Go.RowKit Go.Sort Go.Maps
set_option linter.unusedVariables false
set_option linter.unusedSimpArgs false

/-- All is done but for the result's cells. -/
structure EndW (s0 : Nat) (t : Ex) (p : Nat) (v0 : Value) (n0 : Nat) (cs0 : List Value) (W : World) (y : Ex) (v : Value) (gs : List Fu) (V : World) : Prop where
  yin : YIn (fun b => NB s0 W.heap.size v b ∧ b ≠ W.heap.size + 1) V y
  eqv : y.eqv (numE t (n0 - 1))
  cs : CW V p v (n0 + gs.length) (cs0 ++ gs.flatMap Fu.cells)
  gin : ∀ f ∈ gs, f.In V ∧ f.Bl (fun b => NB s0 W.heap.size v b ∧ b ≠ W.heap.size + 1)
  fl : FunL (fnsE t (n0 - 1)) gs
  kw : KW p W v0 V v
  rs : V.heap[W.heap.size + 1]? = some (.cells #[.int .i64 0, .int .i64 0, .string ⟨#[]⟩, .string ⟨#[]⟩, .slice none 0 0, .slice none 0 0] 25)
  hp : p < W.heap.size
  gv : v.ownBlock ≠ some (W.heap.size + 1)
theorem EndW.keep {s0 : Nat} {t : Ex} {p : Nat} {v0 : Value} {n0 : Nat} {cs0 : List Value} {W : World} {y : Ex} {v : Value} {gs : List Fu} {V V' : World} (h : EndW s0 t p v0 n0 cs0 W y v gs V) (hk : ∀ b, b ≠ W.heap.size + 1 → V'.heap[b]? = V.heap[b]?) (ho : V'.os = V.os ∧ V'.tape = V.tape ∧ V'.output = V.output ∧ V'.heap.size = V.heap.size) :
    WkR s0 t p v0 n0 cs0 W (.returned (.agg y.d.arr)) V' := by
  have hp := h.hp
  refine ⟨y, v, gs, rfl, (h.yin.keep (fun b hb _ => hk b hb.2)).imp (fun b hb _ => hb.1), h.eqv, h.cs.keep (fun b hb _ => hk b (fun e => ?_)), fun f hf => ?_, h.fl, ⟨ho.1.trans h.kw.os, ho.2.1.trans h.kw.tape, ho.2.2.1.trans h.kw.output, by rw [ho.2.2.2]; exact h.kw.size, fun b h1 h2 h3 => (hk b (by omega)).trans (h.kw.block b h1 h2 h3), h.kw.at_⟩⟩
  · rcases hb with rfl | hb
    · omega
    · rw [e] at hb; exact h.gv hb
  · obtain ⟨a, b⟩ := h.gin f hf
    exact ⟨a.keepP b (fun b hb _ => hk b hb.2), b.imp a (fun b hb _ => hb.1)⟩
theorem EndW.put {s0 : Nat} {t : Ex} {p : Nat} {v0 : Value} {n0 : Nat} {cs0 : List Value} {W : World} {y : Ex} {v : Value} {gs : List Fu} {V : World} (h : EndW s0 t p v0 n0 cs0 W y v gs V) (a0 a1 a2 a3 a4 a5 : Value) :
    (put6 V (W.heap.size + 1) a0 a1 a2 a3 a4 a5).heap[W.heap.size + 1]? = some (.cells #[a0, a1, a2, a3, a4, a5] 25) ∧ WkR s0 t p v0 n0 cs0 W (.returned (.agg y.d.arr)) (put6 V (W.heap.size + 1) a0 a1 a2 a3 a4 a5) :=
  have hb : Below 0 V (put6 V (W.heap.size + 1) a0 a1 a2 a3 a4 a5) := put6_below (Below.refl _ _) (Nat.zero_le _) a0 a1 a2 a3 a4 a5
  ⟨put6_box V _ h.rs _ _ _ _ _ _, h.keep (fun b hb => put6_other V (W.heap.size + 1) a0 a1 a2 a3 a4 a5 hb) ⟨hb.os, hb.tape, hb.output, by simp only [put6, World.size_setCell]⟩⟩
theorem wkr_drew {s0 : Nat} {t : Ex} {p : Nat} {v0 : Value} {n0 : Nat} {cs0 : List Value} {W V : World} {e : Ending} {i : Nat} {a : Option Obj} (h : V.heap[i]? = a ∧ WkR s0 t p v0 n0 cs0 W e V) : V.drew.heap[i]? = a ∧ WkR s0 t p v0 n0 cs0 W e V.drew := by
  obtain ⟨y, v, gs, he, hy, heq, hcs, hg, hf, hkw⟩ := h.2
  exact ⟨h.1, y, v, gs, he, hy.keep (fun _ _ _ => rfl), heq, hcs.below (below_drew1 V), fun f hfm => ⟨(hg f hfm).1.keepP (hg f hfm).2 (fun _ _ _ => rfl), (hg f hfm).2⟩, hf, hkw.trans (KW.of_below v (below_drew1 V))⟩
/-- A cell of an own row. -/
theorem own_cell {w : World} {base n q cap : Nat} {e : TypeId} {size : Nat} {xs : List Value} (h : w.ownsRow base e size (.slice (some ⟨q, 0, none⟩) n cap) n xs) {i : Nat} {u : Value} (hi : xs[i]? = some u) : w.cell? ⟨q, i, none⟩ = some u ∧ w.frozen? ⟨q, i, none⟩ = false := by
  have hl : i < n * size := by rw [← h.1]; exact (List.getElem?_eq_some_iff.1 hi).1
  rcases h.2 with ⟨e, _⟩ | ⟨q', cap', cur, hv, hg, hh, h1, h2, h3, h4⟩
  · cases e
  · injection hv with e1 _ _
    injection e1 with e1
    injection e1 with e1
    subst e1
    refine ⟨?_, Lib.frozen_of_heap hh _⟩
    rw [Lib.cell_of_heap hh, ← Array.getElem?_toList]
    rw [← h4, List.getElem?_take_of_lt hl] at hi
    exact hi
theorem set_nine (a b : List Value) (c0 c1 c2 c3 c4 c5 c6 c7 c8 y0 y1 y2 y3 y4 y5 : Value) : (((((((a ++ [c0, c1, c2, c3, c4, c5, c6, c7, c8]) ++ b).set (a.length + 3) y0).set (a.length + 3 + 1) y1).set (a.length + 3 + 2) y2).set (a.length + 3 + 3) y3).set (a.length + 3 + 4) y4).set (a.length + 3 + 5) y5 = (a ++ [c0, c1, c2, y0, y1, y2, y3, y4, y5]) ++ b := by
  rw [List.append_assoc, List.set_append_right _ _ (by omega), List.set_append_right _ _ (by omega), List.set_append_right _ _ (by omega), List.set_append_right _ _ (by omega), List.set_append_right _ _ (by omega), List.set_append_right _ _ (by omega)]
  simp [Nat.add_assoc]
section
variable {s0 : Nat} {W : World} {p : Nat} {v0 : Value} {g : Nat} {d e : ExD} {cs1 : List Value} {n1 : Nat} {fx : List Fu} {l ys : List Ex} {A1 : Option Addr} {k1 : Nat} {v : Value} {gs : List Fu} {wr : World}
/-- What is told may be told. -/
theorem WS.told (h : WS s0 W p v0 g d e cs1 n1 fx l l.length ys (.slice A1 l.length k1) v gs wr) (hn : Rd wr 1 e.nA e.nn (strs e.names)) (hnb : 0 < e.nn → ∀ a, e.nA = some a → a.block < s0) (hc : e.nn ≤ e.nc ∧ e.nc ≤ maxLen ∧ e.nn ≤ 4000000) (hcp : l.length ≤ 4000000 ∧ e.s.length ≤ 4000000 ∧ e.t.length ≤ 4000000 ∧ ∀ s ∈ e.names, s.length ≤ 4000000) :
    YIn (fun b => NB s0 W.heap.size v b ∧ b ≠ W.heap.size + 1) wr (ToldE e e.nA e.nc l.length A1 k1 ys) ∧ (∀ f ∈ gs ++ fx, f.In wr ∧ f.Bl (fun b => NB s0 W.heap.size v b ∧ b ≠ W.heap.size + 1)) ∧ (∀ y ∈ ys, YIn (fun b => NB s0 W.heap.size v b ∧ b ≠ W.heap.size + 1) wr y) := by
  have hg := h.hg
  have hp := h.hp
  obtain ⟨A2, k2, e2, hk1, hk2, _⟩ := own_cap h.own
  injection e2 with e3 _ e4
  subst e3
  subst e4
  have hx : ∀ b, (NB s0 (g + 1) v b ∧ some b ≠ (Value.slice A1 l.length k1).ownBlock) → b < wr.heap.size → (NB s0 W.heap.size v b ∧ b ≠ W.heap.size + 1) := fun b hb _ => ⟨⟨hb.1.1.imp id (fun k => by omega), hb.1.2⟩, by rcases hb.1.1 with k | k <;> omega⟩
  refine ⟨⟨.mk _ _ hn (Rd.of_own h.own) ⟨hc, ⟨hk1, hk2, hcp.1⟩, hcp.2⟩ (fun y hy => (h.yin y hy).inn), .mk _ _ (fun hn0 a ha => ⟨⟨.inl (hnb hn0 a ha), fun e => ?_⟩, by have := hnb hn0 a ha; omega⟩) (fun hn0 a ha => ?_) (fun y hy => ((h.yin y hy).imp hx).bl)⟩, fun f hf => ?_, fun y hy => (h.yin y hy).imp hx⟩
  · have := (h.vlt a.block e.symm).1.1
    have := hnb hn0 a ha
    omega
  · have hq : (Value.slice A1 l.length k1).ownBlock = some a.block := by rw [show A1 = some a from ha]; rfl
    have := (h.rlt _ hq).1
    exact ⟨⟨.inr (by omega), fun e => h.sep _ hq e.symm⟩, by omega⟩
  · rcases List.mem_append.1 hf with q | q
    · exact ⟨(h.gin f q).1, (h.gin f q).2.imp (h.gin f q).1 hx⟩
    · exact ⟨(h.xin f q).1, (h.xin f q).2.imp (h.xin f q).1 hx⟩
end
section
variable {s0 : Nat} {W : World} {p : Nat} {v0 : Value} {g : Nat} {d : ExD} {cs0 : List Value} {n0 : Nat} {fz : Fu} {y : Ex} {l ys : List Ex} {A1 : Option Addr} {k1 : Nat} {v : Value} {gs : List Fu} {wr : World}
theorem WS.end_no (h : WS s0 W p v0 g d (d.numD (n0 - 1)) cs0 n0 [] l l.length ys (.slice A1 l.length k1) v gs wr) (hf : ¬ (d.kind = 4 ∨ d.kind = 7)) (ht : YIn (fun b => NB s0 W.heap.size v b ∧ b ≠ W.heap.size + 1) wr (ToldE (d.numD (n0 - 1)) (d.numD (n0 - 1)).nA (d.numD (n0 - 1)).nc l.length A1 k1 ys) ∧ (∀ f ∈ gs ++ [], f.In wr ∧ f.Bl (fun b => NB s0 W.heap.size v b ∧ b ≠ W.heap.size + 1)) ∧ (∀ y ∈ ys, YIn (fun b => NB s0 W.heap.size v b ∧ b ≠ W.heap.size + 1) wr y)) :
    EndW s0 (.mk d l) p v0 n0 cs0 W (ToldE (d.numD (n0 - 1)) (d.numD (n0 - 1)).nA (d.numD (n0 - 1)).nc l.length A1 k1 ys) v gs wr := by
  have h3 := h.eqv
  have h4 := h.fq
  rw [List.take_length] at h3 h4
  have hd : d.f = 0 := if_neg hf
  refine ⟨ht.1, told_eqv (by rw [hd]; exact h3), h.cs, fun f hfm => ht.2.1 f (by simpa using hfm), ?_, h.kw, h.rs, h.hp.2, h.gv.2.1⟩
  unfold fnsE
  rw [if_neg hf, hd]
  exact h4
/-- What is to be in a function, but for its part. -/
def FunZ (z : Ex) (f : Fu) : Prop := ∀ y : Ex, y.eqv (partOf z) → FunQ z { f with y := y }
theorem WS.end_nil (h : WS s0 W p v0 g d (d.numD (n0 - 1)) (cs0 ++ fz.cells) (n0 + 1) [fz] [] 0 ys (.slice A1 0 k1) v gs wr) (hf : d.kind = 4 ∨ d.kind = 7) (hn0 : 1 ≤ n0) (hz : fz.y = zeroE) (hq : FunZ (numE (.mk d []) (n0 - 1)) fz) (ht : YIn (fun b => NB s0 W.heap.size v b ∧ b ≠ W.heap.size + 1) wr (ToldE (d.numD (n0 - 1)) (d.numD (n0 - 1)).nA (d.numD (n0 - 1)).nc ([] : List Ex).length A1 k1 ys) ∧ (∀ f ∈ gs ++ [fz], f.In wr ∧ f.Bl (fun b => NB s0 W.heap.size v b ∧ b ≠ W.heap.size + 1)) ∧ (∀ y ∈ ys, YIn (fun b => NB s0 W.heap.size v b ∧ b ≠ W.heap.size + 1) wr y)) :
    EndW s0 (.mk d []) p v0 n0 cs0 W (ToldE (d.numD (n0 - 1)) (d.numD (n0 - 1)).nA (d.numD (n0 - 1)).nc ([] : List Ex).length A1 k1 ys) v (fz :: gs) wr := by
  have h3 := h.eqv
  have h4 := h.fq
  simp only [List.take_nil] at h3 h4
  have hd : d.f = 1 := if_pos hf
  have hm : n0 - 1 + d.f = n0 + 1 - 1 := by omega
  have hcs := h.cs
  refine ⟨ht.1, told_eqv (l := []) (by rw [hm]; exact h3), ?_, fun f hfm => ht.2.1 f (by rcases List.mem_cons.1 hfm with rfl | q; simp; simp [q]), ?_, h.kw, h.rs, h.hp.2, h.gv.2.1⟩
  · rw [List.length_cons, List.flatMap_cons, ← List.append_assoc, show n0 + (gs.length + 1) = n0 + 1 + gs.length from by omega]
    exact hcs
  · unfold fnsE
    rw [if_pos hf, hm]
    have h5 := hq fz.y (by rw [hz]; unfold numE; simp only [numL, partOf]; exact eqv_refl _)
    exact FunL.app (a := [_]) (b := [fz]) ⟨h5, trivial⟩ h4
theorem row_six {w : World} {base q nf cf n0 : Nat} {cs0 rest : List Value} {fz : Fu} {y : Ex} (h : w.ownsRow base 37 9 (.slice (some ⟨q, 0, none⟩) nf cf) nf ((cs0 ++ fz.cells) ++ rest)) (hc0 : cs0.length = n0 * 9) (hb : n0 * 9 + 9 ≤ nf * 9) :
    ((((((w.setCell ⟨q, n0 * 9 + 3, none⟩ (.int .i64 y.d.kind)).setCell ⟨q, n0 * 9 + 3 + 1, none⟩ (.int .i64 y.d.n)).setCell ⟨q, n0 * 9 + 3 + 2, none⟩ (.string (bstr y.d.s))).setCell ⟨q, n0 * 9 + 3 + 3, none⟩ (.string (bstr y.d.t))).setCell ⟨q, n0 * 9 + 3 + 4, none⟩ (.slice y.d.nA y.d.nn y.d.nc)).setCell ⟨q, n0 * 9 + 3 + 5, none⟩ (.slice y.d.pA y.d.pn y.d.pc)).ownsRow base 37 9 (.slice (some ⟨q, 0, none⟩) nf cf) nf ((cs0 ++ ({ fz with y := y } : Fu).cells) ++ rest) := by
  have h6 := own_set (own_set (own_set (own_set (own_set (own_set h (n0 * 9 + 3) (by omega) (.int .i64 y.d.kind)) (n0 * 9 + 3 + 1) (by omega) (.int .i64 y.d.n)) (n0 * 9 + 3 + 2) (by omega) (.string (bstr y.d.s))) (n0 * 9 + 3 + 3) (by omega) (.string (bstr y.d.t))) (n0 * 9 + 3 + 4) (by omega) (.slice y.d.nA y.d.nn y.d.nc)) (n0 * 9 + 3 + 5) (by omega) (.slice y.d.pA y.d.pn y.d.pc)
  have hs := set_nine cs0 rest (.string (bstr fz.s)) (.string (bstr fz.t)) (.slice fz.A fz.n fz.c) (.int .i64 fz.y.d.kind) (.int .i64 fz.y.d.n) (.string (bstr fz.y.d.s)) (.string (bstr fz.y.d.t)) (.slice fz.y.d.nA fz.y.d.nn fz.y.d.nc) (.slice fz.y.d.pA fz.y.d.pn fz.y.d.pc) (.int .i64 y.d.kind) (.int .i64 y.d.n) (.string (bstr y.d.s)) (.string (bstr y.d.t)) (.slice y.d.nA y.d.nn y.d.nc) (.slice y.d.pA y.d.pn y.d.pc)
  rw [hc0] at hs
  unfold Fu.cells at h6 ⊢
  rw [hs] at h6
  exact h6
theorem six_facts (w : World) (q n0 : Nat) (y : Ex) : (∀ b, b ≠ q → ((((((w.setCell ⟨q, n0 * 9 + 3, none⟩ (.int .i64 y.d.kind)).setCell ⟨q, n0 * 9 + 3 + 1, none⟩ (.int .i64 y.d.n)).setCell ⟨q, n0 * 9 + 3 + 2, none⟩ (.string (bstr y.d.s))).setCell ⟨q, n0 * 9 + 3 + 3, none⟩ (.string (bstr y.d.t))).setCell ⟨q, n0 * 9 + 3 + 4, none⟩ (.slice y.d.nA y.d.nn y.d.nc)).setCell ⟨q, n0 * 9 + 3 + 5, none⟩ (.slice y.d.pA y.d.pn y.d.pc)).heap[b]? = w.heap[b]?) ∧ (((((((w.setCell ⟨q, n0 * 9 + 3, none⟩ (.int .i64 y.d.kind)).setCell ⟨q, n0 * 9 + 3 + 1, none⟩ (.int .i64 y.d.n)).setCell ⟨q, n0 * 9 + 3 + 2, none⟩ (.string (bstr y.d.s))).setCell ⟨q, n0 * 9 + 3 + 3, none⟩ (.string (bstr y.d.t))).setCell ⟨q, n0 * 9 + 3 + 4, none⟩ (.slice y.d.nA y.d.nn y.d.nc)).setCell ⟨q, n0 * 9 + 3 + 5, none⟩ (.slice y.d.pA y.d.pn y.d.pc)).os = w.os ∧ ((((((w.setCell ⟨q, n0 * 9 + 3, none⟩ (.int .i64 y.d.kind)).setCell ⟨q, n0 * 9 + 3 + 1, none⟩ (.int .i64 y.d.n)).setCell ⟨q, n0 * 9 + 3 + 2, none⟩ (.string (bstr y.d.s))).setCell ⟨q, n0 * 9 + 3 + 3, none⟩ (.string (bstr y.d.t))).setCell ⟨q, n0 * 9 + 3 + 4, none⟩ (.slice y.d.nA y.d.nn y.d.nc)).setCell ⟨q, n0 * 9 + 3 + 5, none⟩ (.slice y.d.pA y.d.pn y.d.pc)).tape = w.tape ∧ ((((((w.setCell ⟨q, n0 * 9 + 3, none⟩ (.int .i64 y.d.kind)).setCell ⟨q, n0 * 9 + 3 + 1, none⟩ (.int .i64 y.d.n)).setCell ⟨q, n0 * 9 + 3 + 2, none⟩ (.string (bstr y.d.s))).setCell ⟨q, n0 * 9 + 3 + 3, none⟩ (.string (bstr y.d.t))).setCell ⟨q, n0 * 9 + 3 + 4, none⟩ (.slice y.d.nA y.d.nn y.d.nc)).setCell ⟨q, n0 * 9 + 3 + 5, none⟩ (.slice y.d.pA y.d.pn y.d.pc)).output = w.output ∧ ((((((w.setCell ⟨q, n0 * 9 + 3, none⟩ (.int .i64 y.d.kind)).setCell ⟨q, n0 * 9 + 3 + 1, none⟩ (.int .i64 y.d.n)).setCell ⟨q, n0 * 9 + 3 + 2, none⟩ (.string (bstr y.d.s))).setCell ⟨q, n0 * 9 + 3 + 3, none⟩ (.string (bstr y.d.t))).setCell ⟨q, n0 * 9 + 3 + 4, none⟩ (.slice y.d.nA y.d.nn y.d.nc)).setCell ⟨q, n0 * 9 + 3 + 5, none⟩ (.slice y.d.pA y.d.pn y.d.pc)).heap.size = w.heap.size) :=
  have hb : Below 0 w ((((((w.setCell ⟨q, n0 * 9 + 3, none⟩ (.int .i64 y.d.kind)).setCell ⟨q, n0 * 9 + 3 + 1, none⟩ (.int .i64 y.d.n)).setCell ⟨q, n0 * 9 + 3 + 2, none⟩ (.string (bstr y.d.s))).setCell ⟨q, n0 * 9 + 3 + 3, none⟩ (.string (bstr y.d.t))).setCell ⟨q, n0 * 9 + 3 + 4, none⟩ (.slice y.d.nA y.d.nn y.d.nc)).setCell ⟨q, n0 * 9 + 3 + 5, none⟩ (.slice y.d.pA y.d.pn y.d.pc)) := Below.setCell (p := ⟨q, n0 * 9 + 3 + 5, none⟩) (Below.setCell (p := ⟨q, n0 * 9 + 3 + 4, none⟩) (Below.setCell (p := ⟨q, n0 * 9 + 3 + 3, none⟩) (Below.setCell (p := ⟨q, n0 * 9 + 3 + 2, none⟩) (Below.setCell (p := ⟨q, n0 * 9 + 3 + 1, none⟩) (Below.setCell (p := ⟨q, n0 * 9 + 3, none⟩) (Below.refl _ _) (Nat.zero_le _) (.int .i64 y.d.kind)) (Nat.zero_le _) (.int .i64 y.d.n)) (Nat.zero_le _) (.string (bstr y.d.s))) (Nat.zero_le _) (.string (bstr y.d.t))) (Nat.zero_le _) (.slice y.d.nA y.d.nn y.d.nc)) (Nat.zero_le _) (.slice y.d.pA y.d.pn y.d.pc)
  ⟨fun b hb => (Below.heap_setCell _ ⟨q, n0 * 9 + 3 + 5, none⟩ _ b hb).trans ((Below.heap_setCell _ ⟨q, n0 * 9 + 3 + 4, none⟩ _ b hb).trans ((Below.heap_setCell _ ⟨q, n0 * 9 + 3 + 3, none⟩ _ b hb).trans ((Below.heap_setCell _ ⟨q, n0 * 9 + 3 + 2, none⟩ _ b hb).trans ((Below.heap_setCell _ ⟨q, n0 * 9 + 3 + 1, none⟩ _ b hb).trans (Below.heap_setCell _ ⟨q, n0 * 9 + 3, none⟩ _ b hb))))), hb.os, hb.tape, hb.output, by simp only [World.size_setCell]⟩
theorem WS.end_fn {x : Ex} {m : List Ex} {q nf cf : Nat} (h : WS s0 W p v0 g d (d.numD (n0 - 1)) (cs0 ++ fz.cells) (n0 + 1) [fz] (x :: m) (x :: m).length (y :: ys) (.slice A1 (x :: m).length k1) (.slice (some ⟨q, 0, none⟩) nf cf) gs wr) (hf : d.kind = 4 ∨ d.kind = 7) (hn0 : 1 ≤ n0) (hc0 : cs0.length = n0 * 9) (hq : FunZ (numE (.mk d (x :: m)) (n0 - 1)) fz) (ht : YIn (fun b => NB s0 W.heap.size (.slice (some ⟨q, 0, none⟩) nf cf) b ∧ b ≠ W.heap.size + 1) wr (ToldE (d.numD (n0 - 1)) (d.numD (n0 - 1)).nA (d.numD (n0 - 1)).nc (x :: m).length A1 k1 (y :: ys)) ∧ (∀ f ∈ gs ++ [fz], f.In wr ∧ f.Bl (fun b => NB s0 W.heap.size (.slice (some ⟨q, 0, none⟩) nf cf) b ∧ b ≠ W.heap.size + 1)) ∧ (∀ z ∈ y :: ys, YIn (fun b => NB s0 W.heap.size (.slice (some ⟨q, 0, none⟩) nf cf) b ∧ b ≠ W.heap.size + 1) wr z))
    {V6 : World} (hk : ∀ b, b ≠ q → V6.heap[b]? = wr.heap[b]?) (hst : V6.os = wr.os ∧ V6.tape = wr.tape ∧ V6.output = wr.output ∧ V6.heap.size = wr.heap.size) (hro : V6.ownsRow (p - 1) 37 9 (.slice (some ⟨q, 0, none⟩) nf cf) nf ((cs0 ++ ({ fz with y := y } : Fu).cells) ++ gs.flatMap Fu.cells)) :
    EndW s0 (.mk d (x :: m)) p v0 n0 cs0 W (ToldE (d.numD (n0 - 1)) (d.numD (n0 - 1)).nA (d.numD (n0 - 1)).nc (x :: m).length A1 k1 (y :: ys)) (.slice (some ⟨q, 0, none⟩) nf cf) ({ fz with y := y } :: gs) V6 := by
  have h3 := h.eqv
  have h4 := h.fq
  rw [List.take_length] at h3 h4
  have hd : d.f = 1 := if_pos hf
  have hm : n0 - 1 + d.f = n0 + 1 - 1 := by omega
  have hqv : (Value.slice (some ⟨q, 0, none⟩) nf cf).ownBlock = some q := rfl
  have hvq := h.vlt q hqv
  have hqW : q ≠ W.heap.size + 1 := fun e => h.gv.2.1 (by rw [hqv, e])
  have hn : nf = n0 + 1 + gs.length := by
    obtain ⟨_, _, e2, _⟩ := own_cap h.cs.own
    injection e2
  have hz : ∀ b, (NB s0 W.heap.size (.slice (some ⟨q, 0, none⟩) nf cf) b ∧ b ≠ W.heap.size + 1) → b < wr.heap.size → V6.heap[b]? = wr.heap[b]? := fun b hb _ => hk b (fun e => hb.1.2 (by rw [e]; rfl))
  have hy := ht.2.2 y (by simp)
  refine ⟨ht.1.keep hz, told_eqv (by rw [hm]; exact h3), ⟨(hk p (fun e => hvq.1.2 e.symm)).trans h.cs.c, ?_, h.cs.np⟩, fun f hfm => ?_, ?_, ⟨hst.1.trans h.kw.os, hst.2.1.trans h.kw.tape, hst.2.2.1.trans h.kw.output, by rw [hst.2.2.2]; exact h.kw.size, fun b b1 b2 b3 => (hk b (fun e => ?_)).trans (h.kw.block b b1 b2 b3), h.kw.at_⟩, (hk _ (fun e => hqW e.symm)).trans h.rs, h.hp.2, h.gv.2.1⟩
  · rw [List.length_cons, List.flatMap_cons, ← List.append_assoc, show n0 + (gs.length + 1) = nf from by omega]
    exact hro
  · rcases List.mem_cons.1 hfm with rfl | r
    · obtain ⟨a, b⟩ := ht.2.1 fz (by simp)
      exact ⟨⟨rd_keepP a.caps b.caps hz, a.small, (hy.keep hz).inn⟩, ⟨b.caps, hy.bl⟩⟩
    · obtain ⟨a, b⟩ := ht.2.1 f (by simp [r])
      exact ⟨a.keepP b hz, b⟩
  · unfold fnsE
    rw [if_pos hf, hm]
    have h5 := hq y (by
      unfold numE
      rw [hm]
      unfold numL at h3 ⊢
      exact h3.1)
    exact FunL.app (a := [_]) (b := [_]) ⟨h5, trivial⟩ h4
  · rcases h.kw.at_ with k | ⟨r, k, hl⟩
    · exact b3 (by rw [← k, e]; rfl)
    · rw [hqv] at k; injection k with k; omega
end
end Go.Proofs.Ytpnihimoekkepaa
