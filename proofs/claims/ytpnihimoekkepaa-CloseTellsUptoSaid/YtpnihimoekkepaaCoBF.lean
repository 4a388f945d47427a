/-
  The document's functions of an expression: what stands as they are gathered.
-/
import Derived.Test.YtpnihimoekkepaaCoBE
import Derived.Test.YtpnihimoekkepaaCoW
namespace Go.Proofs.Ytpnihimoekkepaa
open Go.ChangeShapes Go.WideShapes Go.ChangeAt Go.RowKit Go.Sort Go.Maps
set_option linter.unusedVariables false
set_option linter.unusedSimpArgs false

/-- A function by itself, by the document, of the tree that it was. -/
structure FunQ (z : Ex) (f : Fu) : Prop where
  s : f.s = (if z.d.kind = 4 then [] else z.d.s)
  t : f.t = (if z.d.kind = 4 then z.d.s else z.d.t)
  y : f.y.eqv (partOf z)
  so : inOrder f.caps
  caps : ∀ x, x ∈ f.caps ↔ capB z x = true
def FunL : List Ex → List Fu → Prop
  | [], [] => True
  | z :: zs, f :: fs => FunQ z f ∧ FunL zs fs
  | _, _ => False
theorem FunL.len : ∀ {zs : List Ex} {fs : List Fu}, FunL zs fs → zs.length = fs.length
  | [], [], _ => rfl
  | _ :: _, _ :: _, h => by simp [FunL.len h.2]
  | [], _ :: _, h => by simp [FunL] at h
  | _ :: _, [], h => by simp [FunL] at h
theorem FunL.app : ∀ {a c : List Ex} {b d : List Fu}, FunL a b → FunL c d → FunL (a ++ c) (b ++ d)
  | [], _, [], _, _, h => h
  | x :: a, c, y :: b, d, h, k => by simp only [List.cons_append, FunL] at h ⊢; exact ⟨h.1, FunL.app h.2 k⟩
  | [], _, _ :: _, _, h, _ => by simp [FunL] at h
  | _ :: _, _, [], _, h, _ => by simp [FunL] at h
theorem FunL.at_ : ∀ {a : List Ex} {b : List Fu}, FunL a b → ∀ (i : Nat) (z : Ex) (f : Fu), a[i]? = some z → b[i]? = some f → FunQ z f
  | [], [], _, i, z, f, h, _ => by simp at h
  | x :: a, y :: b, h, 0, z, f, h1, h2 => by simp at h1 h2; subst h1; subst h2; exact h.1
  | x :: a, y :: b, h, i + 1, z, f, h1, h2 => FunL.at_ h.2 i z f (by simpa using h1) (by simpa using h2)
  | [], _ :: _, h, _, _, _, _, _ => by simp [FunL] at h
  | _ :: _, [], h, _, _, _, _, _ => by simp [FunL] at h
/-- What the gatherer holds: in block p a list of functions. -/
structure CW (w : World) (p : Nat) (v : Value) (n : Nat) (cs : List Value) : Prop where
  c : w.heap[p]? = some (.cells #[v] 54)
  own : w.ownsRow (p - 1) 37 9 v n cs
  np : v.ownBlock ≠ some p
theorem CW.below {w w' : World} {p n : Nat} {v : Value} {cs : List Value} (h : CW w p v n cs) (hb : Below w.heap.size w w') : CW w' p v n cs := ⟨(hb.block p (lt_of_heap h.c)).trans h.c, own_below h.own hb, h.np⟩
theorem CW.keep {w w' : World} {p n : Nat} {v : Value} {cs : List Value} (h : CW w p v n cs) (hk : ∀ b, (b = p ∨ v.ownBlock = some b) → b < w.heap.size → w'.heap[b]? = w.heap[b]?) : CW w' p v n cs :=
  ⟨(hk p (.inl rfl) (lt_of_heap h.c)).trans h.c, own_keep h.own (fun g hg hl => hk g (.inr hg) hl), h.np⟩
/-- Blocks that what is told may lie in: old ones, or new ones that are no row of functions. -/
def NB (s0 s : Nat) (v : Value) (b : Nat) : Prop := (b < s0 ∨ s ≤ b) ∧ some b ≠ v.ownBlock
/-- What walking tells. -/
def WkR (s0 : Nat) (t : Ex) (p : Nat) (v0 : Value) (n0 : Nat) (cs0 : List Value) (W : World) (e : Ending) (w' : World) : Prop :=
  ∃ (y : Ex) (v : Value) (gs : List Fu), e = .returned (.agg y.d.arr) ∧ YIn (NB s0 W.heap.size v) w' y ∧ y.eqv (numE t (n0 - 1)) ∧ CW w' p v (n0 + gs.length) (cs0 ++ gs.flatMap Fu.cells) ∧
    (∀ f ∈ gs, f.In w' ∧ f.Bl (NB s0 W.heap.size v)) ∧ FunL (fnsE t (n0 - 1)) gs ∧ KW p W v0 w' v
/-- How far the parts have come: the told cells in block g, the row rv of its parts, the gatherer's row v. -/
structure WS (s0 : Nat) (W : World) (p : Nat) (v0 : Value) (g : Nat) (d e : ExD) (cs1 : List Value) (n1 : Nat) (fx : List Fu) (l : List Ex) (k : Nat) (ys : List Ex) (rv v : Value) (gs : List Fu) (wr : World) : Prop where
  own : wr.ownsRow (g + 1) 25 6 rv k (ys.flatMap Ex.cells)
  len : ys.length = k
  eqv : exL ys (numL (l.take k) (n1 - 1))
  fq : FunL (fnsL (l.take k) (n1 - 1)) gs
  cs : CW wr p v (n1 + gs.length) (cs1 ++ gs.flatMap Fu.cells)
  yin : ∀ y ∈ ys, YIn (fun b => NB s0 (g + 1) v b ∧ some b ≠ rv.ownBlock) wr y
  gin : ∀ f ∈ gs, f.In wr ∧ f.Bl (fun b => NB s0 (g + 1) v b ∧ some b ≠ rv.ownBlock)
  xin : ∀ f ∈ fx, f.In wr ∧ f.Bl (fun b => NB s0 (g + 1) v b ∧ some b ≠ rv.ownBlock)
  hd : wr.heap[g]? = some (.cells #[.int .i64 e.kind, .int .i64 e.n, .string (bstr e.s), .string (bstr e.t), .slice e.nA e.nn e.nc, rv] 25)
  rs : wr.heap[W.heap.size + 1]? = some (.cells #[.int .i64 0, .int .i64 0, .string ⟨#[]⟩, .string ⟨#[]⟩, .slice none 0 0, .slice none 0 0] 25)
  bx : wr.heap[W.heap.size]? = some (.cells #[.int .i64 d.kind, .int .i64 d.n, .string (bstr d.s), .string (bstr d.t), .slice d.nA d.nn d.nc, .slice d.pA d.pn d.pc] 25)
  kw : KW p W v0 wr v
  hg : g = W.heap.size + 2
  hp : s0 < p ∧ p < W.heap.size
  n1 : 1 ≤ n1
  sep : ∀ q, rv.ownBlock = some q → v.ownBlock ≠ some q
  gv : v.ownBlock ≠ some g ∧ v.ownBlock ≠ some (W.heap.size + 1) ∧ v.ownBlock ≠ some W.heap.size
section
variable {s0 : Nat} {W : World} {p : Nat} {v0 : Value} {g : Nat} {d e : ExD} {cs1 : List Value} {n1 : Nat} {fx : List Fu} {l : List Ex} {k : Nat} {ys : List Ex} {rv v : Value} {gs : List Fu} {wr : World}
theorem WS.gl (h : WS s0 W p v0 g d e cs1 n1 fx l k ys rv v gs wr) : g < wr.heap.size := lt_of_heap h.hd
theorem WS.rlt (h : WS s0 W p v0 g d e cs1 n1 fx l k ys rv v gs wr) (q : Nat) (hq : rv.ownBlock = some q) : g + 1 ≤ q ∧ q < wr.heap.size := h.own.lt q hq
theorem WS.vlt (h : WS s0 W p v0 g d e cs1 n1 fx l k ys rv v gs wr) (q : Nat) (hq : v.ownBlock = some q) : (p - 1 ≤ q ∧ q ≠ p) ∧ q < wr.heap.size := ⟨⟨(h.cs.own.lt q hq).1, fun e => h.cs.np (by rw [hq, e])⟩, (h.cs.own.lt q hq).2⟩
theorem WS.cnt (h : WS s0 W p v0 g d e cs1 n1 fx l k ys rv v gs wr) : gs.length = cntL (l.take k) := by
  rw [← h.fq.len, fnsL_len]
/-- A part more: the call's answer, put into a new block and behind the row; the told cells are given the row. -/
theorem WS.step (h : WS s0 W p v0 g d e cs1 n1 fx l k ys rv v gs wr) {x y : Ex} {v1 rv' : Value} {gs1 : List Fu} {w1 w2 w3 : World} (htk : l.take (k + 1) = l.take k ++ [x])
    (hy : YIn (NB s0 wr.heap.size v1) w1 y) (he : y.eqv (numE x (n1 + gs.length - 1))) (hcs : CW w1 p v1 (n1 + gs.length + gs1.length) ((cs1 ++ gs.flatMap Fu.cells) ++ gs1.flatMap Fu.cells)) (hgs : ∀ f ∈ gs1, f.In w1 ∧ f.Bl (NB s0 wr.heap.size v1)) (hf : FunL (fnsE x (n1 + gs.length - 1)) gs1) (hkw : KW p wr v w1 v1)
    (hb2 : Below w1.heap.size w1 w2) (hown : w3.ownsRow (g + 1) 25 6 rv' (k + 1) (ys.flatMap Ex.cells ++ y.cells)) (hgr : w2.grownBy w3 rv.ownBlock) (hat : rv'.ownBlock = rv.ownBlock ∨ rv'.ownBlock = some w2.heap.size) :
    WS s0 W p v0 g d e cs1 n1 fx l (k + 1) (ys ++ [y]) rv' v1 (gs ++ gs1) (w3.setCell ⟨g, 5, none⟩ rv') := by
  have hgl := h.gl
  have hr := h.rlt
  have hv := h.vlt
  have hp := h.hp
  have hg := h.hg
  have hs1 := hkw.size
  have hs2 := hb2.size
  have hs3 := hgr.size
  have hW := h.kw.size
  -- where the rows lie
  have hv1 : ∀ q, v1.ownBlock = some q → v.ownBlock = some q ∨ wr.heap.size ≤ q := fun q hq => by
    rcases hkw.at_ with k | ⟨q', k, hl⟩
    · left; rw [← k]; exact hq
    · right; rw [k] at hq; injection hq with hq; omega
  have hv1l : ∀ q, v1.ownBlock = some q → q < w1.heap.size := fun q hq => (hcs.own.lt q hq).2
  have hr1 : ∀ q, rv'.ownBlock = some q → rv.ownBlock = some q ∨ q = w2.heap.size := fun q hq => by
    rcases hat with k | k
    · left; rw [← k]; exact hq
    · right; rw [k] at hq; injection hq with hq; omega
  have hsep1 : ∀ q, rv.ownBlock = some q → v1.ownBlock ≠ some q := fun q hq e => by
    rcases hv1 q e with k | k
    · exact h.sep q hq k
    · have := (hr q hq).2; omega
  -- blocks of wr that stay
  have hk1 : ∀ b, b < wr.heap.size → b ≠ p → some b ≠ v.ownBlock → w1.heap[b]? = wr.heap[b]? := fun b h1 h2 h3 => hkw.block b h1 h2 h3
  have hk3 : ∀ b, b < w1.heap.size → some b ≠ rv.ownBlock → b ≠ g → (w3.setCell ⟨g, 5, none⟩ rv').heap[b]? = w1.heap[b]? := fun b h1 h2 h3 =>
    (Below.heap_setCell w3 ⟨g, 5, none⟩ rv' b h3).trans ((hgr.block b (by omega) h2).trans (hb2.block b h1))
  have hk : ∀ b, b < wr.heap.size → b ≠ p → some b ≠ v.ownBlock → some b ≠ rv.ownBlock → b ≠ g → (w3.setCell ⟨g, 5, none⟩ rv').heap[b]? = wr.heap[b]? := fun b h1 h2 h3 h4 h5 => (hk3 b (by omega) h4 h5).trans (hk1 b h1 h2 h3)
  have hold : ∀ b, NB s0 (g + 1) v b ∧ some b ≠ rv.ownBlock → b < wr.heap.size → (w3.setCell ⟨g, 5, none⟩ rv').heap[b]? = wr.heap[b]? := fun b hb hl => hk b hl (by rcases hb.1.1 with k | k <;> omega) hb.1.2 hb.2 (by rcases hb.1.1 with k | k <;> omega)
  have holdp : ∀ b, NB s0 (g + 1) v b ∧ some b ≠ rv.ownBlock → b < wr.heap.size → NB s0 (g + 1) v1 b ∧ some b ≠ rv'.ownBlock := fun b hb hl => ⟨⟨hb.1.1, fun e => by
      rcases hv1 b e.symm with k | k
      · exact hb.1.2 k.symm
      · omega⟩, fun e => by
      rcases hr1 b e.symm with k | k
      · exact hb.2 k.symm
      · omega⟩
  have hnew : ∀ b, NB s0 wr.heap.size v1 b → b < w1.heap.size → (w3.setCell ⟨g, 5, none⟩ rv').heap[b]? = w1.heap[b]? := fun b hb hl => hk3 b hl (fun e => by have := hr b e.symm; rcases hb.1 with k | k <;> omega) (by rcases hb.1 with k | k <;> omega)
  have hnewp : ∀ b, NB s0 wr.heap.size v1 b → b < w1.heap.size → NB s0 (g + 1) v1 b ∧ some b ≠ rv'.ownBlock := fun b hb hl => ⟨⟨hb.1.imp id (fun k => by omega), hb.2⟩, fun e => by
      rcases hr1 b e.symm with k | k
      · have := hr b k; rcases hb.1 with k | k <;> omega
      · omega⟩
  have hlast : ∀ b, b < W.heap.size + 2 → W.heap.size ≤ b → some b ≠ v.ownBlock → (w3.setCell ⟨g, 5, none⟩ rv').heap[b]? = wr.heap[b]? := fun b h1 h2 h3 => hk b (by omega) (by omega) h3 (fun e => by have := (hr b e.symm).1; omega) (by omega)
  have hm : n1 + gs.length - 1 = n1 - 1 + cntL (l.take k) := by have := h.n1; have := h.cnt; omega
  rw [hm] at he hf
  refine ⟨?_, by rw [List.length_append, h.len]; rfl, ?_, ?_, ?_, fun z hz => ?_, fun f hfm => ?_, fun f hfm => ?_, ?_, (hlast _ (by omega) (by omega) (fun e => h.gv.2.1 e.symm)).trans h.rs, (hlast _ (by omega) (by omega) (fun e => h.gv.2.2 e.symm)).trans h.bx, ?_, h.hg, h.hp, h.n1, fun q hq e => ?_, ?_⟩
  · rw [List.flatMap_append, List.flatMap_cons, List.flatMap_nil, List.append_nil]
    exact ownsRow_setCell_below hown (by show g < g + 1; omega) rv'
  · rw [htk, numL_snoc]
    exact exL_snoc h.eqv he
  · rw [htk, fnsL_snoc]
    exact h.fq.app hf
  · rw [List.length_append, List.flatMap_append, ← List.append_assoc, ← Nat.add_assoc]
    refine hcs.keep (fun b hb hl => hk3 b hl (fun e => ?_) (fun e => ?_))
    · rcases hb with rfl | hb
      · have := (hr b e.symm).1; omega
      · exact hsep1 b e.symm hb
    · rcases hb with rfl | hb
      · omega
      · rw [e] at hb
        rcases hv1 _ hb with k | k
        · exact h.gv.1 k
        · omega
  · rcases List.mem_append.1 hz with q | q
    · exact (((h.yin z q).imp (fun b hb hl => And.intro (holdp b hb hl) hb)).keep (fun b hb hl => hold b hb.2 hl)).imp (fun b hb _ => hb.1)
    · rw [List.mem_singleton] at q
      subst q
      exact ((hy.imp (fun b hb hl => And.intro (hnewp b hb hl) hb)).keep (fun b hb hl => hnew b hb.2 hl)).imp (fun b hb _ => hb.1)
  · rcases List.mem_append.1 hfm with q | q
    · obtain ⟨a, b⟩ := h.gin f q
      exact ⟨a.keepP b hold, b.imp a holdp⟩
    · obtain ⟨a, b⟩ := hgs f q
      exact ⟨a.keepP b hnew, b.imp a hnewp⟩
  · obtain ⟨a, b⟩ := h.xin f hfm
    exact ⟨a.keepP b hold, b.imp a holdp⟩
  · have h3 : w3.heap[g]? = wr.heap[g]? := (hgr.block g (by omega) (fun e => by have := (hr g e.symm).1; omega)).trans ((hb2.block g (by omega)).trans (hk1 g hgl (by omega) (fun e => h.gv.1 e.symm)))
    have hh := h3.trans h.hd
    simp [World.setCell, Array.getElem?_modify, hh]
  · have hk13 : ∀ b, b < wr.heap.size → b ≠ p → some b ≠ v.ownBlock → b < W.heap.size → (w3.setCell ⟨g, 5, none⟩ rv').heap[b]? = wr.heap[b]? := fun b h1 h2 h3 h4 => hk b h1 h2 h3 (fun e => by have := (hr b e.symm).1; omega) (by omega)
    refine ⟨hgr.os.trans (hb2.os.trans (hkw.os.trans h.kw.os)), hgr.tape.trans (hb2.tape.trans (hkw.tape.trans h.kw.tape)), hgr.output.trans (hb2.output.trans (hkw.output.trans h.kw.output)), by rw [World.size_setCell]; omega, fun b h1 h2 h3 => ?_, ?_⟩
    · refine (hk13 b (by omega) h2 (fun e => ?_) h1).trans (h.kw.block b h1 h2 h3)
      rcases h.kw.at_ with k | ⟨q, k, hl⟩
      · rw [k] at e; exact h3 e
      · rw [k] at e; injection e with e; omega
    · rcases hkw.at_ with k | ⟨q, k, hl⟩
      · rw [k]; exact h.kw.at_
      · exact .inr ⟨q, k, by omega⟩
  · rcases hr1 q hq with k | k
    · exact hsep1 q k e
    · have := hv1l q e; omega
  · refine ⟨fun e => ?_, fun e => ?_, fun e => ?_⟩
    all_goals
      rcases hv1 _ e with k | k
      · first | exact h.gv.1 k | exact h.gv.2.1 k | exact h.gv.2.2 k
      · omega
end
end Go.Proofs.Ytpnihimoekkepaa
