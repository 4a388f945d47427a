/-
  The heap: an object is added to a half.
-/
import Derived.Test.YthblcfhflkapmaaHpS
namespace Go.Proofs.Ythblcfhflkapmaa
open Go Go.ChangeShapes Go.WideShapes Go.ChangeAt Go.RowKit Go.Sort
set_option linter.unusedVariables false
set_option linter.unusedSimpArgs false

theorem step_app {P : Program} {t e : TypeId} {z : Value} {size bytes : Nat} (T : ElemTy P t e z size bytes) (w : World) {ops : Array Oper} {o : Oper} {a : Act} {K : Act → World → Prop} {Q : Exit → Act → World → Prop} {E : Prop} (hgd : o.guard = none) (s x : Operand)
    (ho : o.op = .call { callee := .builtin .append, args := #[s, x], argTypes := #[t, t] }) (base : Nat)
    (v : Value) (n : Nat) (xs : List Value) (hs : a.eval s = v) (hown : w.ownsRow base e size v n xs) (A : Option Addr) (m c : Nat) (news : List Value) (hx : a.eval x = .slice A m c) (hr : Rd w size A m news) (h1 : ∀ u ∈ news, u.oneCell' = true)
    (hbytes : (n + m) * bytes ≤ 140737488355328) (hbase : base ≤ w.heap.size)
    (h : ∀ v' w', w'.ownsRow base e size v' (n + m) (xs ++ news) → w.grownBy w' v.ownBlock → (v'.ownBlock = v.ownBlock ∨ v'.ownBlock = some w.heap.size) → K (a.put o.dst v') w') :
    if Region.wanted o (yielded ops a.tmps) = true then Oper.wp P o a w K Q else E := by
  have hw : Region.wanted o (yielded ops a.tmps) = true := by simp [Region.wanted, hgd]
  rw [if_pos hw]
  obtain ⟨v', w', hrun, h2, h3, h4⟩ := run_app T w o.type base v n xs hown A m c news hr h1 hbytes hbase
  unfold Oper.wp execOp
  simp only [ho, resolve, invoke, builtin, Sem.run_bind, Sem.run_pure, Result.andThen_ok, List.map_toArray, List.map_cons, List.map_nil, hs, hx, hrun]
  exact h v' w' h2 h3 h4
theorem Rd.keepB {w w' : World} {size n : Nat} {A : Option Addr} {cs : List Value} (h : Rd w size A n cs) (hk : ∀ a, A = some a → 0 < cs.length → a.block < w.heap.size → w'.heap[a.block]? = w.heap[a.block]?) : Rd w' size A n cs := by
  refine ⟨h.1, fun h0 => ?_⟩
  obtain ⟨a, e, hb, hh⟩ := h.addr h0
  refine ⟨a, e, fun j u hu => ?_⟩
  rw [← hh j u hu]
  exact World.cell?_of_block (by rw [add_block]; exact hk a e h0 hb)
/-- A half to which words and marks were added, in block pb at po. -/
structure AS (w : World) (B pb po : Nat) (T : TypeId) (cs : Array Value) (V G : Value) (nX : Nat) (X : List Value) (nY : Nat) (Y : List Value) (wr : World) (cs' : Array Value) (V1 G1 : Value) : Prop where
  hp : wr.heap[pb]? = some (.cells cs' T)
  sz : cs'.size = cs.size
  ot : ∀ i, i ≠ po → i ≠ po + 1 → cs'[i]? = cs[i]?
  c0 : cs'[po]? = some V1
  c1 : cs'[po + 1]? = some G1
  fw : wr.ownsRow B WTy 2 V1 nX X
  fg : wr.ownsRow B BTy 1 G1 nY Y
  nv : V1.ownBlock = V.ownBlock ∨ ∃ g, V1.ownBlock = some g ∧ w.heap.size ≤ g
  ng : G1.ownBlock = G.ownBlock ∨ ∃ g, G1.ownBlock = some g ∧ w.heap.size ≤ g
  kp : ∀ b, b < w.heap.size → b ≠ pb → some b ≠ V.ownBlock → some b ≠ G.ownBlock → wr.heap[b]? = w.heap[b]?
  le : w.heap.size ≤ wr.heap.size
  bl : Below B w wr
section
variable {w wr w2 : World} {B pb po : Nat} {T : TypeId} {cs cs' : Array Value} {V G V1 G1 : Value} {nX nY : Nat} {X Y : List Value}
theorem AS.below (h : AS w B pb po T cs V G nX X nY Y wr cs' V1 G1) (hb : Below wr.heap.size wr w2) (hB : B ≤ wr.heap.size) : AS w B pb po T cs V G nX X nY Y w2 cs' V1 G1 :=
  ⟨(hb.block pb (lt_of_heap h.hp)).trans h.hp, h.sz, h.ot, h.c0, h.c1, own_below h.fw hb, own_below h.fg hb, h.nv, h.ng, fun b hl h1 h2 h3 => (hb.block b (Nat.lt_of_lt_of_le hl h.le)).trans (h.kp b hl h1 h2 h3), Nat.le_trans h.le hb.size, h.bl.trans (hb.mono hB)⟩
theorem AS.cells (h : AS w B pb po T cs V G nX X nY Y wr cs' V1 G1) : wr.cell? ⟨pb, po, none⟩ = some V1 ∧ wr.cell? ⟨pb, po + 1, none⟩ = some G1 ∧ wr.frozen? ⟨pb, po, none⟩ = false ∧ wr.frozen? ⟨pb, po + 1, none⟩ = false :=
  ⟨by rw [Lib.cell_of_heap h.hp]; exact h.c0, by rw [Lib.cell_of_heap h.hp]; exact h.c1, Lib.frozen_of_heap h.hp _, Lib.frozen_of_heap h.hp _⟩
/-- The marks are more. -/
theorem AS.putG (hT : T ≠ WTy ∧ T ≠ BTy) (h : AS w B pb po T cs V G nX X nY Y wr cs' V1 G1) (hpB : B ≤ pb) {g' : Value} {nY' : Nat} {Y' : List Value} (hown : w2.ownsRow B BTy 1 g' nY' Y') (hk : ∀ b, b < wr.heap.size → some b ≠ G1.ownBlock → w2.heap[b]? = wr.heap[b]?) (hs : wr.heap.size ≤ w2.heap.size) (hb : Below B wr w2) (hat : g'.ownBlock = G1.ownBlock ∨ ∃ g, g'.ownBlock = some g ∧ wr.heap.size ≤ g) :
    w2.cell? ⟨pb, po + 1, none⟩ = some G1 ∧ w2.frozen? ⟨pb, po + 1, none⟩ = false ∧ AS w B pb po T cs V G nX X nY' Y' (w2.setCell ⟨pb, po + 1, none⟩ g') (cs'.setIfInBounds (po + 1) g') V1 g' := by
  have hpG : some pb ≠ G1.ownBlock := own_ne h.fg h.hp hT.2
  have hh : w2.heap[pb]? = some (.cells cs' T) := (hk pb (lt_of_heap h.hp) hpG).trans h.hp
  have hlt : po + 1 < cs'.size := (Array.getElem?_eq_some_iff.1 h.c1).1
  have hpg' : ∀ g, g'.ownBlock = some g → g ≠ pb := fun g hg e => own_ne hown hh hT.2 (by rw [← e]; exact hg.symm)
  have hfw : w2.ownsRow B WTy 2 V1 nX X := own_keep h.fw (fun g hg hl => hk g hl (fun e => own_ne2 h.fw h.fg (by decide) (g := g) e.symm hg))
  refine ⟨by rw [Lib.cell_of_heap hh]; exact h.c1, Lib.frozen_of_heap hh _, set_cells hh _ _, by rw [Array.size_setIfInBounds]; exact h.sz, fun i h1 h2 => by rw [Array.getElem?_setIfInBounds_ne (Ne.symm h2)]; exact h.ot i h1 h2, by rw [Array.getElem?_setIfInBounds_ne (by omega)]; exact h.c0, by rw [Array.getElem?_setIfInBounds_self_of_lt hlt], own_keep hfw (fun g hg hl => set_other _ _ _ _ (fun e => own_ne hfw hh hT.1 (by rw [← e]; exact hg.symm))), own_keep hown (fun g hg hl => set_other _ _ _ _ (hpg' g hg)), h.nv, ?_, fun b hl h1 h2 h3 => ?_, by rw [World.size_setCell]; exact Nat.le_trans h.le hs, h.bl.trans (hb.setCell (p := ⟨pb, po + 1, none⟩) hpB _)⟩
  · rcases hat with q | ⟨g, q1, q2⟩
    · rcases h.ng with r | ⟨g, r1, r2⟩
      · exact .inl (q.trans r)
      · exact .inr ⟨g, q.trans r1, r2⟩
    · exact .inr ⟨g, q1, Nat.le_trans h.le q2⟩
  · rw [set_other _ _ _ _ h1, hk b (Nat.lt_of_lt_of_le hl h.le) (fun e => ?_)]
    · exact h.kp b hl h1 h2 h3
    · rcases h.ng with r | ⟨g, r1, r2⟩
      · exact h3 (e.trans r)
      · rw [r1] at e
        injection e with e
        omega
/-- The words are more. -/
theorem AS.putV (hT : T ≠ WTy ∧ T ≠ BTy) (h : AS w B pb po T cs V G nX X nY Y wr cs' V1 G1) (hpB : B ≤ pb) {v' : Value} {nX' : Nat} {X' : List Value} (hown : w2.ownsRow B WTy 2 v' nX' X') (hk : ∀ b, b < wr.heap.size → some b ≠ V1.ownBlock → w2.heap[b]? = wr.heap[b]?) (hs : wr.heap.size ≤ w2.heap.size) (hb : Below B wr w2) (hat : v'.ownBlock = V1.ownBlock ∨ ∃ g, v'.ownBlock = some g ∧ wr.heap.size ≤ g) :
    w2.cell? ⟨pb, po, none⟩ = some V1 ∧ w2.frozen? ⟨pb, po, none⟩ = false ∧ AS w B pb po T cs V G nX' X' nY Y (w2.setCell ⟨pb, po, none⟩ v') (cs'.setIfInBounds po v') v' G1 := by
  have hpV : some pb ≠ V1.ownBlock := own_ne h.fw h.hp hT.1
  have hh : w2.heap[pb]? = some (.cells cs' T) := (hk pb (lt_of_heap h.hp) hpV).trans h.hp
  have hlt : po < cs'.size := (Array.getElem?_eq_some_iff.1 h.c0).1
  have hpv' : ∀ g, v'.ownBlock = some g → g ≠ pb := fun g hg e => own_ne hown hh hT.1 (by rw [← e]; exact hg.symm)
  have hfg : w2.ownsRow B BTy 1 G1 nY Y := own_keep h.fg (fun g hg hl => hk g hl (fun e => own_ne2 h.fg h.fw (by decide) (g := g) e.symm hg))
  refine ⟨by rw [Lib.cell_of_heap hh]; exact h.c0, Lib.frozen_of_heap hh _, set_cells hh _ _, by rw [Array.size_setIfInBounds]; exact h.sz, fun i h1 h2 => by rw [Array.getElem?_setIfInBounds_ne (Ne.symm h1)]; exact h.ot i h1 h2, by rw [Array.getElem?_setIfInBounds_self_of_lt hlt], by rw [Array.getElem?_setIfInBounds_ne (by omega)]; exact h.c1, own_keep hown (fun g hg hl => set_other _ _ _ _ (hpv' g hg)), own_keep hfg (fun g hg hl => set_other _ _ _ _ (fun e => own_ne hfg hh hT.2 (by rw [← e]; exact hg.symm))), ?_, h.ng, fun b hl h1 h2 h3 => ?_, by rw [World.size_setCell]; exact Nat.le_trans h.le hs, h.bl.trans (hb.setCell (p := ⟨pb, po, none⟩) hpB _)⟩
  · rcases hat with q | ⟨g, q1, q2⟩
    · rcases h.nv with r | ⟨g, r1, r2⟩
      · exact .inl (q.trans r)
      · exact .inr ⟨g, q.trans r1, r2⟩
    · exact .inr ⟨g, q1, Nat.le_trans h.le q2⟩
  · rw [set_other _ _ _ _ h1, hk b (Nat.lt_of_lt_of_le hl h.le) (fun e => ?_)]
    · exact h.kp b hl h1 h2 h3
    · rcases h.nv with r | ⟨g, r1, r2⟩
      · exact h2 (e.trans r)
      · rw [r1] at e
        injection e with e
        omega
end
end Go.Proofs.Ythblcfhflkapmaa
