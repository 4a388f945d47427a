/-
  The machine: a value is told.
  The machine: a name's value.
  The machine: an expression that waits.
-/
import Derived.Test.YtpdfjdomjklkbaaGreatDoorK00
import Derived.Deep.RegionLaw
import Derived.Deep.Cut
namespace Go.Proofs.YtpdfjdomjklkbaaGreatDoor
open Go.ChangeShapes Go.WideShapes Go.ChangeAt Go.RowKit Go.Sort
set_option linter.unusedVariables false
set_option linter.unusedSimpArgs false

theorem step_app {P : Program} {t e : TypeId} {z : Value} {size bytes : Nat} (T : ElemTy P t e z size bytes) (w : World) {ops : Array Oper} {o : Oper} {a : Act} {K : Act → World → Prop} {Q : Exit → Act → World → Prop} {E : Prop} (hgd : o.guard = none) (s x : Operand)
    (ho : o.op = .call { callee := .builtin .append, args := #[s, x], argTypes := #[t, t] }) (base : Nat)
    (v : Value) (n : Nat) (xs : List Value) (hs : a.eval s = v) (hown : w.ownsRow base e size v n xs) (A : Option Addr) (m c : Nat) (news : List Value) (hx : a.eval x = .slice A m c) (hr : Rd w size A m news) (h1 : ∀ u ∈ news, u.oneCell' = true)
    (hbytes : (n + m) * bytes ≤ 140737488355328) (hbase : base ≤ w.heap.size)
    (h : ∀ v' w', w'.ownsRow base e size v' (n + m) (xs ++ news) → w.grownBy w' v.ownBlock → (v'.ownBlock = v.ownBlock ∨ v'.ownBlock = some w.heap.size) → K (a.put o.dst v') w') :
    if Region.wanted o (yielded ops a.tmps) = true then Oper.wp P o a w K Q else E := by
  have hw : Region.wanted o (yielded ops a.tmps) = true := by simp [Region.wanted, hgd]
  rw [if_pos hw]
  obtain ⟨v', w', hrun, h2, h3, h4⟩ := run_app T w o.type base v n xs hown A m c news hr h1 hbytes hbase
  unfold Oper.wp execOp
  simp only [ho, resolve, invoke, builtin, Sem.run_bind, Sem.run_pure, Result.andThen_ok, List.map_toArray, List.map_cons, List.map_nil, hs, hx, hrun]
  exact h v' w' h2 h3 h4
abbrev zVal : List Value := [.int .i64 0, .int .i64 0, .string ⟨#[]⟩, .slice none 0 0, .slice none 0 0, .pointer none]
theorem elVal : ElemTy Tryz.prog 57 60 (.agg #[.int .i64 0, .int .i64 0, .string ⟨#[]⟩, .slice none 0 0, .slice none 0 0, .pointer none]) 6 88 :=
  ⟨Tryz.underlying57, by kernel_rfl, rfl, by omega, by omega⟩
theorem zVal_ones : ∀ u ∈ (#[.int .i64 0, .int .i64 0, .string ⟨#[]⟩, .slice none 0 0, .slice none 0 0, .pointer none] : Array Value).toList, u.oneCell' = true := by
  intro u hu
  simp at hu
  rcases hu with rfl | rfl | rfl | rfl | rfl | rfl <;> rfl
theorem set_six (xs : List Value) (z0 z1 z2 z3 z4 z5 a0 a1 a2 a3 a4 a5 : Value) : ((((((xs ++ ([z0, z1, z2, z3, z4, z5] : List Value)).set (xs.length) a0).set (xs.length + 1) a1).set (xs.length + 2) a2).set (xs.length + 3) a3).set (xs.length + 4) a4).set (xs.length + 5) a5 = xs ++ [a0, a1, a2, a3, a4, a5] := by
  rw [List.set_append_right _ _ (by omega), List.set_append_right _ _ (by omega), List.set_append_right _ _ (by omega), List.set_append_right _ _ (by omega), List.set_append_right _ _ (by omega), List.set_append_right _ _ (by omega)]
  simp
/-- Six cells written behind one another. -/
def put6 (w : World) (g o : Nat) (a0 a1 a2 a3 a4 a5 : Value) : World := (((((w.setCell ⟨g, o, none⟩ a0).setCell ⟨g, o + 1, none⟩ a1).setCell ⟨g, o + 2, none⟩ a2).setCell ⟨g, o + 3, none⟩ a3).setCell ⟨g, o + 4, none⟩ a4).setCell ⟨g, o + 5, none⟩ a5
theorem put6_other (w : World) (g o : Nat) (a0 a1 a2 a3 a4 a5 : Value) {b : Nat} (h : b ≠ g) : (put6 w g o a0 a1 a2 a3 a4 a5).heap[b]? = w.heap[b]? := by
  unfold put6
  rw [set_other _ _ _ _ h, set_other _ _ _ _ h, set_other _ _ _ _ h, set_other _ _ _ _ h, set_other _ _ _ _ h, set_other _ _ _ _ h]
theorem put6_size (w : World) (g o : Nat) (a0 a1 a2 a3 a4 a5 : Value) : (put6 w g o a0 a1 a2 a3 a4 a5).heap.size = w.heap.size := by
  unfold put6
  rw [World.size_setCell, World.size_setCell, World.size_setCell, World.size_setCell, World.size_setCell, World.size_setCell]
theorem setCell_os (w : World) (a : Addr) (u : Value) : (w.setCell a u).os = w.os := rfl
theorem setCell_tape (w : World) (a : Addr) (u : Value) : (w.setCell a u).tape = w.tape := rfl
theorem setCell_output (w : World) (a : Addr) (u : Value) : (w.setCell a u).output = w.output := rfl
theorem put6_os (w : World) (g o : Nat) (a0 a1 a2 a3 a4 a5 : Value) : (put6 w g o a0 a1 a2 a3 a4 a5).os = w.os := by
  unfold put6
  rw [setCell_os, setCell_os, setCell_os, setCell_os, setCell_os, setCell_os]
theorem put6_tape (w : World) (g o : Nat) (a0 a1 a2 a3 a4 a5 : Value) : (put6 w g o a0 a1 a2 a3 a4 a5).tape = w.tape := by
  unfold put6
  rw [setCell_tape, setCell_tape, setCell_tape, setCell_tape, setCell_tape, setCell_tape]
theorem put6_output (w : World) (g o : Nat) (a0 a1 a2 a3 a4 a5 : Value) : (put6 w g o a0 a1 a2 a3 a4 a5).output = w.output := by
  unfold put6
  rw [setCell_output, setCell_output, setCell_output, setCell_output, setCell_output, setCell_output]
theorem own_put6 {w : World} {base n g cap : Nat} {e : TypeId} {xs : List Value} {z0 z1 z2 z3 z4 z5 : Value} (h : w.ownsRow base e 6 (.slice (some ⟨g, 0, none⟩) (n + 1) cap) (n + 1) (xs ++ [z0, z1, z2, z3, z4, z5])) (hx : xs.length = n * 6) (a0 a1 a2 a3 a4 a5 : Value) :
    (put6 w g (n * 6) a0 a1 a2 a3 a4 a5).ownsRow base e 6 (.slice (some ⟨g, 0, none⟩) (n + 1) cap) (n + 1) (xs ++ [a0, a1, a2, a3, a4, a5]) := by
  have h6 := own_set (own_set (own_set (own_set (own_set (own_set h (n * 6) (by omega) a0) (n * 6 + 1) (by omega) a1) (n * 6 + 2) (by omega) a2) (n * 6 + 3) (by omega) a3) (n * 6 + 4) (by omega) a4) (n * 6 + 5) (by omega) a5
  rw [← hx, set_six] at h6
  unfold put6
  rw [← hx]
  exact h6
/-- The last element's cells. -/
theorem own_last6 {w : World} {base n g cap : Nat} {e : TypeId} {xs : List Value} {z0 z1 z2 z3 z4 z5 : Value} (h : w.ownsRow base e 6 (.slice (some ⟨g, 0, none⟩) (n + 1) cap) (n + 1) (xs ++ [z0, z1, z2, z3, z4, z5])) (hx : xs.length = n * 6) :
    (w.cell? ⟨g, n * 6, none⟩ = some z0 ∧ w.cell? ⟨g, n * 6 + 1, none⟩ = some z1 ∧ w.cell? ⟨g, n * 6 + 2, none⟩ = some z2 ∧ w.cell? ⟨g, n * 6 + 3, none⟩ = some z3 ∧ w.cell? ⟨g, n * 6 + 4, none⟩ = some z4 ∧ w.cell? ⟨g, n * 6 + 5, none⟩ = some z5) ∧
    (w.frozen? ⟨g, n * 6, none⟩ = false ∧ w.frozen? ⟨g, n * 6 + 1, none⟩ = false ∧ w.frozen? ⟨g, n * 6 + 2, none⟩ = false ∧ w.frozen? ⟨g, n * 6 + 3, none⟩ = false ∧ w.frozen? ⟨g, n * 6 + 4, none⟩ = false ∧ w.frozen? ⟨g, n * 6 + 5, none⟩ = false) := by
  have g0 : (xs ++ [z0, z1, z2, z3, z4, z5])[n * 6]? = some z0 := by rw [List.getElem?_append_right (by omega), hx]; simp
  have g1 : (xs ++ [z0, z1, z2, z3, z4, z5])[n * 6 + 1]? = some z1 := by rw [List.getElem?_append_right (by omega), hx, show n * 6 + 1 - n * 6 = 1 by omega]; rfl
  have g2 : (xs ++ [z0, z1, z2, z3, z4, z5])[n * 6 + 2]? = some z2 := by rw [List.getElem?_append_right (by omega), hx, show n * 6 + 2 - n * 6 = 2 by omega]; rfl
  have g3 : (xs ++ [z0, z1, z2, z3, z4, z5])[n * 6 + 3]? = some z3 := by rw [List.getElem?_append_right (by omega), hx, show n * 6 + 3 - n * 6 = 3 by omega]; rfl
  have g4 : (xs ++ [z0, z1, z2, z3, z4, z5])[n * 6 + 4]? = some z4 := by rw [List.getElem?_append_right (by omega), hx, show n * 6 + 4 - n * 6 = 4 by omega]; rfl
  have g5 : (xs ++ [z0, z1, z2, z3, z4, z5])[n * 6 + 5]? = some z5 := by rw [List.getElem?_append_right (by omega), hx, show n * 6 + 5 - n * 6 = 5 by omega]; rfl
  exact ⟨⟨(own_cell h g0).1, (own_cell h g1).1, (own_cell h g2).1, (own_cell h g3).1, (own_cell h g4).1, (own_cell h g5).1⟩, (own_cell h g0).2, (own_cell h g1).2, (own_cell h g2).2, (own_cell h g3).2, (own_cell h g4).2, (own_cell h g5).2⟩
theorem flat_snoc (css : List (List Value)) (c : List Value) : (css ++ [c]).flatten = css.flatten ++ c := by simp

section
variable {w0 w : World} {B mb : Nat} {s : St} {t i r v f nx nm : Value} {rcs vcs fcs : List (List Value)}
theorem Rep.flatV (h : Rep w0 B mb s w t i r v f nx nm rcs vcs fcs) : vcs.flatten.length = s.vals.length * 6 := h.vr.1
/-- The new row of values stands; how it came to that does not matter. -/
theorem Rep.told (h : Rep w0 B mb s w t i r v f nx nm rcs vcs fcs) (z : Val) {cs : List Value} (hz : VR w0 w (Mv mb t r v f) z cs) {W : World} {v6 : Value} (hk : ∀ b, b < w.heap.size → b ≠ mb → some b ≠ v.ownBlock → W.heap[b]? = w.heap[b]?) (ho : W.os = w.os ∧ W.tape = w.tape ∧ W.output = w.output ∧ w.heap.size ≤ W.heap.size)
    (hd' : W.heap[mb]? = some (.cells (HD s t i r v6 f nx nm) 67)) (hv : W.ownsRow B 60 6 v6 (s.vals.length + 1) (vcs.flatten ++ cs)) (hat : ∀ q, v6.ownBlock = some q → v.ownBlock = some q ∨ w.heap.size ≤ q) :
    Post w0 B mb (Mv mb t r v f) w { s with vals := s.vals ++ [z] } W := by
  have hT : Tr w (Mv mb t r v f) W (Mv mb t r v6 f) := fun b hb hl => by
    refine ⟨⟨hb.1, hb.2.1, hb.2.2.1, ?_, hb.2.2.2.2⟩, hk b hl hb.1 hb.2.2.2.1⟩
    intro e
    rcases hat b e.symm with q | q
    · exact hb.2.2.2.1 q.symm
    · omega
  obtain ⟨h1, h2, h3⟩ := h.vals_ (L' := s.vals ++ [z]) (css' := vcs ++ [cs]) hk ho hd' (by rw [List.length_append, flat_snoc]; exact hv) hat ((h.vl.imp (fun a c => VR.keep hT)).snoc (hz.keep hT))
  exact ⟨_, _, _, _, _, _, _, _, _, _, h1, h2, h3⟩
/-- What stands when the row has grown, ahead of the stores. -/
structure Grew (w0 w : World) (B mb : Nat) (s : St) (t i r v f nx nm : Value) (vcs : List (List Value)) (w1 w6 : World) (v6 : Value) : Prop where
  hk : ∀ b, b < w1.heap.size → some b ≠ v.ownBlock → w6.heap[b]? = w1.heap[b]?
  ho : w6.os = w.os ∧ w6.tape = w.tape ∧ w6.output = w.output ∧ w.heap.size ≤ w6.heap.size
  bl : Below w.heap.size w w1
  own : w6.ownsRow B 60 6 v6 (s.vals.length + 1) (vcs.flatten ++ zVal)
  hat : ∀ q, v6.ownBlock = some q → v.ownBlock = some q ∨ w1.heap.size ≤ q
theorem Rep.grew (h : Rep w0 B mb s w t i r v f nx nm rcs vcs fcs) {w1 w6 : World} {v6 : Value} (hb : Below w.heap.size w w1) (hown : w6.ownsRow B 60 6 v6 (s.vals.length + 1) (vcs.flatten ++ zVal)) (hg : w1.grownBy w6 v.ownBlock) (hat : v6.ownBlock = v.ownBlock ∨ v6.ownBlock = some w1.heap.size) : Grew w0 w B mb s t i r v f nx nm vcs w1 w6 v6 :=
  ⟨fun b hl hne => hg.block b hl hne, ⟨hg.os.trans hb.os, hg.tape.trans hb.tape, hg.output.trans hb.output, Nat.le_trans hb.size hg.size⟩, hb, hown, fun q hq => by
    rcases hat with k | k
    · exact .inl (k ▸ hq)
    · right
      rw [k] at hq
      injection hq with hq
      omega⟩
theorem Rep.vne (h : Rep w0 B mb s w t i r v f nx nm rcs vcs fcs) : some mb ≠ v.ownBlock := fun e => (h.dv mb e.symm).1 rfl
theorem Rep.vlt (h : Rep w0 B mb s w t i r v f nx nm rcs vcs fcs) {b : Nat} (hb : w.heap.size ≤ b) : some b ≠ v.ownBlock := fun e => by have := (h.vr.lt b e.symm).2; omega
theorem Grew.hd (h : Rep w0 B mb s w t i r v f nx nm rcs vcs fcs) {w1 w6 : World} {v6 : Value} (g : Grew w0 w B mb s t i r v f nx nm vcs w1 w6 v6) : w6.heap[mb]? = some (.cells (HD s t i r v f nx nm) 67) :=
  (g.hk mb (Nat.lt_of_lt_of_le h.lt g.bl.size) h.vne).trans ((g.bl.block mb h.lt).trans h.hd)
theorem Grew.ne (h : Rep w0 B mb s w t i r v f nx nm rcs vcs fcs) {w1 w6 : World} {q c : Nat} (g : Grew w0 w B mb s t i r v f nx nm vcs w1 w6 (.slice (some ⟨q, 0, none⟩) (s.vals.length + 1) c)) : q ≠ mb := by
  rcases g.hat q rfl with k | k
  · exact (h.dv q k).1
  · have := h.lt
    have := g.bl.size
    omega
theorem Grew.fin1 (h : Rep w0 B mb s w t i r v f nx nm rcs vcs fcs) {w1 w6 : World} {q c : Nat} (g : Grew w0 w B mb s t i r v f nx nm vcs w1 w6 (.slice (some ⟨q, 0, none⟩) (s.vals.length + 1) c)) (z : Val) {c0 c1 c2 c3 c4 c5 : Value} (hz : VR w0 w (Mv mb t r v f) z [c0, c1, c2, c3, c4, c5]) :
    Post w0 B mb (Mv mb t r v f) w { s with vals := s.vals ++ [z] } ((put6 w6 q (s.vals.length * 6) c0 c1 c2 c3 c4 c5).setCell ⟨mb, 7, none⟩ (.slice (some ⟨q, 0, none⟩) (s.vals.length + 1) c)) := by
  have hne := g.ne h
  refine h.told z hz (v6 := .slice (some ⟨q, 0, none⟩) (s.vals.length + 1) c) (fun b hb h1 h2 => ?_) ⟨by rw [setCell_os, put6_os]; exact g.ho.1, by rw [setCell_tape, put6_tape]; exact g.ho.2.1, by rw [setCell_output, put6_output]; exact g.ho.2.2.1, by rw [World.size_setCell, put6_size]; exact g.ho.2.2.2⟩ ?_ ?_ (fun q' hq => ?_)
  · have hbq : b ≠ q := fun e => by
      subst e
      rcases g.hat b rfl with k | k
      · exact h2 k.symm
      · have := g.bl.size; omega
    rw [set_other _ _ _ _ h1, put6_other _ _ _ _ _ _ _ _ _ hbq, g.hk b (Nat.lt_of_lt_of_le hb g.bl.size) h2, g.bl.block b hb]
  · rw [set_cells (i := 7) ((put6_other _ _ _ _ _ _ _ _ _ (Ne.symm hne)).trans (g.hd h))]
    rfl
  · exact own_keep (own_put6 g.own h.flatV c0 c1 c2 c3 c4 c5) (fun g' hg' _ => set_other _ _ _ _ (by have e : q = g' := Option.some.inj hg'; omega))
  · rcases g.hat q' hq with k | k
    · exact .inl k
    · right; have := g.bl.size; omega
theorem Grew.fin2 (h : Rep w0 B mb s w t i r v f nx nm rcs vcs fcs) {w1 w6 : World} {q c : Nat} (g : Grew w0 w B mb s t i r v f nx nm vcs w1 w6 (.slice (some ⟨q, 0, none⟩) (s.vals.length + 1) c)) (z : Val) {c0 c1 c2 c3 c4 c5 : Value} (hz : VR w0 w (Mv mb t r v f) z [c0, c1, c2, c3, c4, c5]) :
    Post w0 B mb (Mv mb t r v f) w { s with vals := s.vals ++ [z] } (put6 (w6.setCell ⟨mb, 7, none⟩ (.slice (some ⟨q, 0, none⟩) (s.vals.length + 1) c)) q (s.vals.length * 6) c0 c1 c2 c3 c4 c5) := by
  have hne := g.ne h
  refine h.told z hz (v6 := .slice (some ⟨q, 0, none⟩) (s.vals.length + 1) c) (fun b hb h1 h2 => ?_) ⟨by rw [put6_os, setCell_os]; exact g.ho.1, by rw [put6_tape, setCell_tape]; exact g.ho.2.1, by rw [put6_output, setCell_output]; exact g.ho.2.2.1, by rw [put6_size, World.size_setCell]; exact g.ho.2.2.2⟩ ?_ ?_ (fun q' hq => ?_)
  · have hbq : b ≠ q := fun e => by
      subst e
      rcases g.hat b rfl with k | k
      · exact h2 k.symm
      · have := g.bl.size; omega
    rw [put6_other _ _ _ _ _ _ _ _ _ hbq, set_other _ _ _ _ h1, g.hk b (Nat.lt_of_lt_of_le hb g.bl.size) h2, g.bl.block b hb]
  · rw [put6_other _ _ _ _ _ _ _ _ _ (Ne.symm hne), set_cells (i := 7) (g.hd h)]
    rfl
  · exact own_put6 (own_keep g.own (fun g' hg' _ => set_other _ _ _ _ (by have e : q = g' := Option.some.inj hg'; omega))) h.flatV c0 c1 c2 c3 c4 c5
  · rcases g.hat q' hq with k | k
    · exact .inl k
    · right; have := g.bl.size; omega
theorem cells6 {w : World} {g : Nat} {x0 x1 x2 x3 x4 x5 : Value} {T : TypeId} {fr : Nat × Nat} (h : w.heap[g]? = some (.cells #[x0, x1, x2, x3, x4, x5] T fr)) :
    w.cell? ⟨g, 0, none⟩ = some x0 ∧ w.cell? ⟨g, 1, none⟩ = some x1 ∧ w.cell? ⟨g, 2, none⟩ = some x2 ∧ w.cell? ⟨g, 3, none⟩ = some x3 ∧ w.cell? ⟨g, 4, none⟩ = some x4 ∧ w.cell? ⟨g, 5, none⟩ = some x5 := by
  refine ⟨?_, ?_, ?_, ?_, ?_, ?_⟩ <;> (rw [Lib.cell_of_heap h]; rfl)
/-- What the walk reads when the row has grown. -/
theorem Grew.reads (h : Rep w0 B mb s w t i r v f nx nm rcs vcs fcs) {w1 w6 : World} {q c : Nat} (g : Grew w0 w B mb s t i r v f nx nm vcs w1 w6 (.slice (some ⟨q, 0, none⟩) (s.vals.length + 1) c)) (u : Value) {x0 x1 x2 x3 x4 x5 : Value} {T : TypeId} {b : Nat} (hb : w1.heap[b]? = some (.cells #[x0, x1, x2, x3, x4, x5] T)) (hl : w.heap.size ≤ b) (y0 y1 y2 y3 y4 y5 : Value) :
    (w6.cell? ⟨mb, 7, none⟩ = some v ∧ w6.frozen? ⟨mb, 7, none⟩ = false) ∧
    (w6.cell? ⟨b, 0, none⟩ = some x0 ∧ w6.cell? ⟨b, 1, none⟩ = some x1 ∧ w6.cell? ⟨b, 2, none⟩ = some x2 ∧ w6.cell? ⟨b, 3, none⟩ = some x3 ∧ w6.cell? ⟨b, 4, none⟩ = some x4 ∧ w6.cell? ⟨b, 5, none⟩ = some x5) ∧
    ((w6.setCell ⟨mb, 7, none⟩ u).cell? ⟨b, 0, none⟩ = some x0 ∧ (w6.setCell ⟨mb, 7, none⟩ u).cell? ⟨b, 1, none⟩ = some x1 ∧ (w6.setCell ⟨mb, 7, none⟩ u).cell? ⟨b, 2, none⟩ = some x2 ∧ (w6.setCell ⟨mb, 7, none⟩ u).cell? ⟨b, 3, none⟩ = some x3 ∧ (w6.setCell ⟨mb, 7, none⟩ u).cell? ⟨b, 4, none⟩ = some x4 ∧ (w6.setCell ⟨mb, 7, none⟩ u).cell? ⟨b, 5, none⟩ = some x5) ∧
    ((put6 w6 q (s.vals.length * 6) y0 y1 y2 y3 y4 y5).cell? ⟨mb, 7, none⟩ = some v ∧ (put6 w6 q (s.vals.length * 6) y0 y1 y2 y3 y4 y5).frozen? ⟨mb, 7, none⟩ = false) := by
  have hm := g.hd h
  have hb6 : w6.heap[b]? = some (.cells #[x0, x1, x2, x3, x4, x5] T) := (g.hk b (lt_of_heap hb) (h.vlt hl)).trans hb
  have hbm : b ≠ mb := by have := h.lt; omega
  have hp : (put6 w6 q (s.vals.length * 6) y0 y1 y2 y3 y4 y5).heap[mb]? = _ := (put6_other _ _ _ _ _ _ _ _ _ (Ne.symm (g.ne h))).trans hm
  exact ⟨⟨(cells11 hm).2.2.2.2.2.2.2.1, frozenN hm 7⟩, cells6 hb6, cells6 ((set_other _ _ _ _ hbm).trans hb6), (cells11 hp).2.2.2.2.2.2.2.1, frozenN hp 7⟩
set_option maxHeartbeats 4000000 in
theorem tell_any (h : Rep w0 B mb s w t i r v f nx nm rcs vcs fcs) (hn : s.vals.length ≤ 100000000000) (z : Val) {A : Option Addr} {c : Nat} {p : Option Addr} (hz : VR w0 w (Mv mb t r v f) z [.int .i64 z.sort, .int .i64 z.n, .string (bstr z.s), .slice none 0 0, .slice A z.l.length c, .pointer p]) :
    Calls Tryz.prog 41 #[.pointer (some ⟨mb, 0, none⟩), .agg #[.int .i64 z.sort, .int .i64 z.n, .string (bstr z.s), .slice none 0 0, .slice A z.l.length c, .pointer p]] w fun e w' => e = .returned (.tuple #[]) ∧ Post w0 B mb (Mv mb t r v f) w { s with vals := s.vals ++ [z] } w' := by
  obtain ⟨A1, k1, rfl, _⟩ := own_cap h.vr
  have hb1 : Below w.heap.size w (w.alloc (.cells #[.int .i64 z.sort, .int .i64 z.n, .string (bstr z.s), .slice none 0 0, .slice A z.l.length c, .pointer p] 60)) := (Below.refl _ _).alloc (Nat.le_refl _) _
  have hb2 : Below w.heap.size w ((w.alloc (.cells #[.int .i64 z.sort, .int .i64 z.n, .string (bstr z.s), .slice none 0 0, .slice A z.l.length c, .pointer p] 60)).alloc (.cells #[.int .i64 0, .int .i64 0, .string ⟨#[]⟩, .slice none 0 0, .slice none 0 0, .pointer none] 60)) := hb1.alloc (by rw [World.size_alloc]; omega) _
  have hb3 : Below w.heap.size w ((w.alloc (.cells #[.int .i64 z.sort, .int .i64 z.n, .string (bstr z.s), .slice none 0 0, .slice A z.l.length c, .pointer p] 60)).alloc (.cells #[.int .i64 0, .int .i64 0, .string ⟨#[]⟩, .slice none 0 0, .slice none 0 0, .pointer none] 60)).drew := hb2.drew
  have hx1 : (w.alloc (.cells #[.int .i64 z.sort, .int .i64 z.n, .string (bstr z.s), .slice none 0 0, .slice A z.l.length c, .pointer p] 60)).heap[w.heap.size]? = some (.cells #[.int .i64 z.sort, .int .i64 z.n, .string (bstr z.s), .slice none 0 0, .slice A z.l.length c, .pointer p] 60) := heap_new rfl
  have hx2 : ((w.alloc (.cells #[.int .i64 z.sort, .int .i64 z.n, .string (bstr z.s), .slice none 0 0, .slice A z.l.length c, .pointer p] 60)).alloc (.cells #[.int .i64 0, .int .i64 0, .string ⟨#[]⟩, .slice none 0 0, .slice none 0 0, .pointer none] 60)).drew.heap[w.heap.size]? = some (.cells #[.int .i64 z.sort, .int .i64 z.n, .string (bstr z.s), .slice none 0 0, .slice A z.l.length c, .pointer p] 60) := (Below.heap_alloc _ _ _ (by rw [World.size_alloc]; omega)).trans hx1
  have HRD := Lib.hid (show Rd ((w.alloc (.cells #[.int .i64 z.sort, .int .i64 z.n, .string (bstr z.s), .slice none 0 0, .slice A z.l.length c, .pointer p] 60)).alloc (.cells #[.int .i64 0, .int .i64 0, .string ⟨#[]⟩, .slice none 0 0, .slice none 0 0, .pointer none] 60)).drew 6 (some ⟨w.heap.size + 1, 0, none⟩) 1 (#[.int .i64 0, .int .i64 0, .string ⟨#[]⟩, .slice none 0 0, .slice none 0 0, .pointer none] : Array Value).toList from by
    have := (Rd.lit (size := 6) (n := 1) (w.alloc (.cells #[.int .i64 z.sort, .int .i64 z.n, .string (bstr z.s), .slice none 0 0, .slice A z.l.length c, .pointer p] 60)) (#[.int .i64 0, .int .i64 0, .string ⟨#[]⟩, .slice none 0 0, .slice none 0 0, .pointer none] : Array Value) 60 rfl (fr := (0, 0))).drew
    rw [World.size_alloc] at this
    exact this)
  have HOA := Lib.hid (own_below h.vr hb3)
  have HBY := Lib.hid (show (s.vals.length + 1) * 88 ≤ 140737488355328 by omega)
  have HSZ := Lib.hid (show B ≤ ((w.alloc (.cells #[.int .i64 z.sort, .int .i64 z.n, .string (bstr z.s), .slice none 0 0, .slice A z.l.length c, .pointer p] 60)).alloc (.cells #[.int .i64 0, .int .i64 0, .string ⟨#[]⟩, .slice none 0 0, .slice none 0 0, .pointer none] 60)).drew.heap.size by have := h.base.2; have := h.lt; have := hb3.size; omega)
  have HG := Lib.hid (fun (v6 : Value) (w6 : World) a b c => h.grew (v6 := v6) (w6 := w6) hb3 a b c)
  have HH := Lib.hid h
  have HZ := Lib.hid hz
  have HX2 := Lib.hid hx2
  have m1 := (cells11 ((hb1.block mb h.lt).trans h.hd)).2.2.2.2.2.2.2.1
  have m2 := (cells11 ((hb3.block mb h.lt).trans h.hd)).2.2.2.2.2.2.2.1
  obtain ⟨a0, a1, a2, a3, a4, a5⟩ := cells6 hx1
  obtain ⟨b0, b1, b2, b3, b4, b5⟩ := cells6 hx2
  have n0 : (0 : Int) ≤ (s.vals.length : Int) := by omega
  have n1 : (s.vals.length : Int) < (s.vals.length : Int) + 1 := by omega
  have n2 : (s.vals.length : Int) ≤ 100000000000 := by omega
  clear h hz hb1 hb2 hb3 hx1 hx2 hn
  go_enter Tryz.func41, Tryz.ntmps41
  go_upto_region 1 with fail
  go_region_law ((refine step_app elVal (((w.alloc (.cells #[.int .i64 z.sort, .int .i64 z.n, .string (bstr z.s), .slice none 0 0, .slice A z.l.length c, .pointer p] 60)).alloc (.cells #[.int .i64 0, .int .i64 0, .string ⟨#[]⟩, .slice none 0 0, .slice none 0 0, .pointer none] 60)).drew) (by rfl) (.tmp 7) (.tmp 10) (by rfl) B (.slice A1 s.vals.length k1) s.vals.length _ (by rfl) HOA.out (some ⟨w.heap.size + 1, 0, none⟩) 1 1 _ (by rfl) HRD.out zVal_ones HBY.out HSZ.out ?_; intro v6 w6 hown6 hg6 hat6; obtain ⟨q6, c6, rfl⟩ := own_some hown6; have HG6 := Lib.hid (HG.out _ _ hown6 hg6 hat6); obtain ⟨⟨e7, f7⟩, ⟨x0, x1, x2, x3, x4, x5⟩, ⟨y0, y1, y2, y3, y4, y5⟩, p7, r7⟩ := HG6.out.reads HH.out (.slice (some ⟨q6, 0, none⟩) (s.vals.length + 1) c6) HX2.out (Nat.le_refl _) (.int .i64 z.sort) (.int .i64 z.n) (.string (bstr z.s)) (.slice none 0 0) (.slice A z.l.length c) (.pointer p); unfold put6 at p7 r7; obtain ⟨⟨g0, g1, g2, g3, g4, g5⟩, ⟨z0, z1, z2, z3, z4, z5⟩⟩ := own_last6 hown6 HH.out.flatV; have hownV := own_keep (w' := w6.setCell ⟨mb, 7, none⟩ (.slice (some ⟨q6, 0, none⟩) (s.vals.length + 1) c6)) hown6 (fun g' hg' _ => set_other _ _ _ _ (by have e : q6 = g' := Option.some.inj hg'; have := HG6.out.ne HH.out; omega)); obtain ⟨⟨g0', g1', g2', g3', g4', g5'⟩, ⟨z0', z1', z2', z3', z4', z5'⟩⟩ := own_last6 hownV HH.out.flatV; have HF1 := Lib.hid (HG6.out.fin1 HH.out z HZ.out); have HF2 := Lib.hid (HG6.out.fin2 HH.out z HZ.out); unfold put6 at HF1 HF2; clear hown6 hg6 hat6 hownV))
  · go_wp2_with fail
    go_returns
    with_reducible exact ⟨rfl, HF1.out⟩
  · go_wp2_with fail
    go_returns
    with_reducible exact ⟨rfl, HF2.out⟩
  · go_wp2_with fail
    go_returns
    with_reducible exact ⟨rfl, HF1.out⟩
  · go_wp2_with fail
    go_returns
    with_reducible exact ⟨rfl, HF2.out⟩
  · go_wp2_with fail
    go_returns
    with_reducible exact ⟨rfl, HF1.out⟩
  · go_wp2_with fail
    go_returns
    with_reducible exact ⟨rfl, HF2.out⟩
  · go_wp2_with fail
    go_returns
    with_reducible exact ⟨rfl, HF1.out⟩
  · go_wp2_with fail
    go_returns
    with_reducible exact ⟨rfl, HF2.out⟩
  · go_wp2_with fail
    go_returns
    with_reducible exact ⟨rfl, HF1.out⟩
  · go_wp2_with fail
    go_returns
    with_reducible exact ⟨rfl, HF2.out⟩
  · go_wp2_with fail
    go_returns
    with_reducible exact ⟨rfl, HF1.out⟩
  · go_wp2_with fail
    go_returns
    with_reducible exact ⟨rfl, HF2.out⟩
end
end Go.Proofs.YtpdfjdomjklkbaaGreatDoor

namespace Go.Proofs.YtpdfjdomjklkbaaGreatDoor
open Go.ChangeShapes Go.WideShapes Go.ChangeAt Go.RowKit Go.Sort
set_option linter.unusedVariables false
set_option linter.unusedSimpArgs false

/-! ### How far it is to the end of the names -/
theorem ER.len_eq {w0 w : World} {P : Nat → Prop} {e1 e2 : Env} {u : Value} (h1 : ER w0 w P e1 u) (h2 : ER w0 w P e2 u) : e1.length = e2.length := by
  induction e1 generalizing e2 u with
  | nil => cases h1; cases h2; rfl
  | cons x e1 ih =>
    cases h1 with
    | cons y v e'' b c0 c1 c2 c3 c4 c5 u hb bl hv hr =>
      cases h2 with
      | cons y' v' e' b' d0 d1 d2 d3 d4 d5 u' hb' bl' hv' hr' =>
        rw [hb] at hb'
        injection hb' with hb'
        injection hb' with hb'
        injection hb' with hb'
        simp only [List.cons.injEq] at hb'
        obtain rfl : u = u' := hb'.2.2.2.2.2.2.2.1
        simp only [List.length_cons, ih hr hr']
open Classical in
noncomputable def envMu (w0 w : World) (P : Nat → Prop) (u : Value) : Nat := if h : ∃ e, ER w0 w P e u then (Classical.choose h).length else 0
theorem envMu_eq {w0 w : World} {P : Nat → Prop} {e : Env} {u : Value} (h : ER w0 w P e u) : envMu w0 w P u = e.length := by
  unfold envMu
  rw [dif_pos ⟨e, h⟩]
  exact ER.len_eq (Classical.choose_spec (⟨e, h⟩ : ∃ e, ER w0 w P e u)) h
def St.name (s : St) (x : Str) : Env → St
  | [] => { s with err := 11 }
  | (y, v) :: e => if y = x then { s with vals := s.vals ++ [v] } else s.name x e
theorem cells8 {w : World} {g : Nat} {x0 x1 x2 x3 x4 x5 x6 x7 : Value} {T : TypeId} {fr : Nat × Nat} (h : w.heap[g]? = some (.cells #[x0, x1, x2, x3, x4, x5, x6, x7] T fr)) :
    w.cell? ⟨g, 0, none⟩ = some x0 ∧ w.cell? ⟨g, 1, none⟩ = some x1 ∧ w.cell? ⟨g, 2, none⟩ = some x2 ∧ w.cell? ⟨g, 3, none⟩ = some x3 ∧ w.cell? ⟨g, 4, none⟩ = some x4 ∧ w.cell? ⟨g, 5, none⟩ = some x5 ∧ w.cell? ⟨g, 6, none⟩ = some x6 ∧ w.cell? ⟨g, 7, none⟩ = some x7 := by
  refine ⟨?_, ?_, ?_, ?_, ?_, ?_, ?_, ?_⟩ <;> (rw [Lib.cell_of_heap h]; rfl)
section
variable {w0 w : World} {B mb : Nat} {s : St} {t i r v f nx nm : Value} {rcs vcs fcs : List (List Value)}
set_option maxHeartbeats 4000000 in
theorem name_any (h : Rep w0 B mb s w t i r v f nx nm rcs vcs fcs) (hn : s.vals.length ≤ 100000000000) (x : Str) (env : Env) (u : Value) (he : ER w0 w (Mv mb t r v f) env u) :
    Calls Tryz.prog 42 #[.pointer (some ⟨mb, 0, none⟩), .string (bstr x), u] w fun e w' => e = .returned (.tuple #[]) ∧ Post w0 B mb (Mv mb t r v f) w (s.name x env) w' := by
  have HH := Lib.hid h
  have HN := Lib.hid hn
  have HE := Lib.hid he
  obtain ⟨p, rfl⟩ := he.ptr
  have HBM := Lib.hid (fun (wr : World) (hb : Below w.heap.size w wr) => And.intro (Tr.below (P := Mv mb t r v f) hb) (hb.mono (Nat.le_of_lt (Nat.lt_of_le_of_lt h.base.2 h.lt))))
  clear h hn he
  go_enter Tryz.func42, Tryz.ntmps42
  go_wp2_with fail
  go_loopw [6] (fun k wr => ∃ (q : Option Addr) (e : Env), k = .pointer q ∧ ER w0 w (Mv mb t r v f) e k ∧ s.name x env = s.name x e ∧ Below w.heap.size w wr) (fun k _ => envMu w0 w (Mv mb t r v f) k)
  case atStart => exact ⟨_, env, rfl, HE.out, rfl, Below.refl _ _⟩
  case round =>
    obtain ⟨q, e, rfl, her, hes, hb⟩ := hrel
    have HB := Lib.hid hb
    cases e with
    | nil =>
      cases her
      have HC := Lib.hid (stuck_any (HH.out.below hb))
      have HES := Lib.hid (show s.name x env = { s with err := 11 } from hes)
      clear hb hes
      go_wp2_with (go_at_call 40; (with_reducible refine HC.out.mono ?_); rintro e1 w1 ⟨rfl, hp⟩; have HP := Lib.hid hp; clear hp HC)
      go_returns
      rw [HES.out]
      exact ⟨rfl, HP.out.mono (HBM.out _ HB.out).1 (HBM.out _ HB.out).2⟩
    | cons yv e =>
      have HER := Lib.hid her
      cases her with
      | cons y z e b c0 c1 c2 c3 c4 c5 u hcb bl hv hr =>
        obtain ⟨A6, k6, q6, e6⟩ := hv.six
        simp only [List.cons.injEq, and_true] at e6
        obtain ⟨rfl, rfl, rfl, rfl, rfl, rfl⟩ := e6
        obtain ⟨q', rfl⟩ := hr.ptr
        obtain ⟨k0, k1, k2, k3, k4, k5, k6', k7⟩ := cells8 ((hb.block b (lt_of_heap hcb)).trans hcb)
        by_cases hxy : y = x
        · subst hxy
          have HC := Lib.hid (tell_any (HH.out.below hb) HN.out z (hv.keep (Tr.below hb)))
          have HES := Lib.hid (show s.name y env = { s with vals := s.vals ++ [z] } by rw [hes]; unfold St.name; rw [if_pos rfl])
          clear hb hes HER hcb bl hv hr
          go_wp2_with (go_at_call 41; (with_reducible refine HC.out.mono ?_); rintro e1 w1 ⟨rfl, hp⟩; have HP := Lib.hid hp; clear hp HC)
          go_returns
          rw [HES.out]
          exact ⟨rfl, HP.out.mono (HBM.out _ HB.out).1 (HBM.out _ HB.out).2⟩
        · have hne : ((bstr y).toList == (bstr x).toList) = false := by rw [bstr_toList, bstr_toList]; simpa using hxy
          have HES := Lib.hid (show s.name x env = s.name x e by rw [hes]; conv => lhs; unfold St.name; rw [if_neg hxy])
          have HR := Lib.hid hr
          have HMU := Lib.hid (show envMu w0 w (Mv mb t r v f) (.pointer q') < envMu w0 w (Mv mb t r v f) (.pointer (some ⟨b, 0, none⟩)) by rw [envMu_eq hr, envMu_eq HER.out, List.length_cons]; omega)
          clear hb hes HER hcb bl hv hr hxy
          go_wp2_with fail
          go_roundw
          case rel => exact ⟨_, e, rfl, HR.out, HES.out, HB.out⟩
          case measure => exact HMU.out
end
end Go.Proofs.YtpdfjdomjklkbaaGreatDoor

namespace Go.Proofs.YtpdfjdomjklkbaaGreatDoor
open Go.ChangeShapes Go.WideShapes Go.ChangeAt Go.RowKit Go.Sort
set_option linter.unusedVariables false
set_option linter.unusedSimpArgs false

theorem elFrm : ElemTy Tryz.prog 64 77 (.agg #[.pointer none, .pointer none, .int .i64 0]) 3 24 :=
  ⟨Tryz.underlying64, by kernel_rfl, rfl, by omega, by omega⟩
theorem frm_ones (a b : Option Addr) (n : Int) : ∀ u ∈ (#[.pointer a, .pointer b, .int .i64 n] : Array Value).toList, u.oneCell' = true := by
  intro u hu
  simp at hu
  rcases hu with rfl | rfl | rfl <;> rfl
section
variable {w0 w : World} {B mb : Nat} {s : St} {t i r v f nx nm : Value} {rcs vcs fcs : List (List Value)}
theorem Rep.fne (h : Rep w0 B mb s w t i r v f nx nm rcs vcs fcs) : some mb ≠ f.ownBlock := fun e => h.df mb e.symm rfl
/-- The row of frames has grown. -/
theorem Rep.waits (h : Rep w0 B mb s w t i r v f nx nm rcs vcs fcs) (x : Frm) {cs : List Value} (hx : FrR w0 w (Mv mb t r v f) x cs) {w1 w6 : World} {v6 : Value} (hb : Below w.heap.size w w1) (hown : w6.ownsRow B 77 3 v6 (s.frames.length + 1) (fcs.flatten ++ cs)) (hg : w1.grownBy w6 f.ownBlock) (hat : v6.ownBlock = f.ownBlock ∨ v6.ownBlock = some w1.heap.size) :
    (w6.cell? ⟨mb, 8, none⟩ = some f ∧ w6.frozen? ⟨mb, 8, none⟩ = false) ∧ Post w0 B mb (Mv mb t r v f) w { s with frames := s.frames ++ [x] } (w6.setCell ⟨mb, 8, none⟩ v6) := by
  have hm : w6.heap[mb]? = _ := (hg.block mb (Nat.lt_of_lt_of_le h.lt hb.size) h.fne).trans ((hb.block mb h.lt).trans h.hd)
  have hat' : ∀ q, v6.ownBlock = some q → f.ownBlock = some q ∨ w.heap.size ≤ q := fun q hq => by
    rcases hat with k | k
    · exact .inl (k ▸ hq)
    · right
      rw [k] at hq
      injection hq with hq
      have := hb.size
      omega
  have hne : ∀ g, v6.ownBlock = some g → g ≠ mb := fun g hq => by
    rcases hat' g hq with k | k
    · exact h.df g k
    · have := h.lt; omega
  have hk : ∀ b, b < w.heap.size → b ≠ mb → some b ≠ f.ownBlock → (w6.setCell ⟨mb, 8, none⟩ v6).heap[b]? = w.heap[b]? := fun b h1 h2 h3 =>
    (set_other _ _ _ _ h2).trans ((hg.block b (Nat.lt_of_lt_of_le h1 hb.size) h3).trans (hb.block b h1))
  have hT : Tr w (Mv mb t r v f) (w6.setCell ⟨mb, 8, none⟩ v6) (Mv mb t r v v6) := fun b hb hl => by
    refine ⟨⟨hb.1, hb.2.1, hb.2.2.1, hb.2.2.2.1, ?_⟩, hk b hl hb.1 hb.2.2.2.2⟩
    intro e
    rcases hat' b e.symm with q | q
    · exact hb.2.2.2.2 q.symm
    · omega
  refine ⟨⟨(cells11 hm).2.2.2.2.2.2.2.2.1, frozenN hm 8⟩, ?_⟩
  obtain ⟨h1, h2, h3⟩ := h.frames_ (L' := s.frames ++ [x]) (css' := fcs ++ [cs]) (x' := v6) hk ⟨hg.os.trans hb.os, hg.tape.trans hb.tape, hg.output.trans hb.output, by rw [World.size_setCell]; exact Nat.le_trans hb.size hg.size⟩ (set_cells hm 8 v6) (by
    rw [List.length_append, flat_snoc]
    exact own_keep hown (fun g hg _ => set_other _ _ _ _ (hne g hg))) hat' ((h.fl.imp (fun a c => FrR.keep hT)).snoc (hx.keep hT))
  exact ⟨_, _, _, _, _, _, _, _, _, _, h1, h2, h3⟩

set_option maxHeartbeats 4000000 in
theorem wait_any (h : Rep w0 B mb s w t i r v f nx nm rcs vcs fcs) (hn : s.vals.length ≤ 100000000000) (hf : s.frames.length ≤ 100000000000) (e : Ex) (env : Env) (eb eo : Nat) (u : Option Addr) (he : EN w0 w (Mv mb t r v f) e env eb eo (.pointer u)) :
    Calls Tryz.prog 47 #[.pointer (some ⟨mb, 0, none⟩), .pointer (some ⟨eb, eo, none⟩), .pointer u] w fun e1 w' => e1 = .returned (.tuple #[]) ∧ Post w0 B mb (Mv mb t r v f) w { s with frames := s.frames ++ [⟨e, env, s.vals.length⟩] } w' := by
  obtain ⟨A0, k0, rfl, _⟩ := own_cap h.vr
  obtain ⟨A1, k1, rfl, _⟩ := own_cap h.fr
  have hb1 : Below w.heap.size w (w.alloc (.cells #[.pointer (some ⟨eb, eo, none⟩), .pointer u, .int .i64 s.vals.length] 77)) := (Below.refl _ _).alloc (Nat.le_refl _) _
  have hb3 := hb1.drew
  have HRD := Lib.hid (show Rd (w.alloc (.cells #[.pointer (some ⟨eb, eo, none⟩), .pointer u, .int .i64 s.vals.length] 77)).drew 3 (some ⟨w.heap.size, 0, none⟩) 1 (#[.pointer (some ⟨eb, eo, none⟩), .pointer u, .int .i64 s.vals.length] : Array Value).toList from
    (Rd.lit (size := 3) (n := 1) w (#[.pointer (some ⟨eb, eo, none⟩), .pointer u, .int .i64 s.vals.length] : Array Value) 77 rfl (fr := (0, 0))).drew)
  have HOA := Lib.hid (own_below h.fr hb3)
  have HBY := Lib.hid (show (s.frames.length + 1) * 24 ≤ 140737488355328 by omega)
  have HSZ := Lib.hid (show B ≤ (w.alloc (.cells #[.pointer (some ⟨eb, eo, none⟩), .pointer u, .int .i64 s.vals.length] 77)).drew.heap.size by have := h.base.2; have := h.lt; have := hb3.size; omega)
  have hfr : FrR w0 w (Mv mb t r (.slice A0 s.vals.length k0) (.slice A1 s.frames.length k1)) ⟨e, env, s.vals.length⟩ (#[.pointer (some ⟨eb, eo, none⟩), .pointer u, .int .i64 s.vals.length] : Array Value).toList := ⟨eb, eo, _, rfl, he.1, he.2⟩
  have HG := Lib.hid (fun (v6 : Value) (w6 : World) a b c => h.waits ⟨e, env, s.vals.length⟩ hfr (v6 := v6) (w6 := w6) hb3 a b c)
  have m7 := (cells11 h.hd).2.2.2.2.2.2.2.1
  have m8 := (cells11 h.hd).2.2.2.2.2.2.2.2.1
  have n7 := (cells11 ((hb3.block mb h.lt).trans h.hd)).2.2.2.2.2.2.2.1
  have n8 := (cells11 ((hb3.block mb h.lt).trans h.hd)).2.2.2.2.2.2.2.2.1
  clear h hb1 hb3 he hfr hn hf
  go_enter Tryz.func47, Tryz.ntmps47
  go_upto_region 0 with fail
  go_region_law ((refine step_app elFrm ((w.alloc (.cells #[.pointer (some ⟨eb, eo, none⟩), .pointer u, .int .i64 s.vals.length] 77)).drew) (by rfl) (.tmp 10) (.tmp 19) (by rfl) B (.slice A1 s.frames.length k1) s.frames.length _ (by rfl) HOA.out (some ⟨w.heap.size, 0, none⟩) 1 1 _ (by rfl) HRD.out (frm_ones _ _ _) HBY.out HSZ.out ?_; intro v6 w6 hown6 hg6 hat6; obtain ⟨q6, c6, rfl⟩ := own_some hown6; obtain ⟨⟨e8, f8⟩, hp⟩ := HG.out _ _ hown6 hg6 hat6; have HP := Lib.hid hp; clear hown6 hg6 hat6 hp))
  all_goals
    go_wp2_with fail
    go_returns
    with_reducible exact ⟨rfl, HP.out⟩
end
end Go.Proofs.YtpdfjdomjklkbaaGreatDoor
