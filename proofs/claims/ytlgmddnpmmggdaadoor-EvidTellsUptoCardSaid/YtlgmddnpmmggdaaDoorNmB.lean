/-
  Numbers that were met, by the document's answer: how they lie in memory, and how one more is laid to them.
-/
import Derived.Test.YtlgmddnpmmggdaaDoorNmA
import Derived.Test.YtlgmddnpmmggdaaDoorTyF
import Derived.Deep.AppendLies
import Derived.Deep.CutRange
import Derived.Deep.RegionLaw
namespace Go.Proofs.YtlgmddnpmmggdaaDoor
open Go.ChangeShapes Go.WideShapes Go.ChangeAt Go.RowKit Go.Sort
set_option linter.unusedVariables false
set_option linter.unusedSimpArgs false

def addI (l : List Int) (x : Int) : List Int := if x ∈ l then l else l ++ [x]
theorem addI_len (l : List Int) (x : Int) : (addI l x).length ≤ l.length + 1 := by unfold addI; split <;> simp <;> omega
mutual
def meetT : Ty → List Int → List Int → List Int × List Int
  | .mk d l, T, R =>
    let s := meetTs l (if d.kind = 7 then addI T d.n else T) R
    if (d.kind = 4 ∨ d.kind = 5) ∧ 0 ≤ d.tail then (s.1, addI s.2 d.tail) else s
def meetTs : List Ty → List Int → List Int → List Int × List Int
  | [], T, R => (T, R)
  | x :: l, T, R => meetTs l (meetT x T R).1 (meetT x T R).2
end
theorem meetTs_snoc : ∀ (l : List Ty) (x : Ty) (T R : List Int), meetTs (l ++ [x]) T R = meetT x (meetTs l T R).1 (meetTs l T R).2
  | [], x, T, R => by simp [meetTs]
  | y :: l, x, T, R => by simp only [List.cons_append, meetTs]; exact meetTs_snoc l x _ _
mutual
theorem meetT_len : ∀ (t : Ty) (T R : List Int), (meetT t T R).1.length ≤ T.length + t.nodes ∧ (meetT t T R).2.length ≤ R.length + t.nodes
  | .mk d l, T, R => by
    unfold meetT Ty.nodes
    obtain ⟨h1, h2⟩ := meetTs_len l (if d.kind = 7 then addI T d.n else T) R
    have h3 := addI_len T d.n
    have h4 : (if d.kind = 7 then addI T d.n else T).length ≤ T.length + 1 := by split <;> omega
    simp only
    split
    · have h5 := addI_len (meetTs l (if d.kind = 7 then addI T d.n else T) R).2 d.tail
      simp only
      omega
    · omega
theorem meetTs_len : ∀ (l : List Ty) (T R : List Int), (meetTs l T R).1.length ≤ T.length + nodesL l ∧ (meetTs l T R).2.length ≤ R.length + nodesL l
  | [], T, R => by simp [meetTs, nodesL]
  | x :: l, T, R => by
    unfold meetTs nodesL
    obtain ⟨h1, h2⟩ := meetT_len x T R
    obtain ⟨h3, h4⟩ := meetTs_len l (meetT x T R).1 (meetT x T R).2
    omega
end

/-- The numbers that were met lie in the block N, in two rows of their own. -/
structure NM (w : World) (N : Nat) (T R : List Int) (vT vR : Value) : Prop where
  c0 : w.cell? ⟨N, 0, none⟩ = some vT
  c1 : w.cell? ⟨N, 1, none⟩ = some vR
  f0 : w.frozen? ⟨N, 0, none⟩ = false
  f1 : w.frozen? ⟨N, 1, none⟩ = false
  oT : w.ownsRow (N + 1) 3 1 vT T.length (i64s T)
  oR : w.ownsRow (N + 1) 3 1 vR R.length (i64s R)
  ne : ∀ k, vT.ownBlock = some k → vR.ownBlock ≠ some k
/-- A block that is another's. -/
def Oth (N : Nat) (w : World) (vT vR : Value) (g : Nat) : Prop := g < w.heap.size ∧ g ≠ N ∧ some g ≠ vT.ownBlock ∧ some g ≠ vR.ownBlock
structure WN (N : Nat) (w : World) (vT vR : Value) (w' : World) (vT' vR' : Value) : Prop where
  b : Below N w w'
  oth : ∀ g, Oth N w vT vR g → Oth N w' vT' vR' g ∧ w'.heap[g]? = w.heap[g]?
section
variable {N : Nat} {w w1 w2 : World} {T R : List Int} {vT vR vT1 vR1 vT2 vR2 : Value}
theorem NM.lt (h : NM w N T R vT vR) : N < w.heap.size := World.block_lt_of_cell? w _ h.c0
theorem NM.below (h : NM w N T R vT vR) (hb : Below w.heap.size w w1) : NM w1 N T R vT vR :=
  ⟨cell_below hb h.c0, cell_below hb h.c1, (hb.frozen (p := ⟨N, 0, none⟩) h.lt).trans h.f0, (hb.frozen (p := ⟨N, 1, none⟩) h.lt).trans h.f1, own_below h.oT hb, own_below h.oR hb, h.ne⟩
theorem WN.refl : WN N w vT vR w vT vR := ⟨Below.refl _ _, fun g h => ⟨h, rfl⟩⟩
theorem WN.trans (h : WN N w vT vR w1 vT1 vR1) (k : WN N w1 vT1 vR1 w2 vT2 vR2) : WN N w vT vR w2 vT2 vR2 :=
  ⟨h.b.trans k.b, fun g hg => ⟨(k.oth g (h.oth g hg).1).1, (k.oth g (h.oth g hg).1).2.trans (h.oth g hg).2⟩⟩
theorem WN.below (hN : N ≤ w.heap.size) (hb : Below w.heap.size w w1) : WN N w vT vR w1 vT vR :=
  ⟨hb.mono hN, fun g h => ⟨⟨Nat.lt_of_lt_of_le h.1 hb.size, h.2⟩, hb.block g h.1⟩⟩
theorem NM.new (h : NM w N T R vT vR) (o : Obj) : Oth N (w.alloc o) vT vR w.heap.size :=
  ⟨by rw [World.size_alloc]; omega, by have := h.lt; omega, fun e => by have := (h.oT.lt _ e.symm).2; omega, fun e => by have := (h.oR.lt _ e.symm).2; omega⟩
theorem TyD.At.oth {d : TyD} {g : Nat} (h : d.At w g 0) (e : w1.heap[g]? = w.heap[g]?) : d.At w1 g 0 :=
  ⟨(World.cell?_of_block e).trans h.c0, (World.cell?_of_block e).trans h.c1, (World.cell?_of_block e).trans h.c2, (World.cell?_of_block e).trans h.c3, (World.cell?_of_block e).trans h.c4⟩

theorem nm_far (h : NM w N T R vT vR) {v : Value} (hv : v = vT ∨ v = vR) (hg : w.grownBy w1 v.ownBlock) : w1.cell? ⟨N, 0, none⟩ = some vT ∧ w1.cell? ⟨N, 1, none⟩ = some vR ∧ w1.frozen? ⟨N, 0, none⟩ = false ∧ w1.frozen? ⟨N, 1, none⟩ = false := by
  have hne : some N ≠ v.ownBlock := by
    intro e
    rcases hv with rfl | rfl
    · have := (h.oT.lt _ e.symm).1; omega
    · have := (h.oR.lt _ e.symm).1; omega
  have hb := hg.block N h.lt hne
  exact ⟨(World.cell?_of_block (a := ⟨N, 0, none⟩) hb).trans h.c0, (World.cell?_of_block (a := ⟨N, 1, none⟩) hb).trans h.c1, (World.frozen?_of_block (a := ⟨N, 0, none⟩) hb).trans h.f0, (World.frozen?_of_block (a := ⟨N, 1, none⟩) hb).trans h.f1⟩
theorem addr01 : (⟨N, 0, none⟩ : Addr) ≠ ⟨N, 1, none⟩ := by intro h; injection h with _ h _; omega

theorem NM.addT (h : NM w N T R vT vR) {v6 : Value} {w6 : World} {x : Int} (hx : x ∉ T) (ho : w6.ownsRow (N + 1) 3 1 v6 (T.length + 1) (i64s T ++ [.int .i64 x])) (hg : w.grownBy w6 vT.ownBlock) (hat : v6.ownBlock = vT.ownBlock ∨ v6.ownBlock = some w.heap.size) :
    NM (w6.setCell ⟨N, 0, none⟩ v6) N (addI T x) R v6 vR ∧ WN N w vT vR (w6.setCell ⟨N, 0, none⟩ v6) v6 vR := by
  obtain ⟨c0, c1, f0, f1⟩ := nm_far h (.inl rfl) hg
  have e : addI T x = T ++ [x] := by unfold addI; rw [if_neg hx]
  have hR : w6.ownsRow (N + 1) 3 1 vR R.length (i64s R) := h.oR.kept hg (by
    cases hq : vR.ownBlock with
    | none => exact .inl rfl
    | some k => exact .inr fun e => h.ne k e.symm hq)
  have g0 : (w6.setCell ⟨N, 0, none⟩ v6).cell? ⟨N, 0, none⟩ = some v6 := World.cell?_setCell_same _ _ _ c0
  have g1 : (w6.setCell ⟨N, 0, none⟩ v6).cell? ⟨N, 1, none⟩ = some vR := by rw [World.cell?_setCell_other]; exact c1; exact addr01
  have g2 : (w6.setCell ⟨N, 0, none⟩ v6).frozen? ⟨N, 0, none⟩ = false := by rw [World.frozen?_setCell]; exact f0
  have g3 : (w6.setCell ⟨N, 0, none⟩ v6).frozen? ⟨N, 1, none⟩ = false := by rw [World.frozen?_setCell]; exact f1
  have g4 : (w6.setCell ⟨N, 0, none⟩ v6).ownsRow (N + 1) 3 1 vR R.length (i64s R) := ownsRow_setCell_below hR (Nat.lt_succ_self N) _
  refine ⟨⟨g0, g1, g2, g3, ?_, g4, ?_⟩, ⟨?_, ?_⟩⟩
  · rw [e, i64s_append, List.length_append]
    exact ownsRow_setCell_below ho (Nat.lt_succ_self N) _
  · intro k hk hk2
    rcases hat with q | q
    · exact h.ne k (q ▸ hk) hk2
    · rw [q] at hk; injection hk with hk; have := (h.oR.lt _ hk2).2; omega
  · have hb : Below N w w6 := (Below.refl _ _).grown hg (Nat.le_of_lt h.lt) (fun k hk => Nat.le_of_succ_le (h.oT.lt k hk).1)
    exact hb.trans ⟨rfl, rfl, rfl, Nat.le_of_eq (World.size_setCell _ _ _).symm, fun k hk => Below.heap_setCell w6 _ _ k (Nat.ne_of_lt hk)⟩
  · intro g hgo
    have hs := hg.size
    refine ⟨⟨by rw [World.size_setCell]; have := hgo.1; omega, hgo.2.1, ?_, hgo.2.2.2⟩, (Below.heap_setCell w6 _ _ g hgo.2.1).trans (hg.block g hgo.1 hgo.2.2.1)⟩
    rcases hat with q | q
    · rw [q]; exact hgo.2.2.1
    · rw [q]; intro e2; injection e2 with e2; have := hgo.1; omega
theorem NM.addR (h : NM w N T R vT vR) {v6 : Value} {w6 : World} {x : Int} (hx : x ∉ R) (ho : w6.ownsRow (N + 1) 3 1 v6 (R.length + 1) (i64s R ++ [.int .i64 x])) (hg : w.grownBy w6 vR.ownBlock) (hat : v6.ownBlock = vR.ownBlock ∨ v6.ownBlock = some w.heap.size) :
    NM (w6.setCell ⟨N, 1, none⟩ v6) N T (addI R x) vT v6 ∧ WN N w vT vR (w6.setCell ⟨N, 1, none⟩ v6) vT v6 := by
  obtain ⟨c0, c1, f0, f1⟩ := nm_far h (.inr rfl) hg
  have e : addI R x = R ++ [x] := by unfold addI; rw [if_neg hx]
  have hT : w6.ownsRow (N + 1) 3 1 vT T.length (i64s T) := h.oT.kept hg (by
    cases hq : vT.ownBlock with
    | none => exact .inl rfl
    | some k => exact .inr fun e => h.ne k hq e.symm)
  have g0 : (w6.setCell ⟨N, 1, none⟩ v6).cell? ⟨N, 0, none⟩ = some vT := by rw [World.cell?_setCell_other]; exact c0; exact addr01.symm
  have g1 : (w6.setCell ⟨N, 1, none⟩ v6).cell? ⟨N, 1, none⟩ = some v6 := World.cell?_setCell_same _ _ _ c1
  have g2 : (w6.setCell ⟨N, 1, none⟩ v6).frozen? ⟨N, 0, none⟩ = false := by rw [World.frozen?_setCell]; exact f0
  have g3 : (w6.setCell ⟨N, 1, none⟩ v6).frozen? ⟨N, 1, none⟩ = false := by rw [World.frozen?_setCell]; exact f1
  have g4 : (w6.setCell ⟨N, 1, none⟩ v6).ownsRow (N + 1) 3 1 vT T.length (i64s T) := ownsRow_setCell_below hT (Nat.lt_succ_self N) _
  refine ⟨⟨g0, g1, g2, g3, g4, ?_, ?_⟩, ⟨?_, ?_⟩⟩
  · rw [e, i64s_append, List.length_append]
    exact ownsRow_setCell_below ho (Nat.lt_succ_self N) _
  · intro k hk hk2
    rcases hat with q | q
    · exact h.ne k hk (q ▸ hk2)
    · rw [q] at hk2; injection hk2 with hk2; have := (h.oT.lt _ hk).2; omega
  · have hb : Below N w w6 := (Below.refl _ _).grown hg (Nat.le_of_lt h.lt) (fun k hk => Nat.le_of_succ_le (h.oR.lt k hk).1)
    exact hb.trans ⟨rfl, rfl, rfl, Nat.le_of_eq (World.size_setCell _ _ _).symm, fun k hk => Below.heap_setCell w6 _ _ k (Nat.ne_of_lt hk)⟩
  · intro g hgo
    have hs := hg.size
    refine ⟨⟨by rw [World.size_setCell]; have := hgo.1; omega, hgo.2.1, hgo.2.2.1, ?_⟩, (Below.heap_setCell w6 _ _ g hgo.2.1).trans (hg.block g hgo.1 hgo.2.2.2)⟩
    rcases hat with q | q
    · rw [q]; exact hgo.2.2.2
    · rw [q]; intro e2; injection e2 with e2; have := hgo.1; omega

end
/-- 'append' in a region that draws its order, and where the new row lies. -/
theorem step_app {P : Program} {t e : TypeId} {z : Value} {size bytes : Nat} (T : ElemTy P t e z size bytes) (w : World) {ops : Array Oper} {o : Oper} {a : Act} {K : Act → World → Prop} {Q : Exit → Act → World → Prop} {E : Prop} (hgd : o.guard = none) (s x : Operand)
    (ho : o.op = .call { callee := .builtin .append, args := #[s, x], argTypes := #[t, t] }) (base : Nat)
    (v : Value) (n : Nat) (xs : List Value) (hs : a.eval s = v) (hown : w.ownsRow base e size v n xs) (A : Option Addr) (m c : Nat) (news : List Value) (hx : a.eval x = .slice A m c) (hr : Rd w size A m news) (h1 : ∀ u ∈ news, u.oneCell' = true)
    (hbytes : (n + m) * bytes ≤ 140737488355328) (hbase : base ≤ w.heap.size)
    (h : ∀ v' w', w'.ownsRow base e size v' (n + m) (xs ++ news) → w.grownBy w' v.ownBlock → (v'.ownBlock = v.ownBlock ∨ v'.ownBlock = some w.heap.size) → K (a.put o.dst v') w') :
    if Region.wanted o (yielded ops a.tmps) = true then Oper.wp P o a w K Q else E := by
  have hw : Region.wanted o (yielded ops a.tmps) = true := by simp [Region.wanted, hgd]
  rw [if_pos hw]
  obtain ⟨v', w', hrun, h2, h3, h4⟩ := run_app T w o.type base v n xs hown A m c news hr h1 hbytes hbase
  unfold Oper.wp execOp
  simp only [ho, resolve, invoke, builtin, Sem.run_bind, Sem.run_pure, Result.andThen_ok, List.map_toArray, List.map_cons, List.map_nil, hs, hx, hrun]
  exact h v' w' h2 h3 h4

/-- Where the meeting of a type stands: its copy lies in the block g. -/
structure MS (w : World) (d : TyD) (N g : Nat) (vT0 vR0 : Value) (T R : List Int) (vT vR : Value) (wx : World) : Prop where
  nm : NM wx N T R vT vR
  c : d.At wx g 0
  o : Oth N wx vT vR g
  b : WN N w vT0 vR0 wx vT vR
section
variable {w wx wy : World} {d : TyD} {N g : Nat} {vT0 vR0 vT vR vT1 vR1 : Value} {T R T1 R1 : List Int}
theorem MS.start (h : NM w N T R vT vR) : MS w d N w.heap.size vT vR T R vT vR (w.alloc (.cells d.arr 25)) :=
  have hb : Below w.heap.size w (w.alloc (.cells d.arr 25)) := (Below.refl _ _).alloc (Nat.le_refl _) _
  ⟨h.below hb, box_at w d, h.new _, WN.below (Nat.le_of_lt h.lt) hb⟩
theorem MS.below (h : MS w d N g vT0 vR0 T R vT vR wx) (hb : Below wx.heap.size wx wy) : MS w d N g vT0 vR0 T R vT vR wy :=
  have k : WN N wx vT vR wy vT vR := WN.below (Nat.le_of_lt h.nm.lt) hb
  ⟨h.nm.below hb, h.c.oth (k.oth g h.o).2, (k.oth g h.o).1, h.b.trans k⟩
theorem MS.call (h : MS w d N g vT0 vR0 T R vT vR wx) (n : NM wy N T1 R1 vT1 vR1) (k : WN N wx vT vR wy vT1 vR1) : MS w d N g vT0 vR0 T1 R1 vT1 vR1 wy :=
  ⟨n, h.c.oth (k.oth g h.o).2, (k.oth g h.o).1, h.b.trans k⟩
end
theorem one_int (x : Int) : ∀ u ∈ (#[Value.int .i64 x] : Array Value).toList, u.oneCell' = true := by
  intro u hu; simp at hu; subst hu; rfl
end Go.Proofs.YtlgmddnpmmggdaaDoor
