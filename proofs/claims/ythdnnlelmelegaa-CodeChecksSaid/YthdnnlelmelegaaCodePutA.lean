/-
  An image's bytes, by the document's answer: the builder.
-/
import Derived.Test.YthdnnlelmelegaaCodeR
import Derived.Deep.RegionHeld3
import Derived.Deep.DrawnRows
namespace Go.Proofs.Ythdnnlelmelegaa
open Go.ChangeShapes Go.WideShapes Go.ChangeAt Go.RowKit
set_option linter.unusedVariables false
attribute [local go_sem ↓] Go.wp_at_zero Go.wp_at_succ

/-- The append of a text, at a step of a region that draws its order. -/
theorem step_append_str {P : Program} {w : World} {ops : Array Oper} {o : Oper} {a : Act} {K : Act → World → Prop} {Q : Exit → Act → World → Prop} {E : Prop} (hgd : o.guard = none) (sl x : Operand) (t u : TypeId)
    (ho : o.op = .call { callee := .builtin .append, args := #[sl, x], argTypes := #[t, u] })
    (base : Nat) (e : TypeId) (i : TypeInfo) (ht : P.underlying t = some (.slice e)) (hu : P.underlying u = some .string) (hi : P.info? e = some i) (hz : i.zero = some (.int .u8 0))
    (hsize : i.size = 1) (hby : i.bytes = 1)
    (v : Value) (n : Nat) (xs : List Value) (hs : a.eval sl = v) (hown : w.ownsRow base e 1 v n xs) (s : Str) (hx : a.eval x = .string (bstr s))
    (h63 : n + (bstr s).size ≤ maxLen) (hbytes : n + (bstr s).size ≤ 140737488355328) (hbase : base ≤ w.heap.size)
    (h : ∀ v' w', w'.ownsRow base e 1 v' (n + (bstr s).size) (xs ++ Lib.strCells (bstr s)) → w.grownBy w' v.ownBlock → K (a.put o.dst v') w') :
    if Region.wanted o (yielded ops a.tmps) = true then Oper.wp P o a w K Q else E := by
  have hw : Region.wanted o (yielded ops a.tmps) = true := by simp [Region.wanted, hgd]
  rw [if_pos hw]
  obtain ⟨v', w', hr, h2, h3, h4⟩ := Lib.run_append_own_string (P := P) w base t u o.type e i ht hu hi hz hsize hby v n xs hown (bstr s) h63 hbytes hbase
  unfold Oper.wp execOp
  simp only [ho, resolve, invoke, builtin, Sem.run_bind, Sem.run_pure, Result.andThen_ok, List.map_toArray, List.map_cons, List.map_nil, hs, hx, hr]
  exact h v' w' h2 h3

/-- What 'number' of the document's answer turns. -/
theorem refNum_any (B : Nat) (v : Value) (bs : List UInt8) (n : Int) (w : World) (hr : inRange n) (hown : w.ownsRow B 5 1 v bs.length (u8s bs)) (hB : B ≤ w.heap.size) (hb : bs.length ≤ 1099511627776) :
    Calls Try.prog 24 #[v, .int .i64 n] w fun e w' => ∃ v', e = .returned v' ∧ w'.ownsRow B 5 1 v' (bs ++ num n).length (u8s (bs ++ num n)) ∧ Below B w w' := by
  refine (refNumber_any B v bs n w hr hown hB hb).mono ?_
  rintro e w' ⟨v', rfl, h1, h2⟩
  exact ⟨v', rfl, h1, h2.below hB (fun k e => by cases e) (fun k e => (hown.lt k e).1)⟩
/-- Where the writing stands. -/
def RPut (W : World) (bs : List UInt8) (v : Value) (wr : World) : Prop := wr.ownsRow W.heap.size 5 1 v bs.length (u8s bs) ∧ Below W.heap.size W wr
theorem RPut.size {W : World} {bs : List UInt8} {v : Value} {wr : World} (h : RPut W bs v wr) : W.heap.size ≤ wr.heap.size := h.2.size
theorem rput_num {W : World} {bs : List UInt8} {v : Value} {wr : World} (n : Int) (hr : inRange n) (h : RPut W bs v wr) (hb : bs.length ≤ 1099511627776) :
    Calls Try.prog 24 #[v, .int .i64 n] wr fun e w' => ∃ v', e = .returned v' ∧ RPut W (bs ++ num n) v' w' := by
  refine (refNum_any W.heap.size v bs n wr hr h.1 h.2.size hb).mono ?_
  rintro e w' ⟨v', rfl, h1, h2⟩
  exact ⟨v', rfl, h1, h.2.trans h2⟩
theorem rput_numK {W : World} {bs : List UInt8} {v : Value} {wr : World} (n : Int) (hr : inRange n) (h : RPut W bs v wr) (hb : bs.length ≤ 1099511627776) :
    Calls Try.prog 24 #[v, .int .i64 n] wr fun e w' => ∃ v', e = .returned v' ∧ RPut W (bs ++ num n) v' w' ∧ WK none wr v w' v' := by
  refine (refNumber_any W.heap.size v bs n wr hr h.1 h.2.size hb).mono ?_
  rintro e w' ⟨v', rfl, h1, h2⟩
  exact ⟨v', rfl, ⟨h1, h.2.trans (h2.below h.2.size (fun k e => by cases e) (fun k e => (h.1.lt k e).1))⟩, h2⟩
theorem RPut.alloc {W : World} {bs : List UInt8} {v : Value} {wr : World} (h : RPut W bs v wr) (o : Obj) : RPut W bs v (wr.alloc o) := ⟨h.1.alloc _, h.2.alloc h.2.size _⟩
/-- A copy's block lies as it lay. -/
structure Kp (wa : World) (g : Nat) (v : Value) (wr : World) : Prop where
  lt : g < wr.heap.size
  ne : some g ≠ v.ownBlock
  eq : wr.heap[g]? = wa.heap[g]?
theorem Kp.wk {wa : World} {g : Nat} {v v' : Value} {wr w' : World} (h : Kp wa g v wr) (k : WK none wr v w' v') : Kp wa g v' w' :=
  ⟨Nat.lt_of_lt_of_le h.lt k.size, by
    rcases k.own with e | ⟨q, e, hq⟩
    · rw [e]; exact h.ne
    · rw [e]; intro h'; injection h' with h'; have := h.lt; omega, (k.block g h.lt (by simp) h.ne).trans h.eq⟩
theorem Kp.alloc {wa : World} {g : Nat} {v : Value} {wr : World} (h : Kp wa g v wr) (o : Obj) : Kp wa g v (wr.alloc o) :=
  ⟨by rw [World.size_alloc]; have := h.lt; omega, h.ne, (Below.heap_alloc wr o g h.lt).trans h.eq⟩
theorem Kp.new {W : World} {bs : List UInt8} {v : Value} {wr : World} (h : RPut W bs v wr) (o : Obj) : Kp (wr.alloc o) wr.heap.size v (wr.alloc o) :=
  ⟨by rw [World.size_alloc]; omega, fun e => by have := (h.1.lt _ e.symm).2; omega, rfl⟩
theorem Kp.cell {wa : World} {g : Nat} {v : Value} {wr : World} (h : Kp wa g v wr) {j : Nat} {u : Value} (hc : wa.cell? ⟨g, j, none⟩ = some u) : wr.cell? ⟨g, j, none⟩ = some u :=
  (World.cell?_of_block h.eq).trans hc
theorem rput_str {W : World} {bs : List UInt8} {v v' : Value} {wr w' : World} {s : Str} (h : RPut W bs v wr) (h1 : w'.ownsRow W.heap.size 5 1 v' (bs.length + (bstr s).size) (u8s bs ++ Lib.strCells (bstr s))) (hg : wr.grownBy w' v.ownBlock) : RPut W (bs ++ s) v' w' :=
  ⟨str_row h1, h.2.trans (below_of_grown hg h.2.size (fun k e => (h.1.lt k e).1))⟩
end Go.Proofs.Ythdnnlelmelegaa
