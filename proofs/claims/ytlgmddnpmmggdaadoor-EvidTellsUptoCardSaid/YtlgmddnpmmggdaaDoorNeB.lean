/-
  What is to be told of a type, by the code: Needs.
-/
import Derived.Test.YtlgmddnpmmggdaaDoorNeA
namespace Go.Proofs.YtlgmddnpmmggdaaDoor
open Go.ChangeShapes Go.WideShapes Go.ChangeAt Go.RowKit Go.Sort Go.Maps
set_option linter.unusedVariables false
set_option linter.unusedSimpArgs false

theorem fn_not_nil (fn : Fn) (c : Array Value) (w : World) : (Go.binOp BinOp.eql 52 (.func fn #[] c) .nilFunc).run Tryd.prog w = .ok (.bool false) w := by kernel_rfl
def lackFn (pb : Nat) : Value := .func (.func 14) #[] #[.pointer (some ⟨pb, 0, Option.none⟩)]
/-- Where the telling stands: the result lies in the block q. -/
structure ND (w2 : World) (q : Nat) (N : List (Int × Str)) (v : Value) (wr : World) : Prop where
  c : wr.cell? ⟨q, 0, Option.none⟩ = some v
  f : wr.frozen? ⟨q, 0, Option.none⟩ = false
  own : wr.ownsRow w2.heap.size 43 2 v N.length (nds N)
  b : Below q w2 wr
  blk : ∀ g, g < w2.heap.size → g ≠ q → wr.heap[g]? = w2.heap[g]?
section
variable {w w2 wr w6 : World} {q : Nat} {N : List (Int × Str)} {v v6 : Value}
theorem ND.lt (h : ND w2 q N v wr) : q < wr.heap.size := World.block_lt_of_cell? wr _ h.c
theorem ND.add (h : ND w2 q N v wr) (hq : q < w2.heap.size) {o : Obj} {r : Int} {s : Str} (ho : w6.ownsRow w2.heap.size 43 2 v6 (N.length + 1) (nds N ++ [.int .i64 r, .string (bstr s)])) (hg : (wr.alloc o).grownBy w6 v.ownBlock) :
    ND w2 q (N ++ [(r, s)]) v6 (w6.setCell ⟨q, 0, Option.none⟩ v6) := by
  have hs := h.b.size
  have s1 : (wr.alloc o).heap.size ≤ w6.heap.size := hg.size
  rw [World.size_alloc] at s1
  have key : ∀ g, g < w2.heap.size → w6.heap[g]? = wr.heap[g]? := fun g hg2 =>
    (hg.block g (by rw [World.size_alloc]; omega) (fun e => by have := (h.own.lt g e.symm).1; omega)).trans (Below.heap_alloc wr o g (by omega))
  have c6 : w6.cell? ⟨q, 0, Option.none⟩ = some v := (World.cell?_of_block (a := ⟨q, 0, Option.none⟩) (key q hq)).trans h.c
  have f6 : w6.frozen? ⟨q, 0, Option.none⟩ = false := (World.frozen?_of_block (a := ⟨q, 0, Option.none⟩) (key q hq)).trans h.f
  have g0 : (w6.setCell ⟨q, 0, Option.none⟩ v6).cell? ⟨q, 0, Option.none⟩ = some v6 := World.cell?_setCell_same _ _ _ c6
  have g1 : (w6.setCell ⟨q, 0, Option.none⟩ v6).frozen? ⟨q, 0, Option.none⟩ = false := by rw [World.frozen?_setCell]; exact f6
  have hb : Below q w2 w6 := ⟨hg.os.trans h.b.os, hg.tape.trans h.b.tape, hg.output.trans h.b.output, by omega, fun k hk => (key k (by omega)).trans (h.b.block k hk)⟩
  refine ⟨g0, g1, ?_, ?_, fun g hg1 hg2 => ?_⟩
  · rw [nds_append, List.length_append]
    exact ownsRow_setCell_below ho hq _
  · exact hb.trans ⟨rfl, rfl, rfl, Nat.le_of_eq (World.size_setCell _ _ _).symm, fun k hk => Below.heap_setCell w6 _ _ k (Nat.ne_of_lt hk)⟩
  · exact (Below.heap_setCell w6 _ _ g hg2).trans ((key g hg1).trans (h.blk g hg1 hg2))
theorem ND.far (h : ND w2 q N v wr) (hq : q < w2.heap.size) {o : Obj} (hg : (wr.alloc o).grownBy w6 v.ownBlock) : w6.cell? ⟨q, 0, Option.none⟩ = some v ∧ w6.frozen? ⟨q, 0, Option.none⟩ = false := by
  have hs := h.b.size
  have key : w6.heap[q]? = wr.heap[q]? := (hg.block q (by rw [World.size_alloc]; omega) (fun e => by have := (h.own.lt q e.symm).1; omega)).trans (Below.heap_alloc wr o q (by omega))
  exact ⟨(World.cell?_of_block (a := ⟨q, 0, Option.none⟩) key).trans h.c, (World.frozen?_of_block (a := ⟨q, 0, Option.none⟩) key).trans h.f⟩
end

set_option maxRecDepth 100000 in
set_option maxHeartbeats 1000000 in
theorem needs_no (w0 : World) (t : Ty) (hI : t.In w0) (pb : Nat) (w : World) (hb : Below w0.heap.size w0 w) (hm : (mayF t 0).isSome = false) :
    Calls Tryd.prog 16 #[.agg t.d.arr, lackFn pb] w fun e w' => e = .returned (.slice Option.none 0 0) ∧ Below w.heap.size w w' := by
  have hmf : ∀ (fn : Fn) (first cap : Array Value) (w : World), (Instr.makeFunc fn first cap).run Tryd.prog w = .ok (.func fn first cap) w := fun _ _ _ _ => rfl
  have hnf := fn_not_nil
  unfold lackFn
  have hM := may_any t ((w.alloc (.cells t.d.arr 25)).alloc (.cells #[.slice Option.none 0 0] 28)) (hI.lower (hb.trans (((Below.refl _ _).alloc hb.size _).alloc (by rw [World.size_alloc]; have := hb.size; omega) _)))
  rw [hm] at hM
  have hA1 := (box_at w t.d).lower ((Below.refl _ _).alloc (Nat.le_refl _) (.cells #[.slice Option.none 0 0] 28))
  have hC : ((w.alloc (.cells t.d.arr 25)).alloc (.cells #[.slice Option.none 0 0] 28)).cell? ⟨w.heap.size + 1, 0, Option.none⟩ = some (.slice Option.none 0 0) := by
    have := cell_new (w.alloc (.cells t.d.arr 25)) #[.slice Option.none 0 0] 28 0 (v := .slice Option.none 0 0) rfl (fr := (0, 0))
    rwa [World.size_alloc] at this
  have hB : RowKit.Below w.heap.size w ((w.alloc (.cells t.d.arr 25)).alloc (.cells #[.slice Option.none 0 0] 28)) := ((Below.refl _ _).alloc (Nat.le_refl _) _).alloc (by simp) _
  have hF : ((w.alloc (.cells t.d.arr 25)).alloc (.cells #[.slice Option.none 0 0] 28)).frozen? ⟨w.heap.size + 1, 0, Option.none⟩ = false := by
    have := heap_alloc_new (w.alloc (.cells t.d.arr 25)) (.cells #[.slice Option.none 0 0] 28)
    rw [World.size_alloc] at this
    unfold World.frozen?
    rw [show (⟨w.heap.size + 1, 0, Option.none⟩ : Addr).block = w.heap.size + 1 from rfl, this]
    rfl
  have HM := Lib.hid hM
  have HB := Lib.hid hB
  have HF := Lib.hid (And.intro hC hF)
  clear hM hB hC hF hI hb hm
  obtain ⟨a0, a1, a2, a3, a4⟩ := hA1
  go_enter_defers Tryd.func16, Tryd.ntmps16
  go_wp2_with fail
  refine HM.out.mono ?_
  rintro e w2 ⟨rfl, hb2⟩
  have c2 := cell_below hb2 HF.out.1
  have f2 := (hb2.frozen (p := ⟨w.heap.size + 1, 0, Option.none⟩) (by simp)).trans HF.out.2
  have HB2 := Lib.hid (below_then HB.out hb2)
  have HC2 := Lib.hid c2
  clear hb2 HM HB HF a0 a1 a2 a3 a4
  go_wp2_with fail
  refine leaves_cons (f := 27) (args := #[.pointer (some ⟨w.heap.size + 1, 0, Option.none⟩)]) (by simp) (by simp [go_sem]) ?_
  refine (needCatch_idle ⟨w.heap.size + 1, 0, Option.none⟩ _).mono ?_
  rintro e u' w'' ⟨rfl, rfl, rfl⟩
  have c3 : (w2.setCell ⟨w.heap.size + 1, 0, Option.none⟩ (.slice Option.none 0 0)).cell? ⟨w.heap.size + 1, 0, Option.none⟩ = some (.slice Option.none 0 0) := World.cell?_setCell_same _ _ _ HC2.out
  have hb3 : Below w.heap.size w (w2.setCell ⟨w.heap.size + 1, 0, Option.none⟩ (.slice Option.none 0 0)) := HB2.out.setCell (by simp) _
  simp [Leaves, settle, results, Tryd.results16, go_sem, c3, hb3]
end Go.Proofs.YtlgmddnpmmggdaaDoor
