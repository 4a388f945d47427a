/-
  Small lemmas on worlds that every text of this seat uses. Plain, about no program.
-/
import Derived.Test.YtjhkblaplfhfcaaRows
import Derived.WalkKit
import Derived.ProofKit
import Derived.OpenShut
import Derived.Handy
import Derived.Lib.Hide
import Derived.Deep.QuietTactic
import Derived.Deep.Draws
import Derived.BigQuiet
import Derived.LaidEql
namespace Go.Proofs.Ytjhkblaplfhfcaa
open Go.ChangeShapes Go.WideShapes Go.ChangeAt Go.RowKit
set_option linter.unusedVariables false

theorem below_drewN {B : Nat} {a w : World} (h : Below B a w) (n : Nat) : Below B a (w.drewN n) := ⟨h.os, h.tape, h.output, h.size, h.block⟩
/-- What turned nothing that was there, and then again. -/
theorem below_then {a b c : World} (h : Below a.heap.size a b) (k : Below b.heap.size b c) : Below a.heap.size a c := h.trans (k.mono h.size)
theorem below_cells {W w1 : World} (hb : Below W.heap.size W w1) : (∀ b o, b < W.heap.size → w1.cell? ⟨b, o, none⟩ = W.cell? ⟨b, o, none⟩) ∧ (∀ b o, b < W.heap.size → w1.frozen? ⟨b, o, none⟩ = W.frozen? ⟨b, o, none⟩) :=
  ⟨fun b o h => hb.cell (p := ⟨b, o, none⟩) h, fun b o h => hb.frozen (p := ⟨b, o, none⟩) h⟩
theorem ret_eq {u v : Value} (h : u = v) : Ending.returned u = .returned v := by rw [h]
theorem cell_below {w w' : World} {p : Addr} {v : Value} (hb : Below w.heap.size w w') (h : w.cell? p = some v) : w'.cell? p = some v := (hb.cell (World.block_lt_of_cell? w p h)).trans h
theorem cell_alloc {w : World} {p : Addr} {v : Value} {o : Obj} (h : w.cell? p = some v) : (w.alloc o).cell? p = some v := by rw [World.cell?_alloc_lt w o p (World.block_lt_of_cell? w p h)]; exact h
theorem cell_new (w : World) (C : Array Value) (t : TypeId) (j : Nat) {v : Value} (h : C[j]? = some v) {fr : Nat × Nat} : (w.alloc (.cells C t fr)).cell? ⟨w.heap.size, j, none⟩ = some v := by rw [World.cell?_alloc_mark]; exact h

/- Two errors that are numbers of one integer type: equal where the numbers are. -/
theorem equal_codes {P : Program} {ti tn : TypeId} {ms : Array (String × TypeId)} {i : TypeInfo} {k : IntKind} (hi : P.underlying ti = some (.interface ms)) (hn : P.underlying tn = some (.int k)) (hinfo : P.info? tn = some i) (hcomp : i.comparable = true) (a b : Int) (w : World) :
    (Op.equal ti (.iface tn (.int k a)) (.iface tn (.int k b))).run P w = .ok (a == b) w := by
  have h : ∀ d : Nat, (Op.equalIn (d + 2) ti (.iface tn (.int k a)) (.iface tn (.int k b))).run P w = .ok (a == b) w := fun d => by
    simp [Op.equalIn, run_underlying hi, run_underlying hn, typeInfo, hinfo, hcomp]
  simp only [Op.equal, Op.maxDepth]
  exact h 9998
theorem codeInfo : ∃ i, Try.prog.info? 32 = some i ∧ i.comparable = true := by
  have h : (Try.prog.info? 32).map (·.comparable) = some true := by kernel_rfl
  obtain ⟨i, hi, hc⟩ := Option.map_eq_some_iff.1 h
  exact ⟨i, hi, hc⟩
@[go_sem] theorem eql_codes (a b : Int) (w : World) : (binOp .eql 26 (.iface 32 (.int .i64 a)) (.iface 32 (.int .i64 b))).run Try.prog w = .ok (.bool (a == b)) w := by
  obtain ⟨i, hi, hc⟩ := codeInfo
  have h := equal_codes (P := Try.prog) Try.underlying26 Try.underlying32 hi hc a b w
  simp only [binOp]
  simp [h]
@[go_sem] theorem neq_codes (a b : Int) (w : World) : (binOp .neq 26 (.iface 32 (.int .i64 a)) (.iface 32 (.int .i64 b))).run Try.prog w = .ok (.bool (a != b)) w := by
  obtain ⟨i, hi, hc⟩ := codeInfo
  have h := equal_codes (P := Try.prog) Try.underlying26 Try.underlying32 hi hc a b w
  simp only [binOp]
  simp [h, bne]
end Go.Proofs.Ytjhkblaplfhfcaa
