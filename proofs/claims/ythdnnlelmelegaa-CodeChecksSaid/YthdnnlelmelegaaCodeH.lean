/-
  Whether an image is sound, as plain mathematics; how many numbers an operation has.
-/
import Derived.Test.YthdnnlelmelegaaCodeB
namespace Go.Proofs.Ythdnnlelmelegaa
open Go.ChangeShapes Go.WideShapes Go.ChangeAt Go.RowKit
set_option linter.unusedVariables false

/-- How many numbers an operation has; -1: one at least; -2: any; -3: there is no such operation. -/
def opc (op : Int) : Int :=
  if op = 18 then 0
  else if op = 1 ∨ op = 2 ∨ op = 3 ∨ op = 13 ∨ op = 14 ∨ op = 16 ∨ op = 17 ∨ op = 20 ∨ op = 23 ∨ op = 24 then 1
  else if op = 6 ∨ op = 8 ∨ op = 10 ∨ op = 11 ∨ op = 15 ∨ op = 19 ∨ op = 22 then 2
  else if op = 7 ∨ op = 9 ∨ op = 12 then 3
  else if op = 4 ∨ op = 21 then -1
  else if op = 5 then -2
  else -3
def numN (op : Int) : Int := if opc op = -3 then 0 else if opc op = -1 then -2 else if opc op = -2 then -1 else opc op
def numIs (op : Int) : Bool := decide (¬ opc op = -3)

theorem opc_range (op : Int) : opc op = 0 ∨ opc op = 1 ∨ opc op = 2 ∨ opc op = 3 ∨ opc op = -1 ∨ opc op = -2 ∨ opc op = -3 := by
  unfold opc
  repeat' split
  all_goals omega

def l0 (x : AIns) : Int := x.l.getD 0 0
def l1 (x : AIns) : Int := x.l.getD 1 0
def capsAt (m : AImg) (i : Int) : Int := (m.funs[i.toNat]?.map AFnc.caps).getD 0
/-- May it have so many numbers? -/
def cntB (op : Int) (n : Nat) : Bool := decide (¬ opc op = -3 ∧ (opc op = -1 → ¬ n = 0) ∧ (0 ≤ opc op → opc op = n))
/-- May those of its numbers be that are no registers? -/
def okOf (m : AImg) (f : AFnc) (x : AIns) : Bool :=
  if x.op = 1 then isInB (l0 x) m.iN
  else if x.op = 2 then isInB (l0 x) m.tN
  else if x.op = 4 then isInB (l0 x) m.fN && decide ((x.n : Int) - 1 = capsAt m (l0 x))
  else if x.op = 12 then isInB (l0 x) 8
  else if x.op = 22 then isInB (l1 x) f.n
  else if x.op = 23 then isInB (l0 x) f.n
  else true
/-- Its registers. -/
def regsOf (x : AIns) : List Int :=
  if x.op = 1 then []
  else if x.op = 2 then []
  else if x.op = 4 then x.l.drop 1
  else if x.op = 12 then x.l.drop 1
  else if x.op = 22 then x.l.take 1
  else if x.op = 23 then []
  else x.l
def targB (f : AFnc) (x : AIns) : Bool := if x.op = 22 then decide (x.a = 0) else if x.op = 23 then decide (x.a = 0) else if x.op = 24 then decide (x.a = 0) else isInB x.a f.regs
def fitsB (m : AImg) (f : AFnc) (x : AIns) : Bool := cntB x.op x.n && (okOf m f x && (regsOf x).all (fun r => isInB r f.regs) && targB f x)
def regB (f : AFnc) : Bool := decide (2 ≤ f.regs ∧ f.regs ≤ 4000 ∧ 0 ≤ f.caps ∧ f.caps ≤ f.regs - 2)
def lastOp (f : AFnc) : Int := (f.code[f.n - 1]?.map AIns.op).getD 0
def lastB (f : AFnc) : Bool := decide (lastOp f = 23 ∨ lastOp f = 24)
def funcB (m : AImg) (f : AFnc) : Bool := regB f && (decide (¬ f.n = 0) && (lastB f && f.code.all (fitsB m f)))
def headB (m : AImg) : Bool := decide (1 ≤ m.fN ∧ m.fN ≤ 2000) && decide (capsAt m 0 = 0)
def soundB (m : AImg) : Bool := headB m && (m.texts.all (fun s => decide (s.length ≤ 2000)) && (decide (csum m.funs m.fN ≤ 20000) && m.funs.all (funcB m)))

set_option maxHeartbeats 2000000 in
theorem count_any (op : Int) (w : World) : Calls Try.prog 26 #[.int .i64 op] w fun e w' => e = .returned (.int .i64 (opc op)) ∧ w' = w := by
  go_enter Try.func26, Try.ntmps26
  go_wp2_with fail
  all_goals go_returns
  all_goals refine ⟨?_, rfl⟩
  all_goals (simp only [beq_iff_eq, beq_eq_false_iff_ne, ne_eq] at *)
  all_goals simp [opc, *]

set_option maxHeartbeats 2000000 in
theorem numbers_any (op : Int) (w : World) : Calls Try.prog 46 #[.int .i64 op] w fun e w' => e = .returned (.tuple #[.int .i64 (numN op), .bool (numIs op)]) ∧ w' = w := by
  go_enter Try.func46, Try.ntmps46
  go_wp2_with fail
  all_goals go_returns
  all_goals refine ⟨?_, rfl⟩
  all_goals (simp only [beq_iff_eq, beq_eq_false_iff_ne, ne_eq] at *)
  all_goals simp [opc, numN, numIs, *]
end Go.Proofs.Ythdnnlelmelegaa
