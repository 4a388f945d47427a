/-
  An offset as a number, whatever is known.
-/
import Derived.Test.YtlgmddnpmmggdaaDoorEvB
import Derived.Test.YtlgmddnpmmggdaaDoorCodes
namespace Go.Proofs.YtlgmddnpmmggdaaDoor
open Go.ChangeShapes Go.WideShapes Go.ChangeAt Go.RowKit Go.Sort Go.Maps
set_option linter.unusedVariables false
set_option linter.unusedSimpArgs false

set_option maxRecDepth 100000 in
set_option maxHeartbeats 1000000 in
theorem value_neg (n row : Int) (s : Str) (m : Value) (w : World) (hrow : row < 0) :
    Calls Tryd.prog 13 #[.agg #[.int .i64 n, .int .i64 row, .string (bstr s)], m] w fun e w' => e = .returned (.tuple #[.int .i64 n, .nilIface]) ∧ Below w.heap.size w w' := by
  go_enter Tryd.func13, Tryd.ntmps13
  go_wp2_with fail
  go_returns
  exact ⟨rfl, (Below.refl _ _).alloc (Nat.le_refl _) _⟩

set_option maxRecDepth 100000 in
set_option maxHeartbeats 1000000 in
theorem value_has (n row c : Int) (s : Str) (B k : Nat) (D : DataW Unit) (kl : Lit) (w : World) (hrow : ¬ row < 0) (hkey : keyOf Tryd.prog 43 (.agg #[.int .i64 row, .string (bstr s)]) = some kl)
    (hown : w.ownsMap (H := Unit) Tryd.prog 43 (plainElem Tryd.prog 3) B k D) (hhas : Maps.has D kl = true) (hat : D.atKey kl (.lit (.int .i64 0)) = .lit (.int .i64 c)) :
    Calls Tryd.prog 13 #[.agg #[.int .i64 n, .int .i64 row, .string (bstr s)], .map (some B)] w fun e w' => e = .returned (.tuple #[.int .i64 (wrap64 (n + c)), .nilIface]) ∧ Below w.heap.size w w' := by
  have hown2 := hown.alloc (.cells #[.int .i64 n, .int .i64 row, .string (bstr s)] 27)
  have HO := Lib.hid (And.intro hown2 (And.intro hat (And.intro hhas hkey)))
  clear hown hown2 hat hhas hkey
  go_enter Tryd.func13, Tryd.ntmps13
  go_wp2_with (first | (at_lookup; refine wpList_lookup_own_ok_int _ rfl _ _ 48 rfl 43 3 .i64 lawNeed Tryd.underlying48 Tryd.underlying3 (zeroInt _) B k _ rfl HO.out.1 _ _ rfl HO.out.2.2.2 ?_; intro c' hat hwc; rw [HO.out.2.1] at hat; rw [HO.out.2.2.1]; obtain rfl : c = c' := by simpa using hat))
  go_returns
  exact ⟨rfl, (Below.refl _ _).alloc (Nat.le_refl _) _⟩

set_option maxRecDepth 100000 in
set_option maxHeartbeats 1000000 in
theorem value_not (n row : Int) (s : Str) (B k : Nat) (D : DataW Unit) (kl : Lit) (w : World) (hrow : ¬ row < 0) (hkey : keyOf Tryd.prog 43 (.agg #[.int .i64 row, .string (bstr s)]) = some kl)
    (hown : w.ownsMap (H := Unit) Tryd.prog 43 (plainElem Tryd.prog 3) B k D) (hhas : Maps.has D kl = false) :
    Calls Tryd.prog 13 #[.agg #[.int .i64 n, .int .i64 row, .string (bstr s)], .map (some B)] w fun e w' => e = .returned (.tuple #[.int .i64 0, .iface 38 (.int .i64 4)]) ∧ Below w.heap.size w w' := by
  have hown2 := hown.alloc (.cells #[.int .i64 n, .int .i64 row, .string (bstr s)] 27)
  have HO := Lib.hid (And.intro hown2 (And.intro hhas hkey))
  clear hown hown2 hhas hkey
  go_enter Tryd.func13, Tryd.ntmps13
  go_wp2_with (first | (at_lookup; refine wpList_lookup_own_ok_int _ rfl _ _ 48 rfl 43 3 .i64 lawNeed Tryd.underlying48 Tryd.underlying3 (zeroInt _) B k _ rfl HO.out.1 _ _ rfl HO.out.2.2 ?_; intro c' hat hwc; rw [HO.out.2.1]; clear hat))
  go_returns
  exact ⟨rfl, (Below.refl _ _).alloc (Nat.le_refl _) _⟩

/-- 'm[k] = v' in a region that draws its order. -/
theorem step_map {H : Type} {P : Program} (w : World) {ops : Array Oper} {o : Oper} {a : Act} {K : Act → World → Prop} {Q : Exit → Act → World → Prop} {E : Prop} (hgd : o.guard = none) (m x v : Operand) (t : TypeId) (hop : o.op = Op.mapUpdate t m x v)
    (k e : TypeId) (L : Keyed P k) (ht : P.underlying t = some (.map k e)) (R : Value → Option (DataW H × List MemPlace)) (b n : Nat) (D : DataW H)
    (hm : a.eval m = .map (some b)) (hown : w.ownsMap P k R b n D) (hn : n < maxLen) (key val : Value) (kl : Lit) (hx : a.eval x = key) (hv : a.eval v = val) (hkey : keyOf P k key = some kl)
    (d : DataW H) (ps : List MemPlace) (hval : R val = some (d, ps))
    (h : ∀ w', w'.ownsMap P k R b (n + 1) (D.put kl d) → w.grownBy w' (some b) → K (a.put o.dst undef) w') :
    if Region.wanted o (yielded ops a.tmps) = true then Oper.wp P o a w K Q else E := by
  have hw : Region.wanted o (yielded ops a.tmps) = true := by simp [Region.wanted, hgd]
  rw [if_pos hw]
  obtain ⟨w', hrun, r1, r2⟩ := hown.update L ht hn hkey hval
  unfold Oper.wp
  simp [execOp, hop, hm, hx, hv, hrun, Result.andThen]
  exact h w' r1 r2
theorem below_grown_at {w wr w1 : World} {B M : Nat} (hb : Below B w wr) (hB : B ≤ M) (hg : wr.grownBy w1 (some M)) (hs : B ≤ w.heap.size) : Below B w w1 :=
  ⟨hg.os.trans hb.os, hg.tape.trans hb.tape, hg.output.trans hb.output, by have := hg.size; have := hb.size; omega, fun k hk => (hg.block k (by have := hb.size; omega) (fun e => by injection e with e; omega)).trans (hb.block k hk)⟩
end Go.Proofs.YtlgmddnpmmggdaaDoor
