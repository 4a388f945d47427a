/-
  What is told of a row variable's label: a map of one entry; an offset as a number.
-/
import Derived.Test.YtlgmddnpmmggdaaDoorEvA
namespace Go.Proofs.YtlgmddnpmmggdaaDoor
open Go.ChangeShapes Go.WideShapes Go.ChangeAt Go.RowKit Go.Sort Go.Maps
set_option linter.unusedVariables false
set_option linter.unusedSimpArgs false

theorem laidOutNeed : laidOutB Tryd.prog = true := by kernel_rfl
theorem rowNeed : (43 : TypeId) < Tryd.prog.types.size := of_decide_eq_true (by kernel_rfl)
theorem wideNeed : (match Tryd.prog.underlying 43 with | some (.array _ _) | some (.struct _) => true | _ => false) = true := by rw [Tryd.underlying43]
theorem lawNeed : Keyed Tryd.prog 43 := Keyed.of_law (deep_law_laid laidOutNeed (m := 3) (by omega) rowNeed (by kernel_rfl) wideNeed)
theorem zeroInt (w : World) : (zeroValue 3).run Tryd.prog w = .ok (.int .i64 0) w := by kernel_rfl
theorem keyTypeNeed : Tryd.prog.keyType 43 = true := by kernel_rfl
theorem cellsNeed : Tryd.prog.cellsOf 43 = 2 := by kernel_rfl

theorem keyNeed (row : Int) (s : Str) (hr : (Lit.int .i64 row).wf = true) (hs : s.length ≤ maxLen) : ∃ kl, keyOf Tryd.prog 43 (.agg #[.int .i64 row, .string (bstr s)]) = some kl := by
  have hsz : (bstr s).size ≤ maxLen := by rw [bstr_size]; exact hs
  have hc1 : Tryd.prog.cellsOf 3 = 1 := by kernel_rfl
  have hc2 : Tryd.prog.cellsOf 9 = 1 := by kernel_rfl
  have hf : Value.formed Tryd.prog 43 (.agg #[.int .i64 row, .string (bstr s)]) = true := by
    unfold Value.formed
    rw [Tryd.underlying43, cellsNeed]; rfl
  obtain ⟨n, hn⟩ : ∃ n, Tryd.prog.types.size = n + 1 := ⟨Tryd.prog.types.size - 1, (Nat.succ_pred_eq_of_pos (Nat.lt_of_le_of_lt (Nat.zero_le _) rowNeed)).symm⟩
  unfold keyOf
  rw [keyTypeNeed, hf, Tryd.underlying43, hn]
  simp [Program.keyLits, Tryd.underlying43, Tryd.underlying3, Tryd.underlying9, cellsNeed, hc1, hc2, Value.cells, hr, hsz]

theorem ownsMap_below {H : Type} {P : Program} {k : TypeId} {R : Value → Option (DataW H × List MemPlace)} {w w' : World} {b n : Nat} {D : DataW H} (h : w.ownsMap P k R b n D) (hb : Below w.heap.size w w') : w'.ownsMap P k R b n D := by
  have hlt := h.lt
  obtain ⟨es, clock, hh, F, hs, hD⟩ := h
  exact ⟨es, clock, (hb.block b hlt).trans hh, F, hs, hD⟩

set_option maxRecDepth 100000 in
set_option maxHeartbeats 1000000 in
theorem value_any (n row v : Int) (s : Str) (B : Nat) (kl : Lit) (w : World) (hrow : 0 ≤ row) (hkey : keyOf Tryd.prog 43 (.agg #[.int .i64 row, .string (bstr s)]) = some kl)
    (hown : w.ownsMap (H := Unit) Tryd.prog 43 (plainElem Tryd.prog 3) B 1 ((DataW.map []).put kl (.lit (.int .i64 v)))) (h0 : 0 ≤ n) (h1 : n ≤ 1000000) (h2 : 0 ≤ v) (h3 : v ≤ 1000000) :
    Calls Tryd.prog 13 #[.agg #[.int .i64 n, .int .i64 row, .string (bstr s)], .map (some B)] w fun e w' => e = .returned (.tuple #[.int .i64 (n + v), .nilIface]) ∧ Below w.heap.size w w' := by
  have hown2 := hown.alloc (.cells #[.int .i64 n, .int .i64 row, .string (bstr s)] 27)
  have hkl : WideAt.IsKeyLit kl := lawNeed.key hkey
  have hat0 : ((DataW.map (H := Unit) []).put kl (.lit (.int .i64 v))).atKey kl (.lit (.int .i64 0)) = .lit (.int .i64 v) := atKey_put_same ⟨[], rfl⟩ hkl _ _
  have hhas0 : Maps.has ((DataW.map (H := Unit) []).put kl (.lit (.int .i64 v))) kl = true := has_put_same ⟨[], rfl⟩ hkl _
  have HO := Lib.hid (And.intro hown2 (And.intro hat0 (And.intro hhas0 hkey)))
  have hrow2 : ¬ row < 0 := by omega
  clear hown hown2 hkl hat0 hhas0 hkey
  go_enter Tryd.func13, Tryd.ntmps13
  go_wp2_with (first | (at_lookup; refine wpList_lookup_own_ok_int _ rfl _ _ 48 rfl 43 3 .i64 lawNeed Tryd.underlying48 Tryd.underlying3 (zeroInt _) B 1 _ rfl HO.out.1 _ _ rfl HO.out.2.2.2 ?_; intro c hat hwc; rw [HO.out.2.1] at hat; rw [HO.out.2.2.1]; obtain rfl : v = c := by simpa using hat))
  go_returns
  exact ⟨rfl, (Below.refl _ _).alloc (Nat.le_refl _) _⟩
end Go.Proofs.YtlgmddnpmmggdaaDoor
