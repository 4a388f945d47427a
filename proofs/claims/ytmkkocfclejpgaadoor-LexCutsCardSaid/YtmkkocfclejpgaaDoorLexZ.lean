/-
  Rows of tokens, held against each other.
-/
import Derived.Test.YtmkkocfclejpgaaDoorLexX
import Derived.Test.YtmkkocfclejpgaaDoorLexBackA

namespace Go.Proofs.YtmkkocfclejpgaaDoor
open Go.ChangeShapes Go.WideShapes Go.ChangeAt Go.RowKit
set_option linter.unusedVariables false
set_option linter.unusedSimpArgs false

set_option maxRecDepth 100000 in
set_option maxHeartbeats 2000000 in
theorem sameTok_any (A B : Option Addr) (ts us : List Tok) (n m cp cq : Nat) (w : World) (hr : Rd w 4 A n (toks ts)) (hs : Rd w 4 B m (toks us)) (hn : ts.length = n) (hm : us.length = m) (hb : n ≤ 4000) (hc : m ≤ 4000) (he : ts = us) :
    Calls Tryd.prog 10 #[.slice A n cp, .slice B m cq] w fun e w' => e = .returned (.bool true) ∧ Below w.heap.size w w' := by
  subst he
  obtain rfl : n = m := by omega
  have HR := Lib.hid hr
  have HS := Lib.hid hs
  have HN := Lib.hid hn
  clear hr hs hn hm
  go_enter Tryd.func10, Tryd.ntmps10
  go_wp2_with fail
  go_loopw [5] (fun i wr => ∃ k : Nat, i = .int .i64 k ∧ k ≤ n ∧ Below w.heap.size w wr) (fun i _ => n - (intOf i).toNat)
  case atStart => exact ⟨0, rfl, by omega, Below.refl _ _⟩
  case round =>
    obtain ⟨k, rfl, hk, hbw⟩ := hrel
    have HB := Lib.hid hbw
    clear hbw
    have z0 : (0 : Int) ≤ (k : Int) := by omega
    by_cases hlt : k < n
    · have z1 : (k : Int) < (n : Int) := by omega
      have hkt : k < ts.length := by rw [HN.out]; exact hlt
      obtain ⟨b, o, rfl, _, hT⟩ := (HR.out.below HB.out).tok hkt
      obtain ⟨b2, o2, rfl, _, hT2⟩ := (HS.out.below HB.out).tok hkt
      obtain ⟨g0, g1, g2, g3⟩ := hT k hkt
      obtain ⟨f0, f1, f2, f3⟩ := hT2 k hkt
      obtain ⟨kd, hkd⟩ : ∃ kd, ts[k].kind = kd := ⟨_, rfl⟩
      obtain ⟨pl, hpl⟩ : ∃ pl : Int, (ts[k].place : Int) = pl := ⟨_, rfl⟩
      obtain ⟨nn, hnn⟩ : ∃ nn, ts[k].n = nn := ⟨_, rfl⟩
      obtain ⟨x, hx⟩ : ∃ x, bstr ts[k].s = x := ⟨_, rfl⟩
      rw [hkd] at g0 f0
      rw [hpl] at g1 f1
      rw [hnn] at g2 f2
      rw [hx] at g3 f3
      have q1 : (x.toList == x.toList) = true := by simp
      clear hT hT2 hkd hpl hnn hx hkt
      go_wp2_with fail
      go_quiet (fail)
      go_wp2_with fail
      go_roundw
      case rel => exact ⟨k + 1, by go_num, by omega, below_drewN HB.out _⟩
      case measure => simp [intOf] <;> omega
    · have z1 : ¬ (k : Int) < (n : Int) := by omega
      go_wp2_with fail
      go_returns
      exact ⟨rfl, HB.out⟩
end Go.Proofs.YtmkkocfclejpgaaDoor
