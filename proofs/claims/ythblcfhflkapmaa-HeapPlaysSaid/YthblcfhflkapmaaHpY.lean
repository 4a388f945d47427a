/-
  The heap: 'move', whatever the word.
-/
import Derived.Test.YthblcfhflkapmaaHpX
namespace Go.Proofs.Ythblcfhflkapmaa
open Go Go.ChangeShapes Go.WideShapes Go.ChangeAt Go.RowKit Go.Sort
set_option linter.unusedVariables false
set_option linter.unusedSimpArgs false

section
variable {w w' : World} {B hb tb : Nat} {size runs : Int} {L : List Ob} {order : List Nat} {a i : Nat} {V G V' G' TV TG : Value}
theorem move_any (h : MV w B hb tb size runs L order a i V G V' G' TV TG) (hL : Lk L order a i) (hW : Wf L) (hO : Og L order) (hs : sizes L ≤ 4000000) (hBw : B ≤ w.heap.size) (u : Wd) (hu : Fine L u) :
    Calls Try.prog 44 #[.pointer (some ⟨hb, 2, none⟩), .agg #[.bool u.ptr, .int .i64 u.v], .pointer (some ⟨tb, 0, none⟩)] w fun e w' => e = .returned (.agg #[.bool (turn L (rstep L order u) u).ptr, .int .i64 (turn L (rstep L order u) u).v]) ∧ ∃ TV1 TG1, MV w' B hb tb size runs L (rstep L order u) a i V G V' G' TV1 TG1 ∧ Tr w (Nm tb V G TV TG) w' (Nm tb V G TV1 TG1) ∧ Below B w w' := by
  obtain ⟨up, uv⟩ := u
  cases up with
  | false =>
    have e1 : rstep L order ⟨false, uv⟩ = order := by unfold rstep; rw [if_neg (by simp)]
    have e2 : turn L order ⟨false, uv⟩ = ⟨false, uv⟩ := by unfold turn; rw [if_neg (by simp)]
    rw [e1, e2]
    refine (move_int uv w _ _).mono fun e w' ⟨h1, h2⟩ => ⟨h1, TV, TG, h.below h2, Tr.below h2, h2.mono hBw⟩
  | true =>
    obtain ⟨j, hj⟩ := hu rfl
    obtain ⟨hjl, hv⟩ := at_some.1 hj
    have e0 : uv = (place L j : Nat) := hv.symm
    subst e0
    by_cases hjo : j ∈ order
    · have e1 : rstep L order ⟨true, (place L j : Nat)⟩ = order := by
        unfold rstep
        rw [if_pos rfl, hj]
        exact if_pos hjo
      have e2 : turn L order ⟨true, (place L j : Nat)⟩ = ⟨true, tpl L order j⟩ := by
        unfold turn
        rw [if_pos rfl, hj]
        rfl
      rw [e1, e2]
      exact (move_old h hs hjl hjo _).mono fun e w' ⟨h1, h2⟩ => ⟨h1, TV, TG, h.below h2, Tr.below h2, h2.mono hBw⟩
    · have e1 : rstep L order ⟨true, (place L j : Nat)⟩ = order ++ [j] := by
        unfold rstep
        rw [if_pos rfl, hj]
        exact if_neg hjo
      have e2 : turn L (order ++ [j]) ⟨true, (place L j : Nat)⟩ = ⟨true, sizes (obs L order)⟩ := by
        unfold turn
        rw [if_pos rfl, hj, Option.getD_some, tpl_new hjo]
      rw [e1, e2]
      exact move_new h hL hW (Nat.le_trans (obs_le hO) hs) hs hjl hjo
end
end Go.Proofs.Ythblcfhflkapmaa
