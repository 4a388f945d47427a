/-
  The name that a need is told by, by the code.
-/
import Derived.Test.YtlgmddnpmmggdaaDoorEvC
import Derived.Test.YtlgmddnpmmggdaaDoorTabLay
import Derived.Lib.ItoaNum
import Derived.Lib.ItoaLen
namespace Go.Proofs.YtlgmddnpmmggdaaDoor
open Go.ChangeShapes Go.WideShapes Go.ChangeAt Go.RowKit Go.Sort
set_option linter.unusedVariables false
set_option linter.unusedSimpArgs false
attribute [local irreducible] Go.wpQuiet

theorem bstr_app (a b : Str) : bstr a ++ bstr b = bstr (a ++ b) := by
  apply ByteArray.ext; simp [bstr]
abbrev inR (n : Int) : Prop := -9223372036854775808 ≤ n ∧ n ≤ 9223372036854775807
theorem below_grow {w : World} (k : Nat) (os : Array Obj) : Below w.heap.size w (grow (w.drewN k) os) := by
  have h := below_regrown w (w.drewN k).drawn os
  exact h
theorem itoa_len (n : Int) (h : inR n) : (Lib.itoa n).length ≤ 30 := by
  have := Lib.itoa_length_le n h.1 h.2; omega
def nameT (r : Int) (s : Str) : Str := 36 :: (Lib.itoa r ++ 46 :: s)

set_option maxRecDepth 100000 in
set_option maxHeartbeats 1000000 in
theorem name_any (r : Int) (s : Str) (w : World) (hr : -9223372036854775808 ≤ r ∧ r ≤ 9223372036854775807) (hs : s.length ≤ 1000000) (hL : Lay w) :
    Calls Tryd.prog 11 #[.agg #[.int .i64 r, .string (bstr s)]] w fun e w' => e = .returned (.string (bstr (nameT r s))) ∧ Below w.heap.size w w' := by
  have hb : Below w.heap.size w (w.alloc (.cells #[.int .i64 r, .string (bstr s)] 43)) := (Below.refl _ _).alloc (Nat.le_refl _) _
  have k0 := cell_regrown (cell_new w #[.int .i64 r, .string (bstr s)] 43 0 rfl (fr := (0, 0)))
  have k1 := cell_regrown (cell_new w #[.int .i64 r, .string (bstr s)] 43 1 rfl (fr := (0, 0)))
  have HB := Lib.hid hb
  have CI : RowKit.Hid (∀ d os, Calls Tryd.prog 10 #[.int .i64 r] (grow (redrawn (w.alloc (.cells #[.int .i64 r, .string (bstr s)] 43)) d) os) fun e w'' => e = .returned (.string (bstr (Lib.itoa r))) ∧ ∃ p : Regrown, w'' = grow (redrawn (w.alloc (.cells #[.int .i64 r, .string (bstr s)] 43)) p.d) p.os) := Lib.hid fun d os =>
    Calls.regrown_of ((Tryd.strconv_Itoa r hr.1 hr.2 _ ((hL.below hb).below (below_regrown _ d os)).tab).mono fun e w' ⟨he, k, os, hw⟩ => ⟨he, by rw [hw]; exact below_grow _ _⟩)
  have hl1 := itoa_len r hr
  unfold nameT
  obtain ⟨I, hI⟩ : ∃ I, Lib.itoa r = I := ⟨_, rfl⟩
  rw [hI] at CI hl1 ⊢
  have a1 : ∀ w, (Op.stringOp .add ⟨#[36]⟩ (bstr I)).run Tryd.prog w = .ok (.string (bstr (36 :: I))) w := fun w => by
    have h := run_string_add_sum (P := Tryd.prog) (w := w) (bstr [36]) (bstr I) (by rw [bstr_size, bstr_size]; show 1 + I.length ≤ _; omega)
    rw [bstr_app] at h; exact h
  have a2 : ∀ w, (Op.stringOp .add (bstr (36 :: I)) ⟨#[46]⟩).run Tryd.prog w = .ok (.string (bstr (36 :: (I ++ [46])))) w := fun w => by
    have h := run_string_add_sum (P := Tryd.prog) (w := w) (bstr (36 :: I)) (bstr [46]) (by rw [bstr_size, bstr_size]; show I.length + 1 + 1 ≤ _; omega)
    rw [bstr_app] at h; exact h
  have a3 : ∀ w, (Op.stringOp .add (bstr (36 :: (I ++ [46]))) (bstr s)).run Tryd.prog w = .ok (.string (bstr (36 :: (I ++ 46 :: s)))) w := fun w => by
    have h := run_string_add_sum (P := Tryd.prog) (w := w) (bstr (36 :: (I ++ [46]))) (bstr s) (by rw [bstr_size, bstr_size, List.length_cons, List.length_append]; show I.length + 1 + 1 + s.length ≤ _; omega)
    rw [bstr_app, List.cons_append, List.append_assoc] at h; exact h
  clear hI hl1 hb hs hL
  go_enter Tryd.func11, Tryd.ntmps11
  go_wp2_with fail
  generalize w.alloc (.cells #[.int .i64 r, .string (bstr s)] 43) = w1 at *
  refine wp_region_quiet_below (by kernel_rfl) (by kernel_rfl) ?_
  repeat (quiet_step ((go_at_call 10; with_reducible exact CI.out _ _)))
  refine wpQuiet_nil ?_
  intro _ hw
  obtain ⟨⟨dq, osq⟩, hw''⟩ := hw
  subst hw''
  have hbq := HB.out.trans ((below_regrown w1 dq osq).mono HB.out.size)
  clear k0 k1 CI
  generalize grow (redrawn w1 dq) osq = w2 at *
  go_wp2_with fail
  go_returns
  exact ⟨rfl, hbq⟩
end Go.Proofs.YtlgmddnpmmggdaaDoor
