/-
  Errors' texts, by their methods.
-/
import Derived.Test.YtbbhnahbfhjgeaaDoorSpotStaysB
import Derived.Test.YtbbhnahbfhjgeaaDoorShelf
import Derived.Test.YtbbhnahbfhjgeaaDoorSpotLay
import Derived.Lib.ItoaNum
import Derived.Lib.ItoaLen
namespace Go.Proofs.YtbbhnahbfhjgeaaDoor
open Go.ChangeShapes Go.WideShapes Go.ChangeAt Go.RowKit Go.Sort
set_option linter.unusedVariables false
set_option linter.unusedSimpArgs false
attribute [local irreducible] Go.wpQuiet

theorem bstr_app (a b : Str) : bstr a ++ bstr b = bstr (a ++ b) := by
  apply ByteArray.ext; simp [bstr]
abbrev inR (n : Int) : Prop := -9223372036854775808 ≤ n ∧ n ≤ 9223372036854775807
theorem itoa_len (n : Int) (h : inR n) : (Lib.itoa n).length ≤ 30 := by
  have := Lib.itoa_length_le n h.1 h.2; omega
def codeT (n : Int) : Str := [101, 114, 114, 111, 114, 32] ++ Lib.itoa n
def spotT (at_ n : Int) : Str := Lib.itoa at_ ++ 58 :: 32 :: codeT n
theorem codeT_len (n : Int) (h : inR n) : (codeT n).length ≤ 36 := by
  have := itoa_len n h
  unfold codeT; rw [List.length_append]; simp; omega
theorem below_grow {w : World} (k : Nat) (os : Array Obj) : Below w.heap.size w (grow (w.drewN k) os) := by
  have h := below_regrown w (w.drewN k).drawn os
  exact h

set_option maxRecDepth 100000 in
theorem codeErr_any (n : Int) (w : World) (hn : inR n) (htab : Lib.TabIs Tryd.prog w "internal/strconv.uint64pow10" .u64 Lib.pow10Tab) :
    Calls Tryd.prog 9 #[.int .i64 n] w fun e w' => e = .returned (.string (bstr (codeT n))) ∧ Below w.heap.size w w' := by
  have HI := Lib.hid (Tryd.strconv_Itoa n hn.1 hn.2 w htab)
  have hl := itoa_len n hn
  obtain ⟨I, hI⟩ : ∃ I, Lib.itoa n = I := ⟨_, rfl⟩
  unfold codeT
  rw [hI] at HI hl ⊢
  have hz : ¬ 9223372036854775807 < 6 + I.length := by omega
  clear hI htab hn
  go_enter Tryd.func9, Tryd.ntmps9
  go_wp2_with fail
  refine HI.out.mono ?_
  rintro e w1 ⟨rfl, k, os, rfl⟩
  have hb := below_grow (w := w) k os
  generalize grow (w.drewN k) os = w1 at *
  go_wp2_with fail
  go_returns
  exact ⟨by show Ending.returned (.string (bstr [101, 114, 114, 111, 114, 32] ++ bstr I)) = _; rw [bstr_app]; rfl, hb⟩

set_option maxRecDepth 100000 in
set_option maxHeartbeats 1000000 in
theorem spotErr_any (eb : Nat) (at_ n : Int) (w : World) (hn : inR n) (ha : inR at_) (h0 : w.cell? ⟨eb, 0, none⟩ = some (.int .i64 at_)) (h1 : w.cell? ⟨eb, 1, none⟩ = some (.int .i64 n)) (hL : Lay w) :
    Calls Tryd.prog 74 #[.pointer (some ⟨eb, 0, none⟩)] w fun e w' => e = .returned (.string (bstr (spotT at_ n))) ∧ Below w.heap.size w w' := by
  have k0 := cell_regrown h0
  have k1 := cell_regrown h1
  have CI : RowKit.Hid (∀ d os, Calls Tryd.prog 11 #[.int .i64 at_] (grow (redrawn w d) os) fun e w'' => e = .returned (.string (bstr (Lib.itoa at_))) ∧ ∃ p : Regrown, w'' = grow (redrawn w p.d) p.os) := Lib.hid fun d os =>
    Calls.regrown_of ((Tryd.strconv_Itoa at_ ha.1 ha.2 _ (hL.below (below_regrown w d os)).tab).mono fun e w' ⟨he, k, os, hw⟩ => ⟨he, by rw [hw]; exact below_grow _ _⟩)
  have CE : RowKit.Hid (∀ d os, Calls Tryd.prog 9 #[.int .i64 n] (grow (redrawn w d) os) fun e w'' => e = .returned (.string (bstr (codeT n))) ∧ ∃ p : Regrown, w'' = grow (redrawn w p.d) p.os) := Lib.hid fun d os =>
    Calls.regrown_of (codeErr_any n _ hn (hL.below (below_regrown w d os)).tab)
  have hl1 := itoa_len at_ ha
  have hl2 := codeT_len n hn
  unfold spotT
  obtain ⟨I, hI⟩ : ∃ I, Lib.itoa at_ = I := ⟨_, rfl⟩
  obtain ⟨C, hC⟩ : ∃ C, codeT n = C := ⟨_, rfl⟩
  rw [hI] at CI hl1 ⊢
  rw [hC] at CE hl2 ⊢
  have a1 : ∀ w, (Op.stringOp .add (bstr I) ⟨#[58, 32]⟩).run Tryd.prog w = .ok (.string (bstr (I ++ [58, 32]))) w := fun w => by
    have h := run_string_add_sum (P := Tryd.prog) (w := w) (bstr I) (bstr [58, 32]) (by rw [bstr_size, bstr_size]; show I.length + 2 ≤ _; omega)
    rw [bstr_app] at h; exact h
  have a2 : ∀ w, (Op.stringOp .add (bstr (I ++ [58, 32])) (bstr C)).run Tryd.prog w = .ok (.string (bstr (I ++ 58 :: 32 :: C))) w := fun w => by
    have h := run_string_add_sum (P := Tryd.prog) (w := w) (bstr (I ++ [58, 32])) (bstr C) (by rw [bstr_size, bstr_size, List.length_append]; show I.length + 2 + C.length ≤ _; omega)
    rw [bstr_app, List.append_assoc] at h; exact h
  clear hI hC hl1 hl2
  go_enter Tryd.func74, Tryd.ntmps74
  go_wp2_with fail
  refine wp_region_quiet_below (by kernel_rfl) (by kernel_rfl) ?_
  repeat (quiet_step (first | (go_at_call 11; with_reducible exact CI.out _ _) | (go_at_call 9; with_reducible exact CE.out _ _)))
  refine wpQuiet_nil ?_
  intro _ hw
  obtain ⟨⟨dq, osq⟩, hw''⟩ := hw
  subst hw''
  have hbq := below_regrown w dq osq
  clear k0 k1 CI CE
  generalize grow (redrawn w dq) osq = w2 at *
  go_wp2_with fail
  go_returns
  exact ⟨rfl, hbq⟩

/-- A chain of errors, and its text. -/
inductive TChain (w : World) (n at_ : Int) : Nat → TypeId → Value → Str → Prop
  | code : TChain w n at_ 0 28 (.int .i64 n) (codeT n)
  | spot (eb : Nat) (h0 : w.cell? ⟨eb, 0, none⟩ = some (.int .i64 at_)) (h1 : w.cell? ⟨eb, 1, none⟩ = some (.int .i64 n)) : TChain w n at_ 0 39 (.pointer (some ⟨eb, 0, none⟩)) (spotT at_ n)
  | wrap (g k : Nat) (ty : TypeId) (x : Value) (s t : Str) (h0 : w.cell? ⟨g, 0, none⟩ = some (.string (bstr s))) (h1 : w.cell? ⟨g, 1, none⟩ = some (.iface ty x)) (h : TChain w n at_ k ty x t) : TChain w n at_ (k + 1) 49 (.pointer (some ⟨g, 0, none⟩)) (s ++ 58 :: 32 :: t)
theorem TChain.lower {w w' : World} {n at_ : Int} {k : Nat} {ty : TypeId} {x : Value} {t : Str} (h : TChain w n at_ k ty x t) (hb : Below w.heap.size w w') : TChain w' n at_ k ty x t := by
  induction h with
  | code => exact .code
  | spot eb h0 h1 => exact .spot eb (cell_below hb h0) (cell_below hb h1)
  | wrap g k ty x s t h0 h1 h ih => exact .wrap g k ty x s t (cell_below hb h0) (cell_below hb h1) ih

/-- The method that tells an error's text. -/
def errFn (ty : TypeId) : FuncId := if ty = 28 then 9 else if ty = 39 then 74 else 76

theorem mErrC (v : Value) (w : World) : (Go.method 235 28 v "Error").run Tryd.prog w = .ok (9, v) w := by kernel_rfl
theorem mErrS (p : Addr) (w : World) : (Go.method 235 39 (.pointer (some p)) "Error").run Tryd.prog w = .ok (74, .pointer (some p)) w := by kernel_rfl
theorem mErrW (p : Addr) (w : World) : (Go.method 235 49 (.pointer (some p)) "Error").run Tryd.prog w = .ok (76, .pointer (some p)) w := by kernel_rfl

set_option maxRecDepth 100000 in
set_option maxHeartbeats 1000000 in
theorem wrapErrC (g : Nat) (s t : Str) (m : Int) (w : World) (h0 : w.cell? ⟨g, 0, none⟩ = some (.string (bstr s))) (h1 : w.cell? ⟨g, 1, none⟩ = some (.iface 28 (.int .i64 m))) (hl : s.length + t.length ≤ 1000000)
    (hin : ∀ W, Below w.heap.size w W → Calls Tryd.prog 9 #[(.int .i64 m)] W fun e w' => e = .returned (.string (bstr t)) ∧ Below W.heap.size W w') :
    Calls Tryd.prog 76 #[.pointer (some ⟨g, 0, none⟩)] w fun e w' => e = .returned (.string (bstr (s ++ 58 :: 32 :: t))) ∧ Below w.heap.size w w' := by
  have k0 := cell_regrown h0
  have k1 := cell_regrown h1
  have CI : RowKit.Hid (∀ d os, Calls Tryd.prog 9 #[(.int .i64 m)] (grow (redrawn w d) os) fun e w'' => e = .returned (.string (bstr t)) ∧ ∃ p : Regrown, w'' = grow (redrawn w p.d) p.os) := Lib.hid fun d os =>
    Calls.regrown_of (hin _ (below_regrown w d os))
  have hM := mErrC
  have a1 : ∀ w, (Op.stringOp .add (bstr s) ⟨#[58, 32]⟩).run Tryd.prog w = .ok (.string (bstr (s ++ [58, 32]))) w := fun w => by
    have h := run_string_add_sum (P := Tryd.prog) (w := w) (bstr s) (bstr [58, 32]) (by rw [bstr_size, bstr_size]; show s.length + 2 ≤ _; omega)
    rw [bstr_app] at h; exact h
  have a2 : ∀ w, (Op.stringOp .add (bstr (s ++ [58, 32])) (bstr t)).run Tryd.prog w = .ok (.string (bstr (s ++ 58 :: 32 :: t))) w := fun w => by
    have h := run_string_add_sum (P := Tryd.prog) (w := w) (bstr (s ++ [58, 32])) (bstr t) (by rw [bstr_size, bstr_size, List.length_append]; show s.length + 2 + t.length ≤ _; omega)
    rw [bstr_app, List.append_assoc] at h; exact h
  clear hin hl h0 h1
  go_enter Tryd.func76, Tryd.ntmps76
  go_wp2_with fail
  refine wp_region_quiet_below (by kernel_rfl) (by kernel_rfl) ?_
  repeat (quiet_step ((go_at_call 9; with_reducible exact CI.out _ _)))
  refine wpQuiet_nil ?_
  intro _ hw
  obtain ⟨⟨dq, osq⟩, hw''⟩ := hw
  subst hw''
  have hbq := below_regrown w dq osq
  clear k0 k1 CI
  generalize grow (redrawn w dq) osq = w2 at *
  go_wp2_with fail
  go_returns
  exact ⟨rfl, hbq⟩

set_option maxRecDepth 100000 in
set_option maxHeartbeats 1000000 in
theorem wrapErrS (g : Nat) (s t : Str) (m : Nat) (w : World) (h0 : w.cell? ⟨g, 0, none⟩ = some (.string (bstr s))) (h1 : w.cell? ⟨g, 1, none⟩ = some (.iface 39 (.pointer (some ⟨m, 0, none⟩)))) (hl : s.length + t.length ≤ 1000000)
    (hin : ∀ W, Below w.heap.size w W → Calls Tryd.prog 74 #[(.pointer (some ⟨m, 0, none⟩))] W fun e w' => e = .returned (.string (bstr t)) ∧ Below W.heap.size W w') :
    Calls Tryd.prog 76 #[.pointer (some ⟨g, 0, none⟩)] w fun e w' => e = .returned (.string (bstr (s ++ 58 :: 32 :: t))) ∧ Below w.heap.size w w' := by
  have k0 := cell_regrown h0
  have k1 := cell_regrown h1
  have CI : RowKit.Hid (∀ d os, Calls Tryd.prog 74 #[(.pointer (some ⟨m, 0, none⟩))] (grow (redrawn w d) os) fun e w'' => e = .returned (.string (bstr t)) ∧ ∃ p : Regrown, w'' = grow (redrawn w p.d) p.os) := Lib.hid fun d os =>
    Calls.regrown_of (hin _ (below_regrown w d os))
  have hM := mErrS
  have a1 : ∀ w, (Op.stringOp .add (bstr s) ⟨#[58, 32]⟩).run Tryd.prog w = .ok (.string (bstr (s ++ [58, 32]))) w := fun w => by
    have h := run_string_add_sum (P := Tryd.prog) (w := w) (bstr s) (bstr [58, 32]) (by rw [bstr_size, bstr_size]; show s.length + 2 ≤ _; omega)
    rw [bstr_app] at h; exact h
  have a2 : ∀ w, (Op.stringOp .add (bstr (s ++ [58, 32])) (bstr t)).run Tryd.prog w = .ok (.string (bstr (s ++ 58 :: 32 :: t))) w := fun w => by
    have h := run_string_add_sum (P := Tryd.prog) (w := w) (bstr (s ++ [58, 32])) (bstr t) (by rw [bstr_size, bstr_size, List.length_append]; show s.length + 2 + t.length ≤ _; omega)
    rw [bstr_app, List.append_assoc] at h; exact h
  clear hin hl h0 h1
  go_enter Tryd.func76, Tryd.ntmps76
  go_wp2_with fail
  refine wp_region_quiet_below (by kernel_rfl) (by kernel_rfl) ?_
  repeat (quiet_step ((go_at_call 74; with_reducible exact CI.out _ _)))
  refine wpQuiet_nil ?_
  intro _ hw
  obtain ⟨⟨dq, osq⟩, hw''⟩ := hw
  subst hw''
  have hbq := below_regrown w dq osq
  clear k0 k1 CI
  generalize grow (redrawn w dq) osq = w2 at *
  go_wp2_with fail
  go_returns
  exact ⟨rfl, hbq⟩

set_option maxRecDepth 100000 in
set_option maxHeartbeats 1000000 in
theorem wrapErrW (g : Nat) (s t : Str) (m : Nat) (w : World) (h0 : w.cell? ⟨g, 0, none⟩ = some (.string (bstr s))) (h1 : w.cell? ⟨g, 1, none⟩ = some (.iface 49 (.pointer (some ⟨m, 0, none⟩)))) (hl : s.length + t.length ≤ 1000000)
    (hin : ∀ W, Below w.heap.size w W → Calls Tryd.prog 76 #[(.pointer (some ⟨m, 0, none⟩))] W fun e w' => e = .returned (.string (bstr t)) ∧ Below W.heap.size W w') :
    Calls Tryd.prog 76 #[.pointer (some ⟨g, 0, none⟩)] w fun e w' => e = .returned (.string (bstr (s ++ 58 :: 32 :: t))) ∧ Below w.heap.size w w' := by
  have k0 := cell_regrown h0
  have k1 := cell_regrown h1
  have CI : RowKit.Hid (∀ d os, Calls Tryd.prog 76 #[(.pointer (some ⟨m, 0, none⟩))] (grow (redrawn w d) os) fun e w'' => e = .returned (.string (bstr t)) ∧ ∃ p : Regrown, w'' = grow (redrawn w p.d) p.os) := Lib.hid fun d os =>
    Calls.regrown_of (hin _ (below_regrown w d os))
  have hM := mErrW
  have a1 : ∀ w, (Op.stringOp .add (bstr s) ⟨#[58, 32]⟩).run Tryd.prog w = .ok (.string (bstr (s ++ [58, 32]))) w := fun w => by
    have h := run_string_add_sum (P := Tryd.prog) (w := w) (bstr s) (bstr [58, 32]) (by rw [bstr_size, bstr_size]; show s.length + 2 ≤ _; omega)
    rw [bstr_app] at h; exact h
  have a2 : ∀ w, (Op.stringOp .add (bstr (s ++ [58, 32])) (bstr t)).run Tryd.prog w = .ok (.string (bstr (s ++ 58 :: 32 :: t))) w := fun w => by
    have h := run_string_add_sum (P := Tryd.prog) (w := w) (bstr (s ++ [58, 32])) (bstr t) (by rw [bstr_size, bstr_size, List.length_append]; show s.length + 2 + t.length ≤ _; omega)
    rw [bstr_app, List.append_assoc] at h; exact h
  clear hin hl h0 h1
  go_enter Tryd.func76, Tryd.ntmps76
  go_wp2_with fail
  refine wp_region_quiet_below (by kernel_rfl) (by kernel_rfl) ?_
  repeat (quiet_step ((go_at_call 76; with_reducible exact CI.out _ _)))
  refine wpQuiet_nil ?_
  intro _ hw
  obtain ⟨⟨dq, osq⟩, hw''⟩ := hw
  subst hw''
  have hbq := below_regrown w dq osq
  clear k0 k1 CI
  generalize grow (redrawn w dq) osq = w2 at *
  go_wp2_with fail
  go_returns
  exact ⟨rfl, hbq⟩

/-- An error's text, along a chain. -/
theorem err_any {n at_ : Int} {k : Nat} {ty : TypeId} {x : Value} {t : Str} {w : World} (h : TChain w n at_ k ty x t) (hn : inR n) (ha : inR at_) (hl : t.length ≤ 1000000) :
    ∀ W, Below w.heap.size w W → Lay W → Calls Tryd.prog (errFn ty) #[x] W fun e w' => e = .returned (.string (bstr t)) ∧ Below W.heap.size W w' := by
  induction h with
  | code => intro W hb hL; exact codeErr_any n W hn hL.tab
  | spot eb h0 h1 => intro W hb hL; exact spotErr_any eb at_ n W hn ha (cell_below hb h0) (cell_below hb h1) hL
  | wrap g k ty x s t h0 h1 h ih =>
    intro W hb hL
    have hl2 : s.length + 2 + t.length ≤ 1000000 := by rw [List.length_append, List.length_cons, List.length_cons] at hl; omega
    have hin := fun W2 (hb2 : Below W.heap.size W W2) => ih (by omega) W2 (below_then hb hb2) (hL.below hb2)
    cases h with
    | code => exact wrapErrC g s _ n W (cell_below hb h0) (cell_below hb h1) (by omega) hin
    | spot eb g0 g1 => exact wrapErrS g s _ eb W (cell_below hb h0) (cell_below hb h1) (by omega) hin
    | wrap g2 k2 ty2 x2 s2 t2 g0 g1 g3 => exact wrapErrW g s _ g2 W (cell_below hb h0) (cell_below hb h1) (by omega) hin
end Go.Proofs.YtbbhnahbfhjgeaaDoor
