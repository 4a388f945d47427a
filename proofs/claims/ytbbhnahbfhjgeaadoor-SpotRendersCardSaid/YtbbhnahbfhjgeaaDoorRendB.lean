/-
  Rendering: an error's own text, and with its place.
-/
import Derived.Test.YtbbhnahbfhjgeaaDoorRendA
namespace Go.Proofs.YtbbhnahbfhjgeaaDoor
open Go.ChangeShapes Go.WideShapes Go.ChangeAt Go.RowKit Go.Sort
set_option linter.unusedVariables false
set_option linter.unusedSimpArgs false

theorem add_bstr (a b r : Str) (h : a ++ b = r) (hl : a.length + b.length ≤ 9223372036854775807) : ∀ w, (Op.stringOp .add (bstr a) (bstr b)).run Tryd.prog w = .ok (.string (bstr r)) w := fun w => by
  have h2 := run_string_add_sum (P := Tryd.prog) (w := w) (bstr a) (bstr b) (by rw [bstr_size, bstr_size]; exact hl)
  rw [bstr_app, h] at h2; exact h2
theorem itoa_any (n : Int) (w : World) (hn : inR n) (hL : Lay w) : Calls Tryd.prog 11 #[.int .i64 n] w fun e w' => e = .returned (.string (bstr (Lib.itoa n))) ∧ Below w.heap.size w w' :=
  (Tryd.strconv_Itoa n hn.1 hn.2 w hL.tab).mono fun e w' ⟨he, k, os, hw⟩ => ⟨he, by rw [hw]; exact below_grow _ _⟩

theorem textCatch_idle (p : Addr) (w : World) :
    CallsD Tryd.prog 35 #[.pointer (some p)] .returning w fun e u' w' => e = .returned (.tuple #[]) ∧ u' = .returning ∧ w' = w := by
  refine callsD_of_wpS Tryd.func35 rfl fun c₀ cs hu => ?_
  apply wpS_seq
  apply wpS_region
  simp [wpOpsS, go_sem, recoverD, hu, Tryd.ntmps35, Exit.thenS]
  refine wpS_cond (t := false) (by simp [Act.eval, Array.replicate]) ?_
  simp only [Bool.false_eq_true, if_false]
  refine wpS_of_wp (wp_skip ?_)
  cases c₀
  simp_all [bodyPostS, results, Tryd.results35]

set_option maxRecDepth 100000 in
set_option maxHeartbeats 1000000 in
theorem textOfC (t : Str) (m : Int) (w : World) (hin : ∀ W, Below w.heap.size w W → Calls Tryd.prog 9 #[(.int .i64 m)] W fun e w' => e = .returned (.string (bstr t)) ∧ Below W.heap.size W w') :
    Calls Tryd.prog 21 #[.iface 28 (.int .i64 m)] w fun e w' => e = .returned (.string (bstr t)) ∧ Below w.heap.size w w' := by
  have hmf : ∀ (fn : Fn) (first cap : Array Value) (w : World), (Instr.makeFunc fn first cap).run Tryd.prog w = .ok (.func fn first cap) w := fun _ _ _ _ => rfl
  have hM := mErrC
  have hb : Below w.heap.size w (w.alloc (.cells #[.string ⟨#[]⟩] 9)) := (Below.refl _ _).alloc (Nat.le_refl _) _
  have x0 : (w.alloc (.cells #[.string ⟨#[]⟩] 9)).cell? ⟨w.heap.size, 0, none⟩ = some (.string ⟨#[]⟩) := cell_new w _ _ 0 rfl
  have y0 : (w.alloc (.cells #[.string ⟨#[]⟩] 9)).frozen? ⟨w.heap.size, 0, none⟩ = false := frozen_at w _ _ _ rfl
  have hs : (w.alloc (.cells #[.string ⟨#[]⟩] 9)).heap.size = w.heap.size + 1 := by simp
  have HI := Lib.hid (hin _ hb)
  have H0 := Lib.hid (And.intro hb (And.intro x0 (And.intro y0 hs)))
  clear hin hb x0 y0 hs
  go_enter_defers Tryd.func21, Tryd.ntmps21
  go_wp2_with fail
  generalize w.alloc (.cells #[.string ⟨#[]⟩] 9) = w1 at *
  refine HI.out.mono ?_
  rintro e w2 ⟨rfl, hb2⟩
  have hlt : w.heap.size < w1.heap.size := by have := H0.out.2.2.2; omega
  have c0 : w2.cell? ⟨w.heap.size, 0, none⟩ = some (.string ⟨#[]⟩) := cell_below hb2 H0.out.2.1
  have f0 : w2.frozen? ⟨w.heap.size, 0, none⟩ = false := (hb2.frozen (p := ⟨w.heap.size, 0, none⟩) hlt).trans H0.out.2.2.1
  have HB := Lib.hid (below_then H0.out.1 hb2)
  clear H0 HI hb2 hlt
  go_wp2_with fail
  refine leaves_cons (f := 35) (args := #[.pointer (some ⟨w.heap.size, 0, none⟩)]) (by simp) (by simp [go_sem]) ?_
  refine (textCatch_idle ⟨w.heap.size, 0, none⟩ _).mono ?_
  rintro e u' w'' ⟨rfl, rfl, rfl⟩
  have c2 : (w2.setCell ⟨w.heap.size, 0, none⟩ (.string (bstr t))).cell? ⟨w.heap.size, 0, none⟩ = some (.string (bstr t)) := World.cell?_setCell_same _ _ _ c0
  have hb2 : Below w.heap.size w (w2.setCell ⟨w.heap.size, 0, none⟩ (.string (bstr t))) := HB.out.setCell (by simp) _
  simp [Leaves, settle, results, Tryd.results21, go_sem, c2, hb2]

set_option maxRecDepth 100000 in
set_option maxHeartbeats 1000000 in
theorem textOfS (t : Str) (m : Nat) (w : World) (hin : ∀ W, Below w.heap.size w W → Calls Tryd.prog 74 #[(.pointer (some ⟨m, 0, none⟩))] W fun e w' => e = .returned (.string (bstr t)) ∧ Below W.heap.size W w') :
    Calls Tryd.prog 21 #[.iface 39 (.pointer (some ⟨m, 0, none⟩))] w fun e w' => e = .returned (.string (bstr t)) ∧ Below w.heap.size w w' := by
  have hmf : ∀ (fn : Fn) (first cap : Array Value) (w : World), (Instr.makeFunc fn first cap).run Tryd.prog w = .ok (.func fn first cap) w := fun _ _ _ _ => rfl
  have hM := mErrS
  have hb : Below w.heap.size w (w.alloc (.cells #[.string ⟨#[]⟩] 9)) := (Below.refl _ _).alloc (Nat.le_refl _) _
  have x0 : (w.alloc (.cells #[.string ⟨#[]⟩] 9)).cell? ⟨w.heap.size, 0, none⟩ = some (.string ⟨#[]⟩) := cell_new w _ _ 0 rfl
  have y0 : (w.alloc (.cells #[.string ⟨#[]⟩] 9)).frozen? ⟨w.heap.size, 0, none⟩ = false := frozen_at w _ _ _ rfl
  have hs : (w.alloc (.cells #[.string ⟨#[]⟩] 9)).heap.size = w.heap.size + 1 := by simp
  have HI := Lib.hid (hin _ hb)
  have H0 := Lib.hid (And.intro hb (And.intro x0 (And.intro y0 hs)))
  clear hin hb x0 y0 hs
  go_enter_defers Tryd.func21, Tryd.ntmps21
  go_wp2_with fail
  generalize w.alloc (.cells #[.string ⟨#[]⟩] 9) = w1 at *
  refine HI.out.mono ?_
  rintro e w2 ⟨rfl, hb2⟩
  have hlt : w.heap.size < w1.heap.size := by have := H0.out.2.2.2; omega
  have c0 : w2.cell? ⟨w.heap.size, 0, none⟩ = some (.string ⟨#[]⟩) := cell_below hb2 H0.out.2.1
  have f0 : w2.frozen? ⟨w.heap.size, 0, none⟩ = false := (hb2.frozen (p := ⟨w.heap.size, 0, none⟩) hlt).trans H0.out.2.2.1
  have HB := Lib.hid (below_then H0.out.1 hb2)
  clear H0 HI hb2 hlt
  go_wp2_with fail
  refine leaves_cons (f := 35) (args := #[.pointer (some ⟨w.heap.size, 0, none⟩)]) (by simp) (by simp [go_sem]) ?_
  refine (textCatch_idle ⟨w.heap.size, 0, none⟩ _).mono ?_
  rintro e u' w'' ⟨rfl, rfl, rfl⟩
  have c2 : (w2.setCell ⟨w.heap.size, 0, none⟩ (.string (bstr t))).cell? ⟨w.heap.size, 0, none⟩ = some (.string (bstr t)) := World.cell?_setCell_same _ _ _ c0
  have hb2 : Below w.heap.size w (w2.setCell ⟨w.heap.size, 0, none⟩ (.string (bstr t))) := HB.out.setCell (by simp) _
  simp [Leaves, settle, results, Tryd.results21, go_sem, c2, hb2]

set_option maxRecDepth 100000 in
set_option maxHeartbeats 1000000 in
theorem textOfW (t : Str) (m : Nat) (w : World) (hin : ∀ W, Below w.heap.size w W → Calls Tryd.prog 76 #[(.pointer (some ⟨m, 0, none⟩))] W fun e w' => e = .returned (.string (bstr t)) ∧ Below W.heap.size W w') :
    Calls Tryd.prog 21 #[.iface 49 (.pointer (some ⟨m, 0, none⟩))] w fun e w' => e = .returned (.string (bstr t)) ∧ Below w.heap.size w w' := by
  have hmf : ∀ (fn : Fn) (first cap : Array Value) (w : World), (Instr.makeFunc fn first cap).run Tryd.prog w = .ok (.func fn first cap) w := fun _ _ _ _ => rfl
  have hM := mErrW
  have hb : Below w.heap.size w (w.alloc (.cells #[.string ⟨#[]⟩] 9)) := (Below.refl _ _).alloc (Nat.le_refl _) _
  have x0 : (w.alloc (.cells #[.string ⟨#[]⟩] 9)).cell? ⟨w.heap.size, 0, none⟩ = some (.string ⟨#[]⟩) := cell_new w _ _ 0 rfl
  have y0 : (w.alloc (.cells #[.string ⟨#[]⟩] 9)).frozen? ⟨w.heap.size, 0, none⟩ = false := frozen_at w _ _ _ rfl
  have hs : (w.alloc (.cells #[.string ⟨#[]⟩] 9)).heap.size = w.heap.size + 1 := by simp
  have HI := Lib.hid (hin _ hb)
  have H0 := Lib.hid (And.intro hb (And.intro x0 (And.intro y0 hs)))
  clear hin hb x0 y0 hs
  go_enter_defers Tryd.func21, Tryd.ntmps21
  go_wp2_with fail
  generalize w.alloc (.cells #[.string ⟨#[]⟩] 9) = w1 at *
  refine HI.out.mono ?_
  rintro e w2 ⟨rfl, hb2⟩
  have hlt : w.heap.size < w1.heap.size := by have := H0.out.2.2.2; omega
  have c0 : w2.cell? ⟨w.heap.size, 0, none⟩ = some (.string ⟨#[]⟩) := cell_below hb2 H0.out.2.1
  have f0 : w2.frozen? ⟨w.heap.size, 0, none⟩ = false := (hb2.frozen (p := ⟨w.heap.size, 0, none⟩) hlt).trans H0.out.2.2.1
  have HB := Lib.hid (below_then H0.out.1 hb2)
  clear H0 HI hb2 hlt
  go_wp2_with fail
  refine leaves_cons (f := 35) (args := #[.pointer (some ⟨w.heap.size, 0, none⟩)]) (by simp) (by simp [go_sem]) ?_
  refine (textCatch_idle ⟨w.heap.size, 0, none⟩ _).mono ?_
  rintro e u' w'' ⟨rfl, rfl, rfl⟩
  have c2 : (w2.setCell ⟨w.heap.size, 0, none⟩ (.string (bstr t))).cell? ⟨w.heap.size, 0, none⟩ = some (.string (bstr t)) := World.cell?_setCell_same _ _ _ c0
  have hb2 : Below w.heap.size w (w2.setCell ⟨w.heap.size, 0, none⟩ (.string (bstr t))) := HB.out.setCell (by simp) _
  simp [Leaves, settle, results, Tryd.results21, go_sem, c2, hb2]

theorem textOf_any {n at_ : Int} {k : Nat} {ty : TypeId} {x : Value} {t : Str} (w : World) (h : TChain w n at_ k ty x t) (hn : inR n) (ha : inR at_) (hl : t.length ≤ 1000000) (hL : Lay w) :
    Calls Tryd.prog 21 #[.iface ty x] w fun e w' => e = .returned (.string (bstr t)) ∧ Below w.heap.size w w' := by
  have hin := fun W (hb : Below w.heap.size w W) => err_any h hn ha hl W hb (hL.below hb)
  cases h with
  | code => exact textOfC _ n w hin
  | spot eb g0 g1 => exact textOfS _ eb w hin
  | wrap g2 k2 ty2 x2 s2 t2 g0 g1 g3 => exact textOfW _ g2 w hin

theorem inR_nat (n : Nat) (h : n ≤ 1000000) : inR (n : Int) := ⟨by omega, by omega⟩

set_option maxRecDepth 100000 in
set_option maxHeartbeats 1000000 in
theorem render_code {n at_ : Int} {k : Nat} {ty : TypeId} {x : Value} {t : Str} (v : Value) (w : World) (h : TChain w n at_ k ty x t) (hW : WChain w 28 (.int .i64 n) k ty x) (hk : k ≤ 100) (hn : inR n) (ha : inR at_) (hl : t.length ≤ 1000000) (hL : Lay w) :
    Calls Tryd.prog 13 #[v, .iface ty x] w fun e w' => e = .returned (.string (bstr t)) ∧ Below w.heap.size w w' := by
  have HT := Lib.hid (textOf_any w h hn ha hl hL)
  have HP := Lib.hid (fun w2 (hb : Below w.heap.size w w2) => place_code k ty x n w2 (hL.below hb).et (hW.lower hb) (by omega))
  clear h hW hL
  go_enter Tryd.func13, Tryd.ntmps13
  go_wp2_with fail
  refine HT.out.mono ?_
  rintro e w1 ⟨rfl, hb1⟩
  have HB := Lib.hid hb1
  clear hb1
  go_wp2_with fail
  refine (HP.out w1 HB.out).mono ?_
  rintro e w2 ⟨rfl, hb2⟩
  have HB2 := Lib.hid (below_then HB.out hb2)
  clear hb2
  go_wp2_with fail
  go_returns
  exact ⟨rfl, HB2.out⟩

/-- A line, a column, and a text. -/
def rendT (ln cl : Int) (t : Str) : Str := Lib.itoa ln ++ 58 :: (Lib.itoa cl ++ 58 :: 32 :: t)

set_option maxRecDepth 100000 in
set_option maxHeartbeats 1000000 in
theorem render_spot {n at_ : Int} {k eb : Nat} {ty : TypeId} {x : Value} {t : Str} (A : Option Addr) (l : Str) (cp : Nat) (w : World) (h : TChain w n at_ k ty x t) (hW : WChain w 39 (.pointer (some ⟨eb, 0, none⟩)) k ty x) (hk : k ≤ 100) (hat : w.cell? ⟨eb, 0, none⟩ = some (.int .i64 at_))
    (hn : inR n) (ha : inR at_) (hl : t.length ≤ 1000000) (hL : Lay w) (hr : Rd w 1 A l.length (u8s l)) (hcap : l.length ≤ cp) (hm : l.length ≤ 5000) (ln cl : Int) (hV : whereV l at_ = .tuple #[.int .i64 ln, .int .i64 cl]) (hln : inR ln) (hcl : inR cl) :
    Calls Tryd.prog 13 #[.slice A l.length cp, .iface ty x] w fun e w' => e = .returned (.string (bstr (rendT ln cl t))) ∧ Below w.heap.size w w' := by
  have HT := Lib.hid (textOf_any w h hn ha hl hL)
  have HP := Lib.hid (fun w2 (hb : Below w.heap.size w w2) => place_spot k ty x eb at_ w2 (hL.below hb).et (hW.lower hb) (by omega) (cell_below hb hat))
  have HW := Lib.hid (fun w2 (hb : Below w.heap.size w w2) => where_any A l l.length cp at_ w2 (hr.below hb) hcap (by omega))
  rw [hV] at HW
  have HI := Lib.hid (fun w2 (hb : Below w.heap.size w w2) => itoa_any ln w2 hln (hL.below hb))
  have HJ := Lib.hid (fun w2 (hb : Below w.heap.size w w2) => itoa_any cl w2 hcl (hL.below hb))
  have l1 := itoa_len ln hln
  have l2 := itoa_len cl hcl
  unfold rendT
  obtain ⟨I, hI⟩ : ∃ I, Lib.itoa ln = I := ⟨_, rfl⟩
  obtain ⟨J, hJ⟩ : ∃ J, Lib.itoa cl = J := ⟨_, rfl⟩
  rw [hI] at HI l1 ⊢
  rw [hJ] at HJ l2 ⊢
  have a1 : ∀ w, (Op.stringOp .add (bstr I) ⟨#[58]⟩).run Tryd.prog w = .ok (.string (bstr (I ++ [58]))) w := add_bstr I [58] (I ++ [58]) rfl (by show I.length + 1 ≤ _; omega)
  have a2 := add_bstr (I ++ [58]) J (I ++ 58 :: J) (by simp) (by rw [List.length_append]; show I.length + 1 + J.length ≤ _; omega)
  have a3 : ∀ w, (Op.stringOp .add (bstr (I ++ 58 :: J)) ⟨#[58, 32]⟩).run Tryd.prog w = .ok (.string (bstr (I ++ 58 :: (J ++ [58, 32])))) w := add_bstr (I ++ 58 :: J) [58, 32] (I ++ 58 :: (J ++ [58, 32])) (by simp) (by rw [List.length_append, List.length_cons]; show I.length + (J.length + 1) + 2 ≤ _; omega)
  have a4 := add_bstr (I ++ 58 :: (J ++ [58, 32])) t (I ++ 58 :: (J ++ 58 :: 32 :: t)) (by simp) (by rw [List.length_append, List.length_cons, List.length_append]; show I.length + (J.length + 2 + 1) + t.length ≤ _; omega)
  clear h hW hL hr hI hJ l1 l2 hat hV hl hm hcap
  go_enter Tryd.func13, Tryd.ntmps13
  go_wp2_with fail
  refine HT.out.mono ?_
  rintro e w1 ⟨rfl, hb1⟩
  have HB := Lib.hid hb1
  clear hb1
  go_wp2_with fail
  refine (HP.out w1 HB.out).mono ?_
  rintro e w2 ⟨rfl, hb2⟩
  have HB2 := Lib.hid (below_then HB.out hb2)
  clear hb2
  go_wp2_with fail
  refine (HW.out w2 HB2.out).mono ?_
  rintro e w3 ⟨rfl, hb3⟩
  have HB3 := Lib.hid (below_then HB2.out hb3)
  clear hb3
  go_wp2_with fail
  refine (HI.out w3 HB3.out).mono ?_
  rintro e w4 ⟨rfl, hb4⟩
  have HB4 := Lib.hid (below_then HB3.out hb4)
  clear hb4
  go_wp2_with fail
  refine (HJ.out w4 HB4.out).mono ?_
  rintro e w5 ⟨rfl, hb5⟩
  have HB5 := Lib.hid (below_then HB4.out hb5)
  clear hb5
  go_wp2_with fail
  go_returns
  exact ⟨rfl, HB5.out⟩
end Go.Proofs.YtbbhnahbfhjgeaaDoor
