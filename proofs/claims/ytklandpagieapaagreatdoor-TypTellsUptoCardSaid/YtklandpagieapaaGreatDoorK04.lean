/-
  What is put in, and how many nodes that has: by the code.
  Whether two types are alike: by the code.
  Types in new memory, by the code.
  A type in new memory; a row, a function's type, a variable: by the code.
  A row's type, a function's type, a variable: by the code. Types that are alike have one text.
-/
import Derived.Test.YtklandpagieapaaGreatDoorK03
import Derived.Test.YtklandpagieapaaGreatDoorK02
import Derived.Test.YtklandpagieapaaGreatDoorK00
import Derived.Deep.AppendLies
import Derived.Deep.RegionWith
namespace Go.Proofs.YtklandpagieapaaGreatDoor
open Go.ChangeShapes Go.WideShapes Go.ChangeAt Go.RowKit Go.Sort Go.Maps
set_option linter.unusedVariables false
set_option linter.unusedSimpArgs false
attribute [local irreducible] Go.wpQuiet

/-- How many nodes the types of a map have, by a map. -/
structure SM (F : Int → Option Lf) (c : Nat) (bT : Nat) (w : World) : Prop where
  ex : ∃ Dt, IM w bT 4000000 Dt ∧ (∀ n, (Lit.int .i64 n).wf = true → (F n).isSome = true → Dt.atKey (.int .i64 n) (.lit (.int .i64 0)) = .lit (.int .i64 1)) ∧ Maps.size Dt = c
theorem SM.below {F : Int → Option Lf} {c bT : Nat} {w w' : World} (h : SM F c bT w) (hb : Below w.heap.size w w') : SM F c bT w' := by
  obtain ⟨Dt, h1, h2⟩ := h.ex
  exact ⟨Dt, h1.below hb, h2⟩
set_option maxRecDepth 100000 in
theorem SM.look {F : Int → Option Lf} {c bT : Nat} {w : World} (h : SM F c bT w) {n : Int} (hn : (Lit.int .i64 n).wf = true) (hF : (F n).isSome = true) :
    (Instr.lookup 59 (.map (some bT)) (.int .i64 n) false).run Tryz.prog w = .ok (.int .i64 1) w := by
  obtain ⟨Dt, h1, h2, _⟩ := h.ex
  obtain ⟨cv, hlk, hcv, _⟩ := World.ownsMap.lookup_int h1 lawInt Tryz.underlying59 Tryz.underlying3 (zeroInt w) (keyOf_int_mk Tryz.underlying3 hn)
  have : cv = 1 := by rw [h2 n hn hF] at hcv; injection hcv with hcv; injection hcv with _ hcv; exact hcv.symm
  rw [this] at hlk
  exact hlk
theorem SM.len {F : Int → Option Lf} {c bT : Nat} {w : World} (h : SM F c bT w) (ty : TypeId) : (Builtin.len_ #[59] ty #[.map (some bT)]).run Tryz.prog w = .ok (.int .i64 c) w := by
  obtain ⟨Dt, h1, _, h2⟩ := h.ex
  rw [← h2]
  exact World.ownsMap.len h1 Tryz.underlying59 ty

set_option maxRecDepth 100000 in
set_option maxHeartbeats 2000000 in
theorem sizes_nil (F : Int → Option Lf) (hF : ∀ n, F n = none) (w : World) :
    Calls Tryz.prog 35 #[.map none] w fun e w' => ∃ bT, e = .returned (.map (some bT)) ∧ SM F 0 bT w' ∧ Below w.heap.size w w' := by
  have hmm := @run_makeMap Tryz.prog
  have hnx : ∀ ty, (Instr.next (.pointer (some ⟨(w.alloc (.map #[] 0)).heap.size, 0, none⟩)) false ty).run Tryz.prog ((w.alloc (.map #[] 0)).alloc (.mapIter none 0 #[] 0)) = _ := fun ty => run_next_nilMap _ ty 0 0 #[]
  have hnx2 : ∀ ty, (Instr.next (.pointer (some ⟨w.heap.size + 1, 0, none⟩)) false ty).run Tryz.prog ((w.alloc (.map #[] 0)).alloc (.mapIter none 0 #[] 0)) = .ok (.tuple #[.bool false]) ((w.alloc (.map #[] 0)).alloc (.mapIter none 0 #[] 0)) := fun ty => by
    have h := hnx ty
    rw [World.size_alloc] at h
    exact h
  have hb1 : RowKit.Below w.heap.size w ((w.alloc (.map #[] 0)).alloc (.mapIter none 0 #[] 0)) := ((Below.refl _ _).alloc (Nat.le_refl _) _).alloc (by simp) _
  have HT0 := Lib.hid (World.ownsMap_made (H := Unit) w Tryz.prog 3 (plainElem Tryz.prog 3))
  have HB1 := Lib.hid hb1
  have hrg := run_range_nilMap (P := Tryz.prog) (w.alloc (.map #[] 0)) 46 3 25 Tryz.underlying46
  rw [World.size_alloc] at hrg
  clear hb1 hnx
  go_enter Tryz.func35, Tryz.ntmps35
  go_wp2_with fail
  refine wp_loop_rounds 1 ?_
  rw [rounds_succ]
  go_wp2_with fail
  go_returns
  exact ⟨w.heap.size, rfl, ⟨.map [], (HT0.out.alloc _).mono (Nat.zero_le _), (fun n _ h => by rw [hF n] at h; cases h), rfl⟩, HB1.out⟩

theorem sizes_any (F : Int → Option Lf) (c : Nat) (hF : OkF F) (m : Value) (w : World) (h : LM F c w m) :
    Calls Tryz.prog 35 #[m] w fun e w' => ∃ bT, e = .returned (.map (some bT)) ∧ SM F c bT w' ∧ Below w.heap.size w w' := by
  cases h with
  | none h hc => subst hc; exact sizes_nil F h w
  | own bk k D hk h hD => exact (sizes_own F c hF bk k D hk w h hD).mono fun e w' ⟨bT, Dt, h1, h2, h3, h4, h5⟩ => ⟨bT, h1, ⟨Dt, h2, h3, h4⟩, h5⟩

/-- What is put in lies in block p. -/
structure PA (F G : Int → Option Lf) (c1 c2 : Nat) (m1 m2 : Value) (b1 b2 : Nat) (w : World) (p : Nat) : Prop where
  q0 : w.cell? ⟨p, 0, none⟩ = some m1
  q1 : w.cell? ⟨p, 1, none⟩ = some m2
  q2 : w.cell? ⟨p, 2, none⟩ = some (.map (some b1))
  q3 : w.cell? ⟨p, 3, none⟩ = some (.map (some b2))
  l1 : LM F c1 w m1
  l2 : LM G c2 w m2
  s1 : SM F c1 b1 w
  s2 : SM G c2 b2 w
theorem PA.below {F G : Int → Option Lf} {c1 c2 : Nat} {m1 m2 : Value} {b1 b2 : Nat} {w w' : World} {p : Nat} (h : PA F G c1 c2 m1 m2 b1 b2 w p) (hb : Below w.heap.size w w') : PA F G c1 c2 m1 m2 b1 b2 w' p :=
  ⟨cell_below hb h.q0, cell_below hb h.q1, cell_below hb h.q2, cell_below hb h.q3, h.l1.below hb, h.l2.below hb, h.s1.below hb, h.s2.below hb⟩

set_option maxRecDepth 100000 in
set_option maxHeartbeats 2000000 in
theorem pmay_nil (F G : Int → Option Lf) (c1 c2 : Nat) (m1 : Value) (b1 b2 : Nat) (w : World) (p : Nat) (h : PA F G c1 c2 m1 (.map none) b1 b2 w p) :
    Calls Tryz.prog 36 #[.pointer (some ⟨p, 0, none⟩)] w fun e w' => e = .returned (.bool true) ∧ Below w.heap.size w w' := by
  obtain rfl : c2 = 0 := by cases h.l2 with | none _ hc => exact hc
  have hnx : ∀ ty, (Instr.next (.pointer (some ⟨w.heap.size, 0, none⟩)) false ty).run Tryz.prog (w.alloc (.mapIter none 0 #[] 0)) = _ := fun ty => run_next_nilMap _ ty 0 0 #[]
  have hb : RowKit.Below w.heap.size w (w.alloc (.mapIter none 0 #[] 0)) := (Below.refl _ _).alloc (Nat.le_refl _) _
  have hrg := run_range_nilMap (P := Tryz.prog) w 46 3 25 Tryz.underlying46
  obtain ⟨k0, k1, k2, k3, l1, l2, l3, l4⟩ := h.below hb
  have k1' := h.q1
  have HB := Lib.hid hb
  have HL := Lib.hid (And.intro l1 (And.intro l2 (And.intro l3 l4)))
  clear h hb l1 l2 l3 l4
  go_enter Tryz.func36, Tryz.ntmps36
  go_wp2_with fail
  refine wp_loop_rounds 1 ?_
  rw [rounds_succ]
  go_wp2_with fail
  generalize (w.alloc (.mapIter none 0 #[] 0)) = w1 at *
  have kq0 := cell_regrown k0
  have kq1 := cell_regrown k1
  have kq2 := cell_regrown k2
  have kq3 := cell_regrown k3
  have kl1 : ∀ dd os ty, (Builtin.len_ #[46] ty #[m1]).run Tryz.prog (grow (redrawn w1 dd) os) = .ok (.int .i64 c1) (grow (redrawn w1 dd) os) := fun dd os ty => (HL.out.1.below (below_regrown w1 dd os)).len ty
  have kl3 : ∀ dd os ty, (Builtin.len_ #[59] ty #[.map (some b1)]).run Tryz.prog (grow (redrawn w1 dd) os) = .ok (.int .i64 c1) (grow (redrawn w1 dd) os) := fun dd os ty => (HL.out.2.2.1.below (below_regrown w1 dd os)).len ty
  have kl4 : ∀ dd os ty, (Builtin.len_ #[59] ty #[.map (some b2)]).run Tryz.prog (grow (redrawn w1 dd) os) = .ok (.int .i64 ((0 : Nat) : Int)) (grow (redrawn w1 dd) os) := fun dd os ty => (HL.out.2.2.2.below (below_regrown w1 dd os)).len ty
  refine wp_region_quiet_below (by kernel_rfl) (by kernel_rfl) ?_
  repeat (quiet_step (fail))
  refine wpQuiet_nil ?_
  intro _ hw
  obtain ⟨⟨dq, osq⟩, hw''⟩ := hw
  subst hw''
  have H2 := Lib.hid (below_then HB.out (below_regrown w1 dq osq))
  clear kq0 kq1 kq2 kq3 kl1 kl3 kl4 k0 k1 k2 k3 k1'
  go_wp2_with fail
  go_returns
  exact ⟨rfl, H2.out⟩

set_option maxRecDepth 100000 in
set_option maxHeartbeats 2000000 in
theorem pmay_own (F G : Int → Option Lf) (c1 c2 : Nat) (m1 : Value) (b1 b2 : Nat) (w : World) (p bk : Nat) (hG : ∀ n x, G n = some x → x.k = 4) (h : PA F G c1 c2 m1 (.map (some bk)) b1 b2 w p) :
    Calls Tryz.prog 36 #[.pointer (some ⟨p, 0, none⟩)] w fun e w' => e = .returned (.bool true) ∧ Below w.heap.size w w' := by
  obtain ⟨k, D, hk, hown, hD⟩ : ∃ k D, k ≤ 4000000 ∧ OM w bk k D ∧ MapIs G c2 D := by cases h.l2 with | own _ k D hk h hD => exact ⟨k, D, hk, h, hD⟩
  have k1 := h.q1
  have HA := Lib.hid h
  have HL := Lib.hid hown.lt
  have HO := Lib.hid (And.intro hown (And.intro hD hG))
  clear h hown hD hG hk
  go_enter Tryz.func36, Tryz.ntmps36
  go_wp2_with (first
    | (at_range; refine wpList_range_own _ rfl _ 46 rfl 3 25 lawInt Tryz.underlying46 leafR bk k D rfl HO.out.1 ?_; intro w0 hrg0 hg0 hs0)
    | fail)
  go_frame
  have HR0 := Lib.hid (And.intro hrg0 (show Below w.heap.size w w0 from ⟨hg0.os, hg0.tape, hg0.output, hg0.size, fun i hi => hg0.block i hi (by simp)⟩))
  clear hrg0 hg0 hs0 k1
  go_loopw [] (fun wr => ∃ left cnt, wr.ranges Tryz.prog 3 leafR bk w.heap.size k D left cnt ∧ Below w.heap.size w wr) (fun wr => wr.rangeLeft bk w.heap.size)
  case atStart => exact ⟨_, _, HR0.out.1, HR0.out.2⟩
  case round =>
    obtain ⟨left, cnt, hrg, hbr⟩ := hrel
    have HR := Lib.hid (And.intro hrg hbr)
    clear hrg hbr
    go_wp2_with (first
      | (at_next; refine wpList_next_ranges _ rfl _ rfl 3 lawInt leafR (Value.int .i64) (fun x : Lf => Value.agg x.arr) (fun key kl hkey => by obtain ⟨x, rfl, _⟩ := Maps.keyOf_int_inv Tryz.underlying3 hkey; exact ⟨x, rfl⟩) (fun v y hv => by obtain ⟨x, rfl, _⟩ := leafR_inv hv; exact ⟨x, rfl⟩) bk w.heap.size k D left cnt rfl HR.out.1 ?_ ?_)
      | fail)
    · intro hc0 hl0
      clear hc0 hl0
      have HP := Lib.hid (HA.out.below HR.out.2)
      have kq0 := cell_regrown HP.out.q0
      have kq1 := cell_regrown HP.out.q1
      have kq2 := cell_regrown HP.out.q2
      have kq3 := cell_regrown HP.out.q3
      have kl1 : ∀ dd os ty, (Builtin.len_ #[46] ty #[m1]).run Tryz.prog (grow (redrawn wr dd) os) = .ok (.int .i64 c1) (grow (redrawn wr dd) os) := fun dd os ty => (HP.out.l1.below (below_regrown wr dd os)).len ty
      have kl2 : ∀ dd os ty, (Builtin.len_ #[46] ty #[.map (some bk)]).run Tryz.prog (grow (redrawn wr dd) os) = .ok (.int .i64 c2) (grow (redrawn wr dd) os) := fun dd os ty => (HP.out.l2.below (below_regrown wr dd os)).len ty
      have kl3 : ∀ dd os ty, (Builtin.len_ #[59] ty #[.map (some b1)]).run Tryz.prog (grow (redrawn wr dd) os) = .ok (.int .i64 c1) (grow (redrawn wr dd) os) := fun dd os ty => (HP.out.s1.below (below_regrown wr dd os)).len ty
      have kl4 : ∀ dd os ty, (Builtin.len_ #[59] ty #[.map (some b2)]).run Tryz.prog (grow (redrawn wr dd) os) = .ok (.int .i64 c2) (grow (redrawn wr dd) os) := fun dd os ty => (HP.out.s2.below (below_regrown wr dd os)).len ty
      go_wp2_with fail
      refine wp_region_quiet_below (by kernel_rfl) (by kernel_rfl) ?_
      repeat (quiet_step (fail))
      refine wpQuiet_nil ?_
      intro _ hw
      obtain ⟨⟨dq, osq⟩, hw''⟩ := hw
      subst hw''
      have H2 := Lib.hid (below_then HR.out.2 (below_regrown wr dq osq))
      clear kq0 kq1 kq2 kq3 kl1 kl2 kl3 kl4
      go_wp2_with fail
      go_returns
      exact ⟨rfl, H2.out⟩
    · intro x cf kl ya yb w1 cnt1 hkey hlk hv hat hrg1 hlt hg1 hs1 hen
      obtain ⟨x', ex, hkl, hwx⟩ := Maps.keyOf_int_inv Tryz.underlying3 hkey
      injection ex with _ ex
      subst ex
      subst hkl
      obtain ⟨cf', hcf, hya⟩ := leafR_inv hv
      obtain rfl := Lf.val_inj hcf
      injection hya with hya _
      subst hya
      have hF : G x = some cf := by
        have h1 := HO.out.2.1.has x hwx
        rw [has_true_of_atKey hat] at h1
        obtain ⟨z, hz⟩ := Option.isSome_iff_exists.1 h1.symm
        have h2 := HO.out.2.1.val x hwx z hz Lf.zeroD
        rw [hat] at h2
        injection h2 with h2
        rw [hz, h2]
      have hk4 : cf.k = 4 := HO.out.2.2 x cf hF
      have qk : (cf.k != 4) = false := by rw [hk4]; rfl
      have hb1 : RowKit.Below w1.heap.size w1 (w1.alloc (.cells cf.arr 25)) := (Below.refl _ _).alloc (Nat.le_refl _) _
      have HRG := Lib.hid (And.intro (hrg1.kept (grown_of hb1) (by simp) (by simp)) (And.intro hlt (And.intro hg1 (And.intro hs1 hb1))))
      clear hkey hlk hv hat hrg1 hlt hg1 hs1 hF hwx hcf hb1 hk4
      go_wp2_with fail
      go_roundw
      case rel =>
        refine ⟨_, cnt1, HRG.out.1, ?_⟩
        exact (HR.out.2.grown HRG.out.2.2.1 (Nat.le_of_lt HR.out.1.lt) (fun q hq => by cases hq; exact Nat.le_refl _)).trans (HRG.out.2.2.2.2.mono (by have := HRG.out.2.2.2.1; have := HR.out.2.size; omega))
      case measure => rw [HRG.out.1.left_eq, HR.out.1.left_eq]; exact HRG.out.2.1
theorem pmay_any (F G : Int → Option Lf) (c1 c2 : Nat) (m1 m2 : Value) (b1 b2 : Nat) (w : World) (p : Nat) (hG : ∀ n x, G n = some x → x.k = 4) (h : PA F G c1 c2 m1 m2 b1 b2 w p) :
    Calls Tryz.prog 36 #[.pointer (some ⟨p, 0, none⟩)] w fun e w' => e = .returned (.bool true) ∧ Below w.heap.size w w' := by
  have hl := h.l2
  cases hl with
  | none _ _ => exact pmay_nil F G c1 c2 m1 b1 b2 w p h
  | own bk k D hk hh hD => exact pmay_own F G c1 c2 m1 b1 b2 w p bk hG h
end Go.Proofs.YtklandpagieapaaGreatDoor

namespace Go.Proofs.YtklandpagieapaaGreatDoor
open Go.ChangeShapes Go.WideShapes Go.ChangeAt Go.RowKit Go.Sort
set_option linter.unusedVariables false
set_option linter.unusedSimpArgs false
attribute [local irreducible] Go.wpQuiet

mutual
/-- Alike: field by field, part by part. -/
def Ty.eqv : Ty → Ty → Prop
  | .mk d l, .mk e m => d.kind = e.kind ∧ d.n = e.n ∧ d.tail = e.tail ∧ d.labels = e.labels ∧ tyL l m
def tyL : List Ty → List Ty → Prop
  | [], [] => True
  | x :: l, y :: m => x.eqv y ∧ tyL l m
  | _, _ => False
end
mutual
theorem Ty.eqv_refl : ∀ (t : Ty), t.eqv t
  | .mk d l => ⟨rfl, rfl, rfl, rfl, tyL_refl l⟩
theorem tyL_refl : ∀ (l : List Ty), tyL l l
  | [] => trivial
  | x :: l => ⟨x.eqv_refl, tyL_refl l⟩
end
noncomputable def tyB (x y : Ty) : Bool := @decide (x.eqv y) (Classical.propDecidable _)
theorem tyB_true {x y : Ty} (h : x.eqv y) : tyB x y = true := @decide_eq_true _ (Classical.propDecidable _) h
theorem tyB_false {x y : Ty} (h : ¬ x.eqv y) : tyB x y = false := @decide_eq_false _ (Classical.propDecidable _) h
theorem tyB_iff {x y : Ty} : tyB x y = true ↔ x.eqv y := @decide_eq_true_iff _ (Classical.propDecidable _)
theorem tyL_iff : ∀ (l m : List Ty), l.length = m.length → (tyL l m ↔ ∀ j (h : j < l.length) (h' : j < m.length), l[j].eqv m[j])
  | [], [], _ => by simp [tyL]
  | x :: l, y :: m, h => by
    simp only [tyL]
    rw [tyL_iff l m (by simpa using h)]
    constructor
    · intro hh j hj hj'
      cases j with
      | zero => exact hh.1
      | succ j => exact hh.2 j (by simpa using hj) (by simpa using hj')
    · intro hh
      exact ⟨hh 0 (by simp) (by simp), fun j hj hj' => hh (j + 1) (by simpa using hj) (by simpa using hj')⟩
  | [], y :: m, h => by simp at h
  | x :: l, [], h => by simp at h
theorem tyL_len : ∀ {l m : List Ty}, tyL l m → l.length = m.length
  | [], [], _ => rfl
  | x :: l, y :: m, h => by simp only [tyL] at h; rw [List.length_cons, List.length_cons, tyL_len h.2]
  | [], y :: m, h => by simp [tyL] at h
  | x :: l, [], h => by simp [tyL] at h
theorem list_eq {l m : List Str} (h : l.length = m.length) (hh : ∀ j (h : j < l.length) (h' : j < m.length), l[j] = m[j]) : l = m := List.ext_getElem h (fun j h1 h2 => hh j h1 h2)

set_option maxRecDepth 100000 in
set_option maxHeartbeats 2000000 in
theorem eqStr_any (A B : Option Addr) (l r : List Str) (n c m d : Nat) (w : World) (hr : Rd w 1 A n (strs l)) (hs : Rd w 1 B m (strs r)) (hm : n ≤ maxLen) (hm2 : m ≤ maxLen) :
    Calls Tryz.prog 46 #[.slice A n c, .slice B m d] w fun e w' => e = .returned (.bool (decide (l = r))) ∧ Below w.heap.size w w' := by
  have hl := rd_len hr
  have hl2 := rd_len hs
  subst hl
  subst hl2
  unfold maxLen at hm hm2
  by_cases hlen : l.length = r.length
  · go_enter Tryz.func46, Tryz.ntmps46
    have hlz : (((l.length : Nat) : Int) == ((r.length : Nat) : Int)) = true := by rw [hlen]; simp
    go_wp2_with fail
    clear hlz
    go_loopw [13] (fun i wr => ∃ k : Nat, i = .int .i64 k ∧ k ≤ l.length ∧ l.take k = r.take k ∧ Below w.heap.size w wr) (fun i _ => l.length - (intOf i).toNat)
    case atStart => exact ⟨0, rfl, by omega, by simp, Below.refl _ _⟩
    case round =>
      obtain ⟨k, rfl, hk, he, hb⟩ := hrel
      by_cases hlt : k < l.length
      · obtain ⟨b, o, rfl, hc⟩ := (hr.below hb).str (k := k) hlt
        obtain ⟨b', o', rfl, hc'⟩ := (hs.below hb).str (k := k) (by omega)
        have h1 := hc k hlt
        have h2 := hc' k (by omega)
        clear hc hr hc' hs
        have HE := Lib.hid he
        clear he
        by_cases hq0 : l[k] = r[k]
        · have hq : ((bstr l[k]).toList == (bstr r[k]).toList) = true := by rw [beq_bstr]; simpa using hq0
          have HQ := Lib.hid hq0
          clear hq0
          go_wp2_with fail
          have i1 : (k : Int) < (l.length : Int) := by omega
          have i2 : (k : Int) < (r.length : Int) := by omega
          go_quiet (fail)
          clear i1 i2
          go_wp2_with fail
          go_roundw
          case rel => exact ⟨k + 1, by go_num, by omega, by rw [List.take_succ_eq_append_getElem hlt, List.take_succ_eq_append_getElem (by omega), HE.out, HQ.out], below_drewN hb _⟩
          case measure => simp [intOf] <;> omega
        · have hq : ((bstr l[k]).toList == (bstr r[k]).toList) = false := by rw [beq_bstr]; simpa using hq0
          have HQ := Lib.hid hq0
          clear hq0
          go_wp2_with fail
          have i1 : (k : Int) < (l.length : Int) := by omega
          have i2 : (k : Int) < (r.length : Int) := by omega
          go_quiet (fail)
          clear i1 i2
          go_wp2_with fail
          go_returns
          exact ⟨by rw [decide_eq_false (show ¬ l = r from fun h => HQ.out (by subst h; rfl))]; rfl, below_drewN hb _⟩
      · go_wp2_with fail
        go_returns
        obtain rfl : k = l.length := by omega
        refine ⟨?_, hb⟩
        rw [List.take_length, hlen, List.take_length] at he
        rw [decide_eq_true he]; rfl
  · go_enter Tryz.func46, Tryz.ntmps46
    have hlz : (((l.length : Nat) : Int) == ((r.length : Nat) : Int)) = false := by rw [beq_eq_false_iff_ne]; omega
    go_wp2_with fail
    go_returns
    exact ⟨by rw [decide_eq_false (show ¬ l = r from fun h => hlen (by rw [h]))]; rfl, Below.refl _ _⟩

set_option maxRecDepth 100000 in
set_option maxHeartbeats 4000000 in
theorem same_any (w0 : World) (x : Ty) (hIn : x.In w0) : ∀ (y : Ty), y.In w0 → ∀ (b o b' o' : Nat) (W : World), x.d.At w0 b o → y.d.At w0 b' o' → Below w0.heap.size w0 W →
    Calls Tryz.prog 26 #[.pointer (some ⟨b, o, none⟩), .pointer (some ⟨b', o', none⟩)] W fun r w' => r = .returned (.bool (tyB x y)) ∧ Below W.heap.size W w' := by
  induction hIn with
  | mk d l lab par cap sub ih =>
  intro y hy b o b' o' W hAx hAy hb
  obtain ⟨e, m⟩ := y
  have HI := Lib.hid (Ty.In.mk d l lab par cap sub)
  have HY := Lib.hid hy
  have HIH := Lib.hid ih
  have HX := Lib.hid (fun V (h : Below w0.heap.size w0 V) => (show d.At w0 b o from hAx).lower h)
  have HYA := Lib.hid (fun V (h : Below w0.heap.size w0 V) => (show e.At w0 b' o' from hAy).lower h)
  have HB := Lib.hid hb
  have HLP := Lib.hid (And.intro (show l.length = d.pn from HI.out.len) (show m.length = e.pn from HY.out.len))
  have HCX := Lib.hid (show d.ln ≤ d.lc ∧ d.lc ≤ maxLen ∧ d.pn ≤ d.pc ∧ d.pc ≤ maxLen ∧ d.ln ≤ 4000000 ∧ d.pn ≤ 4000000 from HI.out.cap)
  have HCY := Lib.hid (show e.ln ≤ e.lc ∧ e.lc ≤ maxLen ∧ e.pn ≤ e.pc ∧ e.pc ≤ maxLen ∧ e.ln ≤ 4000000 ∧ e.pn ≤ 4000000 from HY.out.cap)
  have HLX := Lib.hid (show Rd w0 1 d.lA d.ln (strs d.labels) from HI.out.lab)
  have HLY := Lib.hid (show Rd w0 1 e.lA e.ln (strs e.labels) from HY.out.lab)
  clear lab par cap sub ih hy hAx hAy
  obtain ⟨c0, c1, c2, c3, c4⟩ := HX.out _ hb
  obtain ⟨f0, f1, f2, f3, f4⟩ := HYA.out _ hb
  clear hb
  by_cases h1 : ¬ (d.kind = e.kind)
  · have HA := Lib.hid (show tyB (.mk d l) (.mk e m) = false from tyB_false (fun h => h1 h.1))
    have q : (d.kind != e.kind) = true := by rw [bne_iff_ne]; omega
    clear h1
    go_enter Tryz.func26, Tryz.ntmps26
    go_wp2_with fail
    go_quiet (fail)
    go_wp2_with fail
    go_returns
    exact ⟨by rw [HA.out]; rfl, below_drewN (Below.refl _ _) _⟩
  have h1 : d.kind = e.kind := Classical.not_not.1 h1
  have qh1 : (d.kind != e.kind) = false := by rw [h1]; simp
  by_cases h2 : ¬ (d.n = e.n)
  · have HA := Lib.hid (show tyB (.mk d l) (.mk e m) = false from tyB_false (fun h => h2 h.2.1))
    have q : (d.n != e.n) = true := by rw [bne_iff_ne]; omega
    clear h2
    go_enter Tryz.func26, Tryz.ntmps26
    go_wp2_with fail
    go_quiet (fail)
    go_wp2_with fail
    go_returns
    exact ⟨by rw [HA.out]; rfl, below_drewN (Below.refl _ _) _⟩
  have h2 : d.n = e.n := Classical.not_not.1 h2
  have qh2 : (d.n != e.n) = false := by rw [h2]; simp
  by_cases h3 : ¬ (d.tail = e.tail)
  · have HA := Lib.hid (show tyB (.mk d l) (.mk e m) = false from tyB_false (fun h => h3 h.2.2.1))
    have q : (d.tail != e.tail) = true := by rw [bne_iff_ne]; omega
    clear h3
    go_enter Tryz.func26, Tryz.ntmps26
    go_wp2_with fail
    go_quiet (fail)
    go_wp2_with fail
    go_returns
    exact ⟨by rw [HA.out]; rfl, below_drewN (Below.refl _ _) _⟩
  have h3 : d.tail = e.tail := Classical.not_not.1 h3
  have qh3 : (d.tail != e.tail) = false := by rw [h3]; simp
  by_cases h7 : ¬ (d.pn = e.pn)
  · have HA := Lib.hid (show tyB (.mk d l) (.mk e m) = false from tyB_false (fun h => h7 (by rw [← HLP.out.1, ← HLP.out.2]; exact tyL_len h.2.2.2.2)))
    have q : ((d.pn : Int) != (e.pn : Int)) = true := by rw [bne_iff_ne]; omega
    clear h7
    go_enter Tryz.func26, Tryz.ntmps26
    go_wp2_with fail
    go_quiet (fail)
    go_wp2_with fail
    go_returns
    exact ⟨by rw [HA.out]; rfl, below_drewN (Below.refl _ _) _⟩
  have h7 : d.pn = e.pn := Classical.not_not.1 h7
  have qh7 : ((d.pn : Int) != (e.pn : Int)) = false := by rw [h7]; simp
  have HQ := Lib.hid (And.intro h1 (And.intro h2 (And.intro h3 h7)))
  clear h1 h2 h3 h7
  have CE : RowKit.Hid (∀ dd os, Calls Tryz.prog 46 #[.slice d.lA d.ln d.lc, .slice e.lA e.ln e.lc] (grow (redrawn W dd) os) fun r w'' => r = .returned (.bool (decide (d.labels = e.labels))) ∧ ∃ p : Regrown, w'' = grow (redrawn W p.d) p.os) := Lib.hid fun dd os =>
    Calls.regrown_of ((eqStr_any d.lA e.lA d.labels e.labels d.ln d.lc e.ln e.lc (grow (redrawn W dd) os) (HLX.out.below (below_then HB.out (below_regrown W dd os))) (HLY.out.below (below_then HB.out (below_regrown W dd os))) (Nat.le_trans HCX.out.1 HCX.out.2.1) (Nat.le_trans HCY.out.1 HCY.out.2.1)).mono fun e w' hh => ⟨hh.1, hh.2⟩)
  obtain ⟨bl, hbl⟩ : ∃ b, decide (d.labels = e.labels) = b := ⟨_, rfl⟩
  rw [hbl] at CE
  have HBL := Lib.hid hbl
  clear hbl
  have kc0 := cell_regrown c0
  have kf0 := cell_regrown f0
  have kc1 := cell_regrown c1
  have kf1 := cell_regrown f1
  have kc2 := cell_regrown c2
  have kf2 := cell_regrown f2
  have kc3 := cell_regrown c3
  have kf3 := cell_regrown f3
  have kc4 := cell_regrown c4
  have kf4 := cell_regrown f4
  go_enter Tryz.func26, Tryz.ntmps26
  go_wp2_with fail
  refine wp_region_quiet_below (by kernel_rfl) (by kernel_rfl) ?_
  repeat (quiet_step ((go_at_call 46; with_reducible exact CE.out _ _)))
  refine wpQuiet_nil ?_
  intro _ hw
  obtain ⟨⟨dq, osq⟩, hw''⟩ := hw
  subst hw''
  have H2 := Lib.hid (below_regrown W dq osq)
  clear c0 c1 c2 c3 c4 f0 f1 f2 f3 f4 CE kc0 kc1 kc2 kc3 kc4 kf0 kf1 kf2 kf3 kf4
  obtain ⟨c0, c1, c2, c3, c4⟩ := HX.out _ (below_then HB.out H2.out)
  obtain ⟨f0, f1, f2, f3, f4⟩ := HYA.out _ (below_then HB.out H2.out)
  cases bl with
  | false =>
    have HA := Lib.hid (show tyB (.mk d l) (.mk e m) = false from tyB_false (fun h => absurd h.2.2.2.1 (of_decide_eq_false HBL.out)))
    go_wp2_with fail
    go_returns
    exact ⟨by rw [HA.out]; rfl, H2.out⟩
  | true =>
  go_wp2_with fail
  simp only [Bool.not_true]
  clear c0 c1 c2 c3 c4 f0 f1 f2 f3 f4 qh1 qh2 qh3 qh7
  go_loopw [67] (fun i wr => ∃ k : Nat, i = .int .i64 k ∧ k ≤ d.pn ∧ (∀ j (h : j < l.length) (h' : j < m.length), j < k → (l[j]).eqv m[j]) ∧ Below W.heap.size W wr) (fun i _ => d.pn - (intOf i).toNat)
  case atStart => exact ⟨0, rfl, Nat.zero_le _, (by intro j _ _ h; omega), H2.out⟩
  case round =>
    obtain ⟨k, rfl, hk, hall, hbr⟩ := hrel
    have HALL := Lib.hid hall
    have HR := Lib.hid hbr
    clear hall
    have c2 := (HX.out _ (below_then HB.out hbr)).c2
    by_cases hlt : k < d.pn
    · have hkl : k < l.length := by rw [HLP.out.1]; exact hlt
      have hkm : k < m.length := by rw [HLP.out.2, ← HQ.out.2.2.2]; exact hlt
      obtain ⟨pb, po, hpA, hAtP⟩ := HI.out.part (k := k) hkl
      have hpA' : d.pA = some ⟨pb, po, none⟩ := hpA
      obtain ⟨pb', po', hpB, hAtQ⟩ := HY.out.part (k := k) hkm
      have hpB' : e.pA = some ⟨pb', po', none⟩ := hpB
      have f2 := (HYA.out _ (below_then HB.out hbr)).c2
      rw [hpA'] at c2
      rw [hpB'] at f2
      have hAx : (l[k]).d.At w0 pb (po + k * 5) := hAtP k hkl
      have hAy : (m[k]).d.At w0 pb' (po' + k * 5) := hAtQ k hkm
      have hy : (m[k]).In w0 := HY.out.sub m[k] (List.getElem_mem hkm)
      have HC := Lib.hid (fun dd os => Calls.regrown_of ((HIH.out l[k] (List.getElem_mem hkl) m[k] hy pb (po + k * 5) pb' (po' + k * 5) (grow (redrawn wr dd) os) hAx hAy (below_then (below_then HB.out hbr) (below_regrown wr dd os))).mono fun e w' hh => ⟨hh.1, hh.2⟩))
      have HEX := Lib.hid (show ∀ (h : k < l.length) (h' : k < m.length), tyB l[k] m[k] = true → (l[k]).eqv m[k] from fun _ _ h => tyB_iff.1 h)
      have HEN := Lib.hid (show tyB l[k] m[k] = false → tyB (.mk d l) (.mk e m) = false from fun h => tyB_false (fun hh => by
        have := (tyL_iff l m (tyL_len hh.2.2.2.2)).1 hh.2.2.2.2 k hkl hkm
        rw [tyB_true this] at h; cases h))
      obtain ⟨v, hv⟩ : ∃ v, tyB l[k] m[k] = v := ⟨_, rfl⟩
      rw [hv] at HC HEN
      have HV := Lib.hid hv
      have hki : (k : Int) < (d.pn : Int) := by omega
      have hki' : (k : Int) < (e.pn : Int) := by rw [← HQ.out.2.2.2]; omega
      have hk0 : (0 : Int) ≤ (k : Int) := by omega
      have hk9 : (k : Int) ≤ 4000000 := by have := HCX.out.2.2.2.2.2; omega
      have kc2 := cell_regrown c2
      have kf2 := cell_regrown f2
      clear hbr hpA hpA' hpB hpB' hAtP hAtQ hAx hAy hy hv
      go_wp2_with fail
      refine wp_region_quiet_below (by kernel_rfl) (by kernel_rfl) ?_
      repeat (quiet_step ((go_at_call 26; with_reducible exact HC.out _ _)))
      refine wpQuiet_nil ?_
      intro _ hw
      obtain ⟨⟨dq, osq⟩, hw''⟩ := hw
      subst hw''
      have H5 := Lib.hid (below_then HR.out (below_regrown wr dq osq))
      clear HC
      cases v with
      | true =>
        go_wp2_with fail
        go_roundw
        case rel => exact ⟨k + 1, by go_num, hlt, fun j hj hj' hjk => (Nat.lt_succ_iff_lt_or_eq.1 hjk).elim (fun h => HALL.out j hj hj' h) (fun h => by subst h; exact HEX.out hj hj' HV.out), H5.out⟩
        case measure => simp [intOf] <;> omega
      | false =>
        have HA := Lib.hid (HEN.out rfl)
        go_wp2_with fail
        go_returns
        exact ⟨by rw [HA.out]; rfl, H5.out⟩
    · have hki : ¬ (k : Int) < (d.pn : Int) := by omega
      have HA := Lib.hid (show tyB (.mk d l) (.mk e m) = true from tyB_true ⟨HQ.out.1, HQ.out.2.1, HQ.out.2.2.1, of_decide_eq_true HBL.out, (tyL_iff l m (by rw [HLP.out.1, HLP.out.2, HQ.out.2.2.2])).2 (fun j h h' => HALL.out j h h' (by rw [HLP.out.1] at h; omega))⟩)
      clear hbr
      go_wp2_with fail
      go_returns
      exact ⟨by rw [HA.out]; rfl, HR.out⟩

set_option maxRecDepth 100000 in
/-- Same: whether two types are the same. -/
theorem typSame_any (x y : Ty) (w : World) (hx : x.In w) (hy : y.In w) :
    Calls Tryz.prog 10 #[.agg x.d.arr, .agg y.d.arr] w fun r w' => r = .returned (.bool (tyB x y)) ∧ Below w.heap.size w w' := by
  have hb1 : Below w.heap.size w (w.alloc (.cells x.d.arr 25)) := (Below.refl _ _).alloc (Nat.le_refl _) _
  have hA1 := box_at w x.d
  have hA2 := box_at (w.alloc (.cells x.d.arr 25)) y.d
  have hb2 : Below (w.alloc (.cells x.d.arr 25)).heap.size (w.alloc (.cells x.d.arr 25)) ((w.alloc (.cells x.d.arr 25)).alloc (.cells y.d.arr 25)) := (Below.refl _ _).alloc (Nat.le_refl _) _
  have hb12 := below_then hb1 hb2
  have hsz : (w.alloc (.cells x.d.arr 25)).heap.size = w.heap.size + 1 := by simp
  rw [hsz] at hA2
  have HM := Lib.hid (same_any _ x (hx.lower hb12) y (hy.lower hb12) w.heap.size 0 (w.heap.size + 1) 0 _ (hA1.lower hb2) hA2 (Below.refl _ _))
  have HB := Lib.hid hb12
  clear hb1 hb2 hb12 hA1 hA2 hsz
  go_enter Tryz.func10, Tryz.ntmps10
  go_wp2_with fail
  refine HM.out.mono ?_
  rintro e w' ⟨rfl, hb⟩
  go_wp2_with fail
  go_returns
  exact ⟨rfl, below_then HB.out hb⟩
end Go.Proofs.YtklandpagieapaaGreatDoor

namespace Go.Proofs.YtklandpagieapaaGreatDoor
open Go.ChangeShapes Go.WideShapes Go.ChangeAt Go.RowKit Go.Sort Go.Maps
set_option linter.unusedVariables false
set_option linter.unusedSimpArgs false

/-! ### Which blocks a type lies in -/
inductive Ty.Bl (P : Nat → Prop) : Ty → Prop
  | mk (d : TyD) (l : List Ty) (lab : 0 < d.ln → ∀ a, d.lA = some a → P a.block) (par : 0 < d.pn → ∀ a, d.pA = some a → P a.block) (sub : ∀ x ∈ l, Ty.Bl P x) : Ty.Bl P (.mk d l)
theorem rd_keepP {w w' : World} {size n : Nat} {A : Option Addr} {cs : List Value} {P : Nat → Prop} (h : Rd w size A n cs) (hP : 0 < n → ∀ a, A = some a → P a.block) (hk : ∀ b, P b → b < w.heap.size → w'.heap[b]? = w.heap[b]?) : Rd w' size A n cs := by
  refine ⟨h.1, fun h0 => ?_⟩
  obtain ⟨a, e, hb, hh⟩ := h.addr h0
  have hn : 0 < n := by
    rcases Nat.eq_zero_or_pos n with q | q
    · have := h.1; rw [q] at this; omega
    · exact q
  refine ⟨a, e, fun j u hu => ?_⟩
  rw [← hh j u hu]
  exact World.cell?_of_block (by rw [add_block]; exact hk _ (hP hn a e) hb)
theorem Ty.In.keepP {w w' : World} {P : Nat → Prop} {t : Ty} (h : t.In w) (hP : t.Bl P) (hk : ∀ b, P b → b < w.heap.size → w'.heap[b]? = w.heap[b]?) : t.In w' := by
  induction h with
  | mk d l lab par cap sub ih =>
    cases hP with
    | mk _ _ p1 p2 ps =>
      exact .mk d l (rd_keepP lab p1 hk) (rd_keepP par p2 hk) cap (fun x hx => ih x hx (ps x hx))
/-- With what lies in the heap. -/
theorem Ty.Bl.imp {w : World} {P Q : Nat → Prop} {t : Ty} (h : t.In w) (hP : t.Bl P) (hq : ∀ b, P b → b < w.heap.size → Q b) : t.Bl Q := by
  have key : ∀ {size n : Nat} {A : Option Addr} {cs : List Value}, Rd w (size + 1) A n cs → (0 < n → ∀ a, A = some a → P a.block) → (0 < n → ∀ a, A = some a → Q a.block) := by
    intro size n A cs hr hp hn a ha
    obtain ⟨a', e, hb, _⟩ := hr.addr (by rw [hr.1, Nat.mul_add, Nat.mul_one]; omega)
    rw [ha] at e; cases e
    exact hq _ (hp hn a ha) hb
  induction h with
  | mk d l lab par cap sub ih =>
    cases hP with
    | mk _ _ p1 p2 ps =>
      exact .mk d l (key lab p1) (key par p2) (fun x hx => ih x hx (ps x hx))

theorem nil_yes (n c : Nat) (w : World) : (binOp .eql 23 (.slice none n c) (.slice none 0 0)).run Tryz.prog w = .ok (.bool true) w := by kernel_rfl
theorem nil_no (a : Addr) (n c : Nat) (w : World) : (binOp .eql 23 (.slice (some a) n c) (.slice none 0 0)).run Tryz.prog w = .ok (.bool false) w := by kernel_rfl
set_option maxRecDepth 100000 in
set_option maxHeartbeats 1000000 in
theorem clone_any (A : Option Addr) (l : List Str) (n c : Nat) (w : World) (hr : Rd w 1 A n (strs l)) (hm : n ≤ 4000000) :
    Calls Tryz.prog 33 #[.slice A n c] w fun e w' => ∃ A' c', e = .returned (.slice A' n c') ∧ Rd w' 1 A' n (strs l) ∧ (0 < n → ∀ a, A' = some a → w.heap.size ≤ a.block) ∧ n ≤ c' ∧ c' ≤ maxLen ∧ Below w.heap.size w w' := by
  have HR := Lib.hid hr
  have HM := Lib.hid hm
  have q1 := nil_yes
  have q2 := nil_no
  cases A with
  | none =>
    have hn : n = 0 := by
      rcases Nat.eq_zero_or_pos n with q | q
      · exact q
      · obtain ⟨a, e, _⟩ := hr.addr (by rw [hr.1]; omega)
        cases e
    clear hr hm
    go_enter Tryz.func33, Tryz.ntmps33
    go_wp2_with fail
    go_returns
    subst hn
    exact ⟨none, 0, rfl, HR.out, fun h => absurd h (by omega), Nat.le_refl _, by simp [maxLen], Below.refl _ _⟩
  | some a =>
    clear hr hm
    go_enter Tryz.func33, Tryz.ntmps33
    have HOW := Lib.hid (World.ownsRow_made (base := w.heap.size) (e := 9) (size := 1) w #[] 0 (Nat.le_refl _) (by simp [maxLen]) rfl)
    go_wp2_with (at_builtin; refine wpList_app elStr _ rfl (.tmp 5) (.tmp 6) rfl w.heap.size (.slice (some ⟨w.heap.size, 0, none⟩) 0 0) 0 [] rfl HOW.out (some a) n c _ rfl (HR.out.alloc _) (strs_one l) (by have := HM.out; omega) (by simp) ?_; intro v6 w6 hown6 hb6 hg6 hat6; rw [Nat.zero_add] at hown6; rw [List.nil_append] at hown6; obtain ⟨A6, c6, hv6, hnc6, hcm6, _⟩ := own_cap hown6; rw [hv6] at hown6 hat6 ⊢; clear hv6)
    go_returns
    refine ⟨A6, c6, rfl, Rd.of_own hown6, ?_, by assumption, by assumption, ((Below.refl w.heap.size w).alloc (Nat.le_refl _) _).trans hb6⟩
    intro _ a' ha'
    subst ha'
    exact (hown6.lt a'.block rfl).1

/-! ### Copies -/
theorem elType : ElemTy Tryz.prog 22 25 (.agg #[.int .i64 0, .int .i64 0, .slice none 0 0, .slice none 0 0, .int .i64 0]) 5 72 :=
  ⟨Tryz.underlying22, by kernel_rfl, rfl, by omega, by omega⟩
theorem ty_ones (t : Ty) : ∀ u ∈ t.cells, u.oneCell' = true := by
  intro u hu
  unfold Ty.cells TyD.cells at hu
  simp only [List.mem_cons, List.not_mem_nil, or_false] at hu
  rcases hu with rfl | rfl | rfl | rfl | rfl <;> rfl
/-- A type that is new: in blocks from the call on. -/
def CpR (x : Ty) (w : World) (e : Ending) (w' : World) : Prop := ∃ y : Ty, e = .returned (.agg y.d.arr) ∧ y.In w' ∧ y.Bl (fun b => w.heap.size ≤ b) ∧ y.eqv x ∧ Below w.heap.size w w'
def CpsR (l : List Ty) (w : World) (e : Ending) (w' : World) : Prop := ∃ (A : Option Addr) (n c : Nat) (ys : List Ty), e = .returned (.slice A n c) ∧ ys.length = n ∧ tyL ys l ∧ Rd w' 5 A n (ys.flatMap Ty.cells) ∧ (∀ y ∈ ys, y.In w') ∧ (∀ y ∈ ys, y.Bl (fun b => w.heap.size ≤ b)) ∧ (0 < n → ∀ a, A = some a → w.heap.size ≤ a.block) ∧ n ≤ c ∧ c ≤ maxLen ∧ Below w.heap.size w w'
theorem tyL_snoc : ∀ {l m : List Ty} {x y : Ty}, tyL l m → x.eqv y → tyL (l ++ [x]) (m ++ [y])
  | [], [], x, y, _, h => ⟨h, trivial⟩
  | a :: l, b :: m, x, y, h, k => by simp only [List.cons_append, tyL] at h ⊢; exact ⟨h.1, tyL_snoc h.2 k⟩
  | [], b :: m, x, y, h, _ => by simp [tyL] at h
  | a :: l, [], x, y, h, _ => by simp [tyL] at h

/-- The copies under way: a row of the call's own, and what its parts lie in. -/
structure CpS (B : Nat) (w : World) (v : Value) (k : Nat) (ys : List Ty) (l : List Ty) (wr : World) : Prop where
  own : wr.ownsRow B 25 5 v k (ys.flatMap Ty.cells)
  len : ys.length = k
  eqv : tyL ys (l.take k)
  inn : ∀ y ∈ ys, y.In wr
  bl : ∀ y ∈ ys, y.Bl (fun b => B ≤ b ∧ some b ≠ v.ownBlock)
  b : Below B w wr
theorem CpS.step {B : Nat} {w wr w1 w6 : World} {v v6 : Value} {k : Nat} {ys l : List Ty} {y x : Ty} {o : Obj} (h : CpS B w v k ys l wr) (hB : B ≤ w.heap.size)
    (hb : Below wr.heap.size wr w1) (hin : y.In w1) (hbl : y.Bl (fun b => wr.heap.size ≤ b)) (he : y.eqv x) (htk : l.take (k + 1) = l.take k ++ [x])
    (hown : w6.ownsRow B 25 5 v6 (k + 1) (ys.flatMap Ty.cells ++ y.cells)) (hb6 : Below B (w1.alloc o) w6) (hg : (w1.alloc o).grownBy w6 v.ownBlock) (hat : v6.ownBlock = v.ownBlock ∨ v6.ownBlock = some (w1.alloc o).heap.size) :
    CpS B w v6 (k + 1) (ys ++ [y]) l w6 := by
  have hs : (w1.alloc o).heap.size = w1.heap.size + 1 := by simp
  have hvl : ∀ b, v.ownBlock = some b → b < wr.heap.size := fun b hb' => (h.own.lt b hb').2
  have hall : ∀ b, b < w1.heap.size → some b ≠ v.ownBlock → w6.heap[b]? = w1.heap[b]? := fun b h1 h2 =>
    (hg.block b (by rw [hs]; omega) h2).trans (Below.heap_alloc w1 o b h1)
  have hBs : B ≤ wr.heap.size := Nat.le_trans hB h.b.size
  have hyb : y.Bl (fun b => B ≤ b ∧ some b ≠ v.ownBlock) := hbl.imp hin (fun b h1 _ => ⟨Nat.le_trans hBs h1, fun e => by have := hvl b e.symm; omega⟩)
  have hys1 : ∀ z ∈ ys, z.In w1 := fun z hz => (h.inn z hz).lower hb
  have hz : ∀ z ∈ ys ++ [y], z.In w1 ∧ z.Bl (fun b => B ≤ b ∧ some b ≠ v.ownBlock) := fun z hz => by
    rcases List.mem_append.1 hz with hz | hz
    · exact ⟨hys1 z hz, h.bl z hz⟩
    · rw [List.mem_singleton] at hz; subst hz; exact ⟨hin, hyb⟩
  refine ⟨?_, by rw [List.length_append, h.len]; rfl, by rw [htk]; exact tyL_snoc h.eqv he, fun z hzm => (hz z hzm).1.keepP (hz z hzm).2 (fun b hb' hl => hall b hl hb'.2), fun z hzm => ?_, ?_⟩
  · rw [List.flatMap_append, List.flatMap_cons, List.flatMap_nil, List.append_nil]; exact hown
  · refine (hz z hzm).2.imp (hz z hzm).1 (fun b hb' hl => ⟨hb'.1, ?_⟩)
    rcases hat with q | q
    · rw [q]; exact hb'.2
    · rw [q, hs]; intro e; injection e with e; omega
  · exact ((h.b.trans (hb.mono hBs)).alloc (Nat.le_trans hBs hb.size) o).trans hb6

set_option maxRecDepth 100000 in
set_option maxHeartbeats 2000000 in
theorem copies_any (w0 : World) (l : List Ty) (hC : ∀ x ∈ l, ∀ (b o : Nat) (W : World), x.d.At w0 b o → Below w0.heap.size w0 W → Calls Tryz.prog 34 #[.pointer (some ⟨b, o, none⟩)] W (CpR x W))
    (A : Option Addr) (n c : Nat) (hn : l.length = n) (hm : n ≤ 4000000) (hP : ∀ k (hk : k < l.length), ∃ b o, A = some ⟨b, o, none⟩ ∧ ∀ j (hj : j < l.length), (l[j]).d.At w0 b (o + j * 5)) (W : World) (hb : Below w0.heap.size w0 W) :
    Calls Tryz.prog 32 #[.slice A n c] W (CpsR l W) := by
  have HC := Lib.hid hC
  have HP := Lib.hid hP
  have HB := Lib.hid hb
  have HN := Lib.hid (And.intro hn hm)
  clear hC hP hb hn hm
  go_enter Tryz.func32, Tryz.ntmps32
  go_wp2_with fail
  go_loopw [3, 7] (fun v i wr => ∃ (k : Nat) (ys : List Ty), i = .int .i64 k ∧ k ≤ n ∧ CpS W.heap.size W v k ys l wr) (fun _ i _ => n - (intOf i).toNat)
  case atStart => exact ⟨0, [], rfl, Nat.zero_le _, World.ownsRow_nil _ _ _ _, rfl, trivial, (fun y hy => by cases hy), (fun y hy => by cases hy), Below.refl _ _⟩
  case round =>
    obtain ⟨k, ys, rfl, hk, hS⟩ := hrel
    obtain ⟨A1, c1, rfl, hn1, hm1, _⟩ := own_cap hS.own
    have HS := Lib.hid hS
    by_cases hlt : k < n
    · have hkl : k < l.length := by rw [HN.out.1]; exact hlt
      obtain ⟨b, o, rfl, hAt⟩ := HP.out k hkl
      have HX := Lib.hid (And.intro (HC.out l[k] (List.getElem_mem hkl) b (o + k * 5) wr (hAt k hkl) (below_then HB.out hS.b)) (List.take_succ_eq_append_getElem hkl))
      obtain ⟨x, hx⟩ : ∃ x, l[k] = x := ⟨_, rfl⟩
      rw [hx] at HX
      have hki : (k : Int) < (n : Int) := by omega
      have hk0 : (0 : Int) ≤ (k : Int) := by omega
      have hk4 : (k : Int) ≤ 4000000 := by have := HN.out.2; omega
      have HKL := Lib.hid (show (k + 1) * 72 ≤ 140737488355328 by have := HN.out.2; omega)
      clear hS hAt hx
      go_wp2_with fail
      refine HX.out.1.mono ?_
      rintro e w1 ⟨y, rfl, hin, hbl, he, hb1⟩
      have H1 := Lib.hid (And.intro hin (And.intro hbl (And.intro he hb1)))
      have HO := Lib.hid (own_below HS.out.own hb1)
      have HSZ := Lib.hid (show W.heap.size ≤ w1.heap.size from Nat.le_trans HS.out.b.size hb1.size)
      clear hin hbl he hb1
      go_wp2_with (at_builtin; refine wpList_app elType _ rfl _ _ rfl W.heap.size (.slice A1 k c1) k _ rfl (HO.out.alloc _) (some ⟨w1.heap.size, 0, none⟩) 1 1 _ rfl (Rd.lit w1 _ _ rfl) (ty_ones y) HKL.out (by have := HSZ.out; rw [World.size_alloc]; omega) ?_; intro v6 w6 hown6 hb6 hg6 hat6; have H6 := Lib.hid (HS.out.step (Nat.le_refl _) H1.out.2.2.2 H1.out.1 H1.out.2.1 H1.out.2.2.1 HX.out.2 hown6 hb6 hg6 hat6); obtain ⟨A6, c6, hv6, _⟩ := own_cap hown6; clear hown6 hb6 hg6 hat6; subst hv6)
      go_roundw
      case rel => exact ⟨k + 1, _, by go_num, hlt, H6.out⟩
      case measure => simp [intOf] <;> omega
    · have hki : ¬ (k : Int) < (n : Int) := by omega
      obtain rfl : k = n := by omega
      clear hS
      go_wp2_with fail
      go_returns
      have h := HS.out
      refine ⟨A1, k, c1, ys, rfl, h.len, by have := h.eqv; rwa [List.take_of_length_le (by rw [HN.out.1]; exact Nat.le_refl _)] at this, Rd.of_own h.own, h.inn, fun y hy => (h.bl y hy).imp (h.inn y hy) (fun b hb' _ => hb'.1), fun _ a ha => ?_, hn1, hm1, h.b⟩
      subst ha
      exact (h.own.lt a.block rfl).1
end Go.Proofs.YtklandpagieapaaGreatDoor

namespace Go.Proofs.YtklandpagieapaaGreatDoor
open Go.ChangeShapes Go.WideShapes Go.ChangeAt Go.RowKit Go.Sort Go.Maps
set_option linter.unusedVariables false
set_option linter.unusedSimpArgs false

/-- What lies behind a block's own cells stays as they are written. -/
theorem in_set {w : World} {t : Ty} {g i : Nat} {u : Value} (h : t.In w) (hB : t.Bl (fun b => g < b)) : t.In (w.setCell ⟨g, i, none⟩ u) :=
  h.keepP hB (fun b hb _ => Below.heap_setCell w _ _ b (by show b ≠ g; omega))
/-- A type made of new lists. -/
theorem made_in {w : World} {ys : List Ty} {A A' : Option Addr} {n c m c' : Nat} {ls : List Str} {kd nn tl : Int} (hlab : Rd w 1 A' m (strs ls)) (hpar : Rd w 5 A n (ys.flatMap Ty.cells)) (hin : ∀ y ∈ ys, y.In w) (hm : m ≤ 4000000) (hn : n ≤ 4000000) (h1 : n ≤ c) (h2 : c ≤ maxLen) (h3 : m ≤ c') (h4 : c' ≤ maxLen) :
    (Ty.mk ⟨kd, nn, A, n, c, A', m, c', ls, tl⟩ ys).In w := .mk _ _ hlab hpar ⟨h3, h4, h1, h2, hm, hn⟩ hin

/-- What comes of the copies of a type's parts, whatever else was called ahead of it. -/
def CoR (w2 : World) (l : List Ty) (n : Nat) (V : World) (e : Ending) (v : World) : Prop := ∃ (A : Option Addr) (c : Nat) (ys : List Ty), e = .returned (.slice A n c) ∧ tyL ys l ∧ Rd v 5 A n (ys.flatMap Ty.cells) ∧ (∀ y ∈ ys, y.In v) ∧ (∀ y ∈ ys, y.Bl (fun b => w2.heap.size ≤ b)) ∧ (0 < n → ∀ a, A = some a → w2.heap.size ≤ a.block) ∧ n ≤ c ∧ c ≤ maxLen ∧ Below V.heap.size V v ∧ Below w2.heap.size w2 v
def ClR (w2 : World) (ls : List Str) (n : Nat) (V : World) (e : Ending) (v : World) : Prop := ∃ (A : Option Addr) (c : Nat), e = .returned (.slice A n c) ∧ Rd v 1 A n (strs ls) ∧ (0 < n → ∀ a, A = some a → w2.heap.size ≤ a.block) ∧ n ≤ c ∧ c ≤ maxLen ∧ Below V.heap.size V v ∧ Below w2.heap.size w2 v

/-- Both copies, in whatever order they were made. -/
structure CpFin (w2 u : World) (d : TyD) (l ys : List Ty) (A8 : Option Addr) (m8 : Nat) (A9 : Option Addr) (m9 : Nat) : Prop where
  eqv : tyL ys l
  inn : (Ty.mk ⟨d.kind, d.n, A8, d.pn, m8, A9, d.ln, m9, d.labels, d.tail⟩ ys).In u
  bl : (Ty.mk ⟨d.kind, d.n, A8, d.pn, m8, A9, d.ln, m9, d.labels, d.tail⟩ ys).Bl (fun b => w2.heap.size ≤ b)
  b : Below w2.heap.size w2 u
theorem CpFin.make {w2 u : World} {d : TyD} {l ys : List Ty} {A8 A9 : Option Addr} {m8 m9 : Nat} (hc : d.ln ≤ d.lc ∧ d.lc ≤ maxLen ∧ d.pn ≤ d.pc ∧ d.pc ≤ maxLen ∧ d.ln ≤ 4000000 ∧ d.pn ≤ 4000000) (h1 : tyL ys l) (h2 : Rd u 5 A8 d.pn (ys.flatMap Ty.cells)) (h3 : ∀ y ∈ ys, y.In u) (h4 : ∀ y ∈ ys, y.Bl (fun b => w2.heap.size ≤ b))
    (h5 : 0 < d.pn → ∀ a, A8 = some a → w2.heap.size ≤ a.block) (h6 : d.pn ≤ m8) (h7 : m8 ≤ maxLen) (k1 : Rd u 1 A9 d.ln (strs d.labels)) (k2 : 0 < d.ln → ∀ a, A9 = some a → w2.heap.size ≤ a.block) (k3 : d.ln ≤ m9) (k4 : m9 ≤ maxLen) (hb : Below w2.heap.size w2 u) : CpFin w2 u d l ys A8 m8 A9 m9 :=
  ⟨h1, .mk _ _ k1 h2 ⟨k3, k4, h6, h7, hc.2.2.2.2.1, hc.2.2.2.2.2⟩ h3, .mk _ _ k2 h5 h4, hb⟩
theorem box5 (w : World) (g : Nat) {x0 x1 x2 x3 x4 : Value} {T : TypeId} {fr : Nat × Nat} (h : w.heap[g]? = some (.cells #[x0, x1, x2, x3, x4] T fr)) (a0 a1 a2 a3 a4 : Value) :
    (((((w.setCell ⟨g, 0, none⟩ a0).setCell ⟨g, 1, none⟩ a1).setCell ⟨g, 2, none⟩ a2).setCell ⟨g, 3, none⟩ a3).setCell ⟨g, 4, none⟩ a4).heap[g]? = some (.cells #[a0, a1, a2, a3, a4] T fr) := by
  simp [World.setCell, Array.getElem?_modify, h]
theorem in_sets {w : World} {t : Ty} {g i n : Nat} {u : Value} (h : t.In w) (hB : t.Bl (fun b => n ≤ b)) (hg : g < n) : t.In (w.setCell ⟨g, i, none⟩ u) :=
  h.keepP hB (fun b hb _ => Below.heap_setCell w _ _ b (by show b ≠ g; omega))
theorem cp_end {u W : World} {g n : Nat} {y : Ty} (hI : y.In u) (hB : y.Bl (fun b => n ≤ b)) (hg : g + 1 < n) (hW : Below W.heap.size W u) (hWg : W.heap.size ≤ g) {x0 x1 x2 x3 x4 : Value} {T : TypeId} {fr : Nat × Nat} (h : u.heap[g]? = some (.cells #[x0, x1, x2, x3, x4] T fr)) (a0 a1 a2 a3 a4 : Value) :
    y.In (((((((u.setCell ⟨g + 1, 2, none⟩ a2).setCell ⟨g + 1, 3, none⟩ a3).setCell ⟨g, 0, none⟩ a0).setCell ⟨g, 1, none⟩ a1).setCell ⟨g, 2, none⟩ a2).setCell ⟨g, 3, none⟩ a3).setCell ⟨g, 4, none⟩ a4) ∧ Below W.heap.size W (((((((u.setCell ⟨g + 1, 2, none⟩ a2).setCell ⟨g + 1, 3, none⟩ a3).setCell ⟨g, 0, none⟩ a0).setCell ⟨g, 1, none⟩ a1).setCell ⟨g, 2, none⟩ a2).setCell ⟨g, 3, none⟩ a3).setCell ⟨g, 4, none⟩ a4) ∧ (((((((u.setCell ⟨g + 1, 2, none⟩ a2).setCell ⟨g + 1, 3, none⟩ a3).setCell ⟨g, 0, none⟩ a0).setCell ⟨g, 1, none⟩ a1).setCell ⟨g, 2, none⟩ a2).setCell ⟨g, 3, none⟩ a3).setCell ⟨g, 4, none⟩ a4).heap[g]? = some (.cells #[a0, a1, a2, a3, a4] T fr) :=
  ⟨(in_sets (in_sets (in_sets (in_sets (in_sets (in_sets (in_sets hI hB (by omega)) hB (by omega)) hB (by omega)) hB (by omega)) hB (by omega)) hB (by omega)) hB (by omega)), (Below.setCell (p := ⟨g, 4, none⟩) (Below.setCell (p := ⟨g, 3, none⟩) (Below.setCell (p := ⟨g, 2, none⟩) (Below.setCell (p := ⟨g, 1, none⟩) (Below.setCell (p := ⟨g, 0, none⟩) (Below.setCell (p := ⟨g + 1, 3, none⟩) (Below.setCell (p := ⟨g + 1, 2, none⟩) hW (show W.heap.size ≤ g + 1 by omega) a2) (show W.heap.size ≤ g + 1 by omega) a3) (show W.heap.size ≤ g by omega) a0) (show W.heap.size ≤ g by omega) a1) (show W.heap.size ≤ g by omega) a2) (show W.heap.size ≤ g by omega) a3) (show W.heap.size ≤ g by omega) a4), box5 ((u.setCell ⟨g + 1, 2, none⟩ a2).setCell ⟨g + 1, 3, none⟩ a3) g ((Below.heap_setCell _ _ _ g (by show g ≠ g + 1; omega)).trans ((Below.heap_setCell _ _ _ g (by show g ≠ g + 1; omega)).trans h)) _ _ _ _ _⟩
set_option maxRecDepth 100000 in
set_option maxHeartbeats 2000000 in
theorem copied_any (w0 : World) (x : Ty) (hIn : x.In w0) : ∀ (b o : Nat) (W : World), x.d.At w0 b o → Below w0.heap.size w0 W → Calls Tryz.prog 34 #[.pointer (some ⟨b, o, none⟩)] W (CpR x W) := by
  induction hIn with
  | mk d l lab par cap sub ih =>
  intro b o W hAt hb
  have hI : (Ty.mk d l).In w0 := .mk d l lab par cap sub
  have hbz : Below W.heap.size W (W.alloc (.cells #[.int .i64 0, .int .i64 0, .slice none 0 0, .slice none 0 0, .int .i64 0] 25)) := (Below.refl _ _).alloc (Nat.le_refl _) _
  have hb1 : Below W.heap.size W ((W.alloc (.cells #[.int .i64 0, .int .i64 0, .slice none 0 0, .slice none 0 0, .int .i64 0] 25)).alloc (.cells d.arr 25)) := hbz.alloc hbz.size _
  obtain ⟨c0, c1, c2, c3, c4⟩ := ((show d.At w0 b o from hAt).lower hb).lower hbz
  have hBX := box_at (W.alloc (.cells #[.int .i64 0, .int .i64 0, .slice none 0 0, .slice none 0 0, .int .i64 0] 25)) d
  have hlen : l.length = d.pn := hI.len
  have HCO : RowKit.Hid (∀ V, Below ((W.alloc (.cells #[.int .i64 0, .int .i64 0, .slice none 0 0, .slice none 0 0, .int .i64 0] 25)).alloc (.cells d.arr 25)).heap.size ((W.alloc (.cells #[.int .i64 0, .int .i64 0, .slice none 0 0, .slice none 0 0, .int .i64 0] 25)).alloc (.cells d.arr 25)) V → Calls Tryz.prog 32 #[.slice d.pA d.pn d.pc] V (CoR ((W.alloc (.cells #[.int .i64 0, .int .i64 0, .slice none 0 0, .slice none 0 0, .int .i64 0] 25)).alloc (.cells d.arr 25)) l d.pn V)) := Lib.hid fun V hV =>
    (copies_any w0 l (fun x hx => ih x hx) d.pA d.pn d.pc hlen cap.2.2.2.2.2 (fun k hk => hI.part (k := k) hk) V (below_then (below_then hb hb1) hV)).mono fun e v ⟨A, n, c, ys, he, hn, h1, h2, h3, h4, h5, h6, h7, h8⟩ => by
      have hn' : n = d.pn := by rw [← hn, tyL_len h1, hlen]
      subst hn'
      exact ⟨A, c, ys, he, h1, h2, h3, fun y hy => (h4 y hy).imp (h3 y hy) (fun b hb _ => Nat.le_trans hV.size hb), fun h a ha => Nat.le_trans hV.size (h5 h a ha), h6, h7, h8, below_then hV h8⟩
  have HCL : RowKit.Hid (∀ V, Below ((W.alloc (.cells #[.int .i64 0, .int .i64 0, .slice none 0 0, .slice none 0 0, .int .i64 0] 25)).alloc (.cells d.arr 25)).heap.size ((W.alloc (.cells #[.int .i64 0, .int .i64 0, .slice none 0 0, .slice none 0 0, .int .i64 0] 25)).alloc (.cells d.arr 25)) V → Calls Tryz.prog 33 #[.slice d.lA d.ln d.lc] V (ClR ((W.alloc (.cells #[.int .i64 0, .int .i64 0, .slice none 0 0, .slice none 0 0, .int .i64 0] 25)).alloc (.cells d.arr 25)) d.labels d.ln V)) := Lib.hid fun V hV =>
    (clone_any d.lA d.labels d.ln d.lc V (lab.below (below_then (below_then hb hb1) hV)) cap.2.2.2.2.1).mono fun e v ⟨A, c, he, h1, h2, h3, h4, h5⟩ => ⟨A, c, he, h1, fun h a ha => Nat.le_trans hV.size (h2 h a ha), h3, h4, h5, below_then hV h5⟩
  have HI := Lib.hid hI
  have HB := Lib.hid hb
  have HB1 := Lib.hid hb1
  have HCP := Lib.hid cap
  clear lab par cap sub ih hAt hb hb1 hI hlen
  go_enter Tryz.func34, Tryz.ntmps34
  go_wp2_with fail
  have hsz2 : (W.alloc (.cells #[.int .i64 0, .int .i64 0, .slice none 0 0, .slice none 0 0, .int .i64 0] 25)).heap.size = W.heap.size + 1 := by simp
  rw [hsz2] at hBX
  have hbz2 : Below (W.heap.size + 1) W ((W.alloc (.cells #[.int .i64 0, .int .i64 0, .slice none 0 0, .slice none 0 0, .int .i64 0] 25)).alloc (.cells d.arr 25)) → True := fun _ => trivial
  have hg2 : ((W.alloc (.cells #[.int .i64 0, .int .i64 0, .slice none 0 0, .slice none 0 0, .int .i64 0] 25)).alloc (.cells d.arr 25)).heap[W.heap.size]? = some (.cells #[.int .i64 0, .int .i64 0, .slice none 0 0, .slice none 0 0, .int .i64 0] 25) := (Below.heap_alloc _ _ _ (by simp)).trans (heap_alloc_new W _)
  have hg3 : ((W.alloc (.cells #[.int .i64 0, .int .i64 0, .slice none 0 0, .slice none 0 0, .int .i64 0] 25)).alloc (.cells d.arr 25)).heap[W.heap.size + 1]? = some (.cells d.arr 25) := by
    have h := heap_alloc_new (W.alloc (.cells #[.int .i64 0, .int .i64 0, .slice none 0 0, .slice none 0 0, .int .i64 0] 25)) (.cells d.arr 25)
    rw [hsz2] at h
    exact h
  have hs3 : ((W.alloc (.cells #[.int .i64 0, .int .i64 0, .slice none 0 0, .slice none 0 0, .int .i64 0] 25)).alloc (.cells d.arr 25)).heap.size = W.heap.size + 2 := by simp
  have HAW := Lib.hid (show d.At ((W.alloc (.cells #[.int .i64 0, .int .i64 0, .slice none 0 0, .slice none 0 0, .int .i64 0] 25)).alloc (.cells d.arr 25)) b o from ⟨cell_alloc c0, cell_alloc c1, cell_alloc c2, cell_alloc c3, cell_alloc c4⟩)
  clear c0 c1 c2 c3 c4 hbz hbz2
  generalize ((W.alloc (.cells #[.int .i64 0, .int .i64 0, .slice none 0 0, .slice none 0 0, .int .i64 0] 25)).alloc (.cells d.arr 25)) = w2 at *
  clear hsz2
  obtain ⟨g2, hgg⟩ : ∃ g2, W.heap.size = g2 := ⟨_, rfl⟩
  rw [hgg] at hBX hg2 hg3 hs3 ⊢
  have HG := Lib.hid (And.intro hg2 (And.intro hg3 (And.intro hs3 hBX)))
  have HGG := Lib.hid hgg
  clear hg2 hg3 hs3 hBX hgg
  obtain ⟨c0, c1, c2, c3, c4⟩ := HAW.out
  have hD0 : Below w2.heap.size w2 w2.drew := Below.drew (Below.refl _ _)
  go_region_with (first
    | (go_at_call 32; (with_reducible refine (HCO.out _ ?hw).mono ?_); (case hw => first | exact hD0 | exact hD9); rintro e v8 ⟨A8, m8, ys, rfl, h8⟩; have hD8 := h8.2.2.2.2.2.2.2.2; have hh8 := (hD8.block (g2 + 1) (by have := HG.out.2.2.1; omega)).trans HG.out.2.1; have hq8 := (hD8.block g2 (by have := HG.out.2.2.1; omega)).trans HG.out.1; obtain ⟨m0, m1, m2, m3, m4⟩ := HG.out.2.2.2.lower hD8; have f2 := Lib.frozen_of_heap hh8 2; have f3 := Lib.frozen_of_heap hh8 3; obtain ⟨n0, n1, n2, n3, n4⟩ := HAW.out.lower hD8)
    | (go_at_call 33; (with_reducible refine (HCL.out _ ?hw).mono ?_); (case hw => first | exact hD0 | exact hD8); rintro e v9 ⟨A9, m9, rfl, h9⟩; have hD9 := h9.2.2.2.2.2; have hh9 := (hD9.block (g2 + 1) (by have := HG.out.2.2.1; omega)).trans HG.out.2.1; have hq9 := (hD9.block g2 (by have := HG.out.2.2.1; omega)).trans HG.out.1; obtain ⟨m0, m1, m2, m3, m4⟩ := HG.out.2.2.2.lower hD9; have f2 := Lib.frozen_of_heap hh9 2; have f3 := Lib.frozen_of_heap hh9 3; obtain ⟨n0, n1, n2, n3, n4⟩ := HAW.out.lower hD9))
  all_goals
       have HV := Lib.hid (CpFin.make HCP.out h8.1 (h8.2.1.below h9.2.2.2.2.1) (fun y hy => (h8.2.2.1 y hy).lower h9.2.2.2.2.1) h8.2.2.2.1 h8.2.2.2.2.1 h8.2.2.2.2.2.1 h8.2.2.2.2.2.2.1 h9.1 h9.2.1 h9.2.2.1 h9.2.2.2.1 h9.2.2.2.2.2)
       have hq := hq9
       have r0 : v9.cell? ⟨g2, 0, none⟩ = some (.int .i64 0) := by rw [Lib.cell_of_heap hq]; rfl
       have r1 : v9.cell? ⟨g2, 1, none⟩ = some (.int .i64 0) := by rw [Lib.cell_of_heap hq]; rfl
       have r2 : v9.cell? ⟨g2, 2, none⟩ = some (.slice none 0 0) := by rw [Lib.cell_of_heap hq]; rfl
       have r3 : v9.cell? ⟨g2, 3, none⟩ = some (.slice none 0 0) := by rw [Lib.cell_of_heap hq]; rfl
       have r4 : v9.cell? ⟨g2, 4, none⟩ = some (.int .i64 0) := by rw [Lib.cell_of_heap hq]; rfl
       have z0 := Lib.frozen_of_heap hq 0
       have z1 := Lib.frozen_of_heap hq 1
       have z2 := Lib.frozen_of_heap hq 2
       have z3 := Lib.frozen_of_heap hq 3
       have z4 := Lib.frozen_of_heap hq 4
       have HE := Lib.hid (cp_end HV.out.inn HV.out.bl (by have := HG.out.2.2.1; omega) (below_then HB1.out HV.out.b) (by have := HGG.out; omega) hq (.int .i64 d.kind) (.int .i64 d.n) (.slice A8 d.pn m8) (.slice A9 d.ln m9) (.int .i64 d.tail))
       clear h8 h9 hD8 hD9 hD0 HCO HCL HI HB n0 n1 n2 n3 n4 hq8 hq9 hh8 hh9 hq c0 c1 c2 c3 c4
       go_wp2_with fail
       clear m0 m1 m2 m3 m4 f2 f3 r0 r1 r2 r3 r4 z0 z1 z2 z3 z4
       generalize (((((((v9.setCell ⟨g2 + 1, 2, none⟩ (.slice A8 d.pn m8)).setCell ⟨g2 + 1, 3, none⟩ (.slice A9 d.ln m9)).setCell ⟨g2, 0, none⟩ (.int .i64 d.kind)).setCell ⟨g2, 1, none⟩ (.int .i64 d.n)).setCell ⟨g2, 2, none⟩ (.slice A8 d.pn m8)).setCell ⟨g2, 3, none⟩ (.slice A9 d.ln m9)).setCell ⟨g2, 4, none⟩ (.int .i64 d.tail)) = w7 at *
       have e0 : w7.cell? ⟨g2, 0, none⟩ = some (.int .i64 d.kind) := by rw [Lib.cell_of_heap HE.out.2.2]; rfl
       have e1 : w7.cell? ⟨g2, 1, none⟩ = some (.int .i64 d.n) := by rw [Lib.cell_of_heap HE.out.2.2]; rfl
       have e2 : w7.cell? ⟨g2, 2, none⟩ = some (.slice A8 d.pn m8) := by rw [Lib.cell_of_heap HE.out.2.2]; rfl
       have e3 : w7.cell? ⟨g2, 3, none⟩ = some (.slice A9 d.ln m9) := by rw [Lib.cell_of_heap HE.out.2.2]; rfl
       have e4 : w7.cell? ⟨g2, 4, none⟩ = some (.int .i64 d.tail) := by rw [Lib.cell_of_heap HE.out.2.2]; rfl
       refine bodyPost_ret (by simp [results, Tryz.results34, go_sem, e0, e1, e2, e3, e4]; try rfl) rfl ?_
       exact ⟨Ty.mk ⟨d.kind, d.n, A8, d.pn, m8, A9, d.ln, m9, d.labels, d.tail⟩ ys, rfl, HE.out.1, HV.out.bl.imp HV.out.inn (fun b hb _ => by have := HG.out.2.2.1; have := HGG.out; omega), ⟨rfl, rfl, rfl, rfl, HV.out.eqv⟩, HE.out.2.1⟩
end Go.Proofs.YtklandpagieapaaGreatDoor

namespace Go.Proofs.YtklandpagieapaaGreatDoor
open Go.ChangeShapes Go.WideShapes Go.ChangeAt Go.RowKit Go.Sort Go.Maps
set_option linter.unusedVariables false
set_option linter.unusedSimpArgs false

/-- A result that is written into its cell. -/
theorem rc_end {u W : World} {g n : Nat} {y : Ty} (hI : y.In u) (hB : y.Bl (fun b => n ≤ b)) (hg : g < n) (hW : Below W.heap.size W u) (hWg : W.heap.size ≤ g) {x0 x1 x2 x3 x4 : Value} {T : TypeId} {fr : Nat × Nat} (h : u.heap[g]? = some (.cells #[x0, x1, x2, x3, x4] T fr)) (a0 a1 a2 a3 a4 : Value) :
    y.In (((((u.setCell ⟨g, 0, none⟩ a0).setCell ⟨g, 1, none⟩ a1).setCell ⟨g, 2, none⟩ a2).setCell ⟨g, 3, none⟩ a3).setCell ⟨g, 4, none⟩ a4) ∧ Below W.heap.size W (((((u.setCell ⟨g, 0, none⟩ a0).setCell ⟨g, 1, none⟩ a1).setCell ⟨g, 2, none⟩ a2).setCell ⟨g, 3, none⟩ a3).setCell ⟨g, 4, none⟩ a4) ∧ (((((u.setCell ⟨g, 0, none⟩ a0).setCell ⟨g, 1, none⟩ a1).setCell ⟨g, 2, none⟩ a2).setCell ⟨g, 3, none⟩ a3).setCell ⟨g, 4, none⟩ a4).heap[g]? = some (.cells #[a0, a1, a2, a3, a4] T fr) :=
  ⟨in_sets (in_sets (in_sets (in_sets (in_sets hI hB hg) hB hg) hB hg) hB hg) hB hg, Below.setCell (p := ⟨g, 4, none⟩) (Below.setCell (p := ⟨g, 3, none⟩) (Below.setCell (p := ⟨g, 2, none⟩) (Below.setCell (p := ⟨g, 1, none⟩) (Below.setCell (p := ⟨g, 0, none⟩) hW hWg a0) hWg a1) hWg a2) hWg a3) hWg a4, box5 u g h _ _ _ _ _⟩
/-- What a maker of types tells: a new one that is alike. -/
def MkR (t : Ty) (W : World) (e : Ending) (w' : World) : Prop := ∃ y : Ty, e = .returned (.agg y.d.arr) ∧ y.In w' ∧ y.eqv t ∧ Below W.heap.size W w'
theorem cells5 {w : World} {g : Nat} {x0 x1 x2 x3 x4 : Value} {T : TypeId} {fr : Nat × Nat} (h : w.heap[g]? = some (.cells #[x0, x1, x2, x3, x4] T fr)) :
    w.cell? ⟨g, 0, none⟩ = some x0 ∧ w.cell? ⟨g, 1, none⟩ = some x1 ∧ w.cell? ⟨g, 2, none⟩ = some x2 ∧ w.cell? ⟨g, 3, none⟩ = some x3 ∧ w.cell? ⟨g, 4, none⟩ = some x4 := by
  refine ⟨?_, ?_, ?_, ?_, ?_⟩ <;> (rw [Lib.cell_of_heap h]; rfl)
theorem frozen5 {w : World} {g : Nat} {cs : Array Value} {T : TypeId} (h : w.heap[g]? = some (.cells cs T (0, 0))) :
    w.frozen? ⟨g, 0, none⟩ = false ∧ w.frozen? ⟨g, 1, none⟩ = false ∧ w.frozen? ⟨g, 2, none⟩ = false ∧ w.frozen? ⟨g, 3, none⟩ = false ∧ w.frozen? ⟨g, 4, none⟩ = false :=
  ⟨Lib.frozen_of_heap h 0, Lib.frozen_of_heap h 1, Lib.frozen_of_heap h 2, Lib.frozen_of_heap h 3, Lib.frozen_of_heap h 4⟩

set_option maxRecDepth 100000 in
set_option maxHeartbeats 2000000 in
theorem typRow_any (w0 : World) (d : TyD) (l : List Ty) (hI : (Ty.mk d l).In w0) (W : World) (hb : Below w0.heap.size w0 W) :
    Calls Tryz.prog 14 #[.int .i64 d.kind, .slice d.lA d.ln d.lc, .slice d.pA d.pn d.pc, .int .i64 d.tail] W (MkR (.mk { d with n := 0 } l) W) := by
  have hbz : Below W.heap.size W (W.alloc (.cells #[.int .i64 0, .int .i64 0, .slice none 0 0, .slice none 0 0, .int .i64 0] 25)) := (Below.refl _ _).alloc (Nat.le_refl _) _
  have HG := Lib.hid (heap_alloc_new W (.cells #[.int .i64 0, .int .i64 0, .slice none 0 0, .slice none 0 0, .int .i64 0] 25))
  have HSZ := Lib.hid (show (W.alloc (.cells #[.int .i64 0, .int .i64 0, .slice none 0 0, .slice none 0 0, .int .i64 0] 25)).heap.size = W.heap.size + 1 from World.size_alloc _ _)
  have HBZ := Lib.hid hbz
  have hlen : l.length = d.pn := hI.len
  have hcap : d.ln ≤ d.lc ∧ d.lc ≤ maxLen ∧ d.pn ≤ d.pc ∧ d.pc ≤ maxLen ∧ d.ln ≤ 4000000 ∧ d.pn ≤ 4000000 := hI.cap
  have HCP := Lib.hid hcap
  have HCO := Lib.hid (copies_any w0 l (fun x hx => copied_any w0 x (hI.sub x hx)) d.pA d.pn d.pc hlen hcap.2.2.2.2.2 (fun k hk => hI.part (k := k) hk) _ (below_then hb hbz))
  have HLAB := Lib.hid (show ∀ V, Below w0.heap.size w0 V → Rd V 1 d.lA d.ln (strs d.labels) from fun V hV => hI.lab.below hV)
  have HL := Lib.hid hlen
  have HB := Lib.hid (below_then hb hbz)
  clear hb hbz hI hlen hcap
  go_enter Tryz.func14, Tryz.ntmps14
  go_wp2_with fail
  generalize (W.alloc (.cells #[.int .i64 0, .int .i64 0, .slice none 0 0, .slice none 0 0, .int .i64 0] 25)) = w1 at *
  refine HCO.out.mono ?_
  rintro e v1 ⟨A8, n8, m8, ys, rfl, hn8, h1, h2, h3, h4, h5, h6, h7, h8⟩
  obtain rfl : n8 = d.pn := by rw [← hn8, tyL_len h1, HL.out]
  have H1 := Lib.hid (And.intro h1 (And.intro h2 (And.intro h3 (And.intro h4 (And.intro h5 (And.intro h6 (And.intro h7 h8)))))))
  clear h1 h2 h3 h4 h5 h6 h7 h8 hn8 HCO
  go_wp2_with fail
  refine (clone_any d.lA d.labels d.ln d.lc v1 (HLAB.out v1 (below_then HB.out H1.out.2.2.2.2.2.2.2)) HCP.out.2.2.2.2.1).mono ?_
  rintro e v2 ⟨A9, m9, rfl, k1, k2, k3, k4, k5⟩
  have HIN : RowKit.Hid ((Ty.mk ⟨d.kind, 0, A8, d.pn, m8, A9, d.ln, m9, d.labels, d.tail⟩ ys).In v2) := Lib.hid (.mk _ _ k1 (H1.out.2.1.below k5) ⟨k3, k4, H1.out.2.2.2.2.2.1, H1.out.2.2.2.2.2.2.1, HCP.out.2.2.2.2.1, HCP.out.2.2.2.2.2⟩ (fun y hy => (H1.out.2.2.1 y hy).lower k5))
  have HBL : RowKit.Hid ((Ty.mk ⟨d.kind, 0, A8, d.pn, m8, A9, d.ln, m9, d.labels, d.tail⟩ ys).Bl (fun b => w1.heap.size ≤ b)) := Lib.hid (.mk _ _ (fun h a ha => Nat.le_trans H1.out.2.2.2.2.2.2.2.size (k2 h a ha)) H1.out.2.2.2.2.1 H1.out.2.2.2.1)
  have HB2 := Lib.hid (below_then H1.out.2.2.2.2.2.2.2 k5)
  clear k1 k2 k3 k4 k5
  have hq := (HB2.out.block W.heap.size (by rw [HSZ.out]; omega)).trans HG.out
  obtain ⟨r0, r1, r2, r3, r4⟩ := cells5 hq
  obtain ⟨z0, z1, z2, z3, z4⟩ := frozen5 hq
  have HE := Lib.hid (rc_end HIN.out HBL.out (show W.heap.size < w1.heap.size by rw [HSZ.out]; omega) (below_then HBZ.out HB2.out) (Nat.le_refl _) hq (.int .i64 d.kind) (.int .i64 0) (.slice A8 d.pn m8) (.slice A9 d.ln m9) (.int .i64 d.tail))
  clear hq
  go_wp2_with fail
  clear r0 r1 r2 r3 r4 z0 z1 z2 z3 z4
  generalize (((((v2.setCell ⟨W.heap.size, 0, none⟩ (.int .i64 d.kind)).setCell ⟨W.heap.size, 1, none⟩ (.int .i64 0)).setCell ⟨W.heap.size, 2, none⟩ (.slice A8 d.pn m8)).setCell ⟨W.heap.size, 3, none⟩ (.slice A9 d.ln m9)).setCell ⟨W.heap.size, 4, none⟩ (.int .i64 d.tail)) = w7 at *
  obtain ⟨e0, e1, e2, e3, e4⟩ := cells5 HE.out.2.2
  refine bodyPost_ret (by simp [results, Tryz.results14, go_sem, e0, e1, e2, e3, e4]; try rfl) rfl ?_
  exact ⟨Ty.mk ⟨d.kind, 0, A8, d.pn, m8, A9, d.ln, m9, d.labels, d.tail⟩ ys, rfl, HE.out.1, ⟨rfl, rfl, rfl, rfl, H1.out.1⟩, HE.out.2.1⟩

set_option maxRecDepth 100000 in
set_option maxHeartbeats 2000000 in
theorem typVar_any (n : Int) (W : World) : Calls Tryz.prog 17 #[.int .i64 n] W fun e w' => e = .returned (.agg #[.int .i64 7, .int .i64 n, .slice none 0 0, .slice none 0 0, .int .i64 (-1)]) ∧ Below W.heap.size W w' := by
  go_enter Tryz.func17, Tryz.ntmps17
  go_wp2_with fail
  go_returns
  exact ⟨rfl, (Below.refl _ _).alloc (Nat.le_refl _) _⟩

/-- A function's type. -/
def fnTy (x1 x2 : Ty) : Ty := .mk ⟨3, 0, none, 0, 0, none, 0, 0, [], -1⟩ [x1, x2]
theorem rd_two (w : World) (y1 y2 : Ty) : Rd (w.alloc (.cells #[.int .i64 y1.d.kind, .int .i64 y1.d.n, .slice y1.d.pA y1.d.pn y1.d.pc, .slice y1.d.lA y1.d.ln y1.d.lc, .int .i64 y1.d.tail, .int .i64 y2.d.kind, .int .i64 y2.d.n, .slice y2.d.pA y2.d.pn y2.d.pc, .slice y2.d.lA y2.d.ln y2.d.lc, .int .i64 y2.d.tail] 25)) 5 (some ⟨w.heap.size, 0, none⟩) 2 ([y1, y2].flatMap Ty.cells) :=
  Rd.lit w #[.int .i64 y1.d.kind, .int .i64 y1.d.n, .slice y1.d.pA y1.d.pn y1.d.pc, .slice y1.d.lA y1.d.ln y1.d.lc, .int .i64 y1.d.tail, .int .i64 y2.d.kind, .int .i64 y2.d.n, .slice y2.d.pA y2.d.pn y2.d.pc, .slice y2.d.lA y2.d.ln y2.d.lc, .int .i64 y2.d.tail] 25 rfl

set_option maxRecDepth 100000 in
set_option maxHeartbeats 2000000 in
theorem typFn_any (x1 x2 : Ty) (W : World) (h1 : x1.In W) (h2 : x2.In W) :
    Calls Tryz.prog 16 #[.agg x1.d.arr, .agg x2.d.arr] W (MkR (fnTy x1 x2) W) := by
  have hb1 : Below W.heap.size W (W.alloc (.cells x1.d.arr 25)) := (Below.refl _ _).alloc (Nat.le_refl _) _
  have hb2 : Below W.heap.size W ((W.alloc (.cells x1.d.arr 25)).alloc (.cells x2.d.arr 25)) := hb1.alloc hb1.size _
  have hb3 : Below W.heap.size W (((W.alloc (.cells x1.d.arr 25)).alloc (.cells x2.d.arr 25)).alloc (.cells #[.int .i64 0, .int .i64 0, .slice none 0 0, .slice none 0 0, .int .i64 0] 25)) := hb2.alloc hb2.size _
  have HG := Lib.hid (show (((W.alloc (.cells x1.d.arr 25)).alloc (.cells x2.d.arr 25)).alloc (.cells #[.int .i64 0, .int .i64 0, .slice none 0 0, .slice none 0 0, .int .i64 0] 25)).heap[W.heap.size + 1 + 1]? = some (.cells #[.int .i64 0, .int .i64 0, .slice none 0 0, .slice none 0 0, .int .i64 0] 25) by
    have h := heap_alloc_new ((W.alloc (.cells x1.d.arr 25)).alloc (.cells x2.d.arr 25)) (.cells #[.int .i64 0, .int .i64 0, .slice none 0 0, .slice none 0 0, .int .i64 0] 25)
    rw [show ((W.alloc (.cells x1.d.arr 25)).alloc (.cells x2.d.arr 25)).heap.size = W.heap.size + 1 + 1 by simp] at h
    exact h)
  have HSZ := Lib.hid (show (((W.alloc (.cells x1.d.arr 25)).alloc (.cells x2.d.arr 25)).alloc (.cells #[.int .i64 0, .int .i64 0, .slice none 0 0, .slice none 0 0, .int .i64 0] 25)).heap.size = W.heap.size + 3 by simp)
  have HA1 := Lib.hid (show x1.d.At (((W.alloc (.cells x1.d.arr 25)).alloc (.cells x2.d.arr 25)).alloc (.cells #[.int .i64 0, .int .i64 0, .slice none 0 0, .slice none 0 0, .int .i64 0] 25)) W.heap.size 0 from ((box_at W x1.d).lower ((Below.refl _ _).alloc (Nat.le_refl _) _)).lower ((Below.refl _ _).alloc (Nat.le_refl _) _))
  have HA2 := Lib.hid (show x2.d.At (((W.alloc (.cells x1.d.arr 25)).alloc (.cells x2.d.arr 25)).alloc (.cells #[.int .i64 0, .int .i64 0, .slice none 0 0, .slice none 0 0, .int .i64 0] 25)) (W.heap.size + 1) 0 by
    have h := (box_at (W.alloc (.cells x1.d.arr 25)) x2.d).lower ((Below.refl _ _).alloc (Nat.le_refl _) (.cells #[.int .i64 0, .int .i64 0, .slice none 0 0, .slice none 0 0, .int .i64 0] 25))
    rw [show (W.alloc (.cells x1.d.arr 25)).heap.size = W.heap.size + 1 by simp] at h
    exact h)
  have HI1 := Lib.hid (h1.lower hb3)
  have HI2 := Lib.hid (h2.lower hb3)
  have HB3 := Lib.hid hb3
  clear hb1 hb2 hb3 h1 h2
  go_enter Tryz.func16, Tryz.ntmps16
  go_wp2_with fail
  generalize (((W.alloc (.cells x1.d.arr 25)).alloc (.cells x2.d.arr 25)).alloc (.cells #[.int .i64 0, .int .i64 0, .slice none 0 0, .slice none 0 0, .int .i64 0] 25)) = w1 at *
  refine (copied_any w1 x1 HI1.out W.heap.size 0 w1 HA1.out (Below.refl _ _)).mono ?_
  rintro e v1 ⟨y1, rfl, i1, b1, e1, hb1⟩
  have H1 := Lib.hid (And.intro i1 (And.intro b1 (And.intro e1 hb1)))
  clear i1 b1 e1 hb1
  go_wp2_with fail
  refine (copied_any w1 x2 HI2.out (W.heap.size + 1) 0 v1 HA2.out H1.out.2.2.2).mono ?_
  rintro e v2 ⟨y2, rfl, i2, b2, e2, hb2⟩
  have H2 := Lib.hid (And.intro (H1.out.1.lower hb2) (And.intro i2 (And.intro (b2.imp i2 (fun b hb _ => Nat.le_trans H1.out.2.2.2.size hb)) (And.intro e2 (below_then H1.out.2.2.2 hb2)))))
  clear i2 b2 e2 hb2
  have hb3 : Below v2.heap.size v2 (v2.alloc (.cells #[.int .i64 y1.d.kind, .int .i64 y1.d.n, .slice y1.d.pA y1.d.pn y1.d.pc, .slice y1.d.lA y1.d.ln y1.d.lc, .int .i64 y1.d.tail, .int .i64 y2.d.kind, .int .i64 y2.d.n, .slice y2.d.pA y2.d.pn y2.d.pc, .slice y2.d.lA y2.d.ln y2.d.lc, .int .i64 y2.d.tail] 25)) := (Below.refl _ _).alloc (Nat.le_refl _) _
  have HIN : RowKit.Hid ((Ty.mk ⟨3, 0, some ⟨v2.heap.size, 0, none⟩, 2, 2, none, 0, 0, [], -1⟩ [y1, y2]).In _) := Lib.hid (.mk _ _ (Rd.nil _ _ _) (rd_two v2 y1 y2) (by simp [maxLen]) (fun y hy => by
    simp only [List.mem_cons, List.not_mem_nil, or_false] at hy
    rcases hy with rfl | rfl
    · exact H2.out.1.lower hb3
    · exact H2.out.2.1.lower hb3))
  have HBL : RowKit.Hid ((Ty.mk ⟨3, 0, some ⟨v2.heap.size, 0, none⟩, 2, 2, none, 0, 0, [], -1⟩ [y1, y2]).Bl (fun b => w1.heap.size ≤ b)) := Lib.hid (.mk _ _ (fun h => absurd (show 0 < 0 from h) (by omega)) (fun _ a ha => by cases ha; exact H2.out.2.2.2.2.size) (fun y hy => by
    simp only [List.mem_cons, List.not_mem_nil, or_false] at hy
    rcases hy with rfl | rfl
    · exact H1.out.2.1
    · exact H2.out.2.2.1))
  have HBB := Lib.hid (below_then H2.out.2.2.2.2 hb3)
  have hq := (HBB.out.block (W.heap.size + 1 + 1) (by rw [HSZ.out]; omega)).trans HG.out
  obtain ⟨r0, r1, r2, r3, r4⟩ := cells5 hq
  obtain ⟨z0, z1, z2, z3, z4⟩ := frozen5 hq
  have HE := Lib.hid (rc_end HIN.out HBL.out (show W.heap.size + 1 + 1 < w1.heap.size by rw [HSZ.out]; omega) (below_then HB3.out HBB.out) (by omega) hq (.int .i64 3) (.int .i64 0) (.slice (some ⟨v2.heap.size, 0, none⟩) 2 2) (.slice none 0 0) (.int .i64 (-1)))
  have HEV := Lib.hid (show (Ty.mk ⟨3, 0, some ⟨v2.heap.size, 0, none⟩, 2, 2, none, 0, 0, [], -1⟩ [y1, y2]).eqv (fnTy x1 x2) from ⟨rfl, rfl, rfl, rfl, H1.out.2.2.1, H2.out.2.2.2.1, trivial⟩)
  clear hq hb3
  go_wp2_with fail
  clear r0 r1 r2 r3 r4 z0 z1 z2 z3 z4
  generalize ((((((v2.alloc (.cells #[.int .i64 y1.d.kind, .int .i64 y1.d.n, .slice y1.d.pA y1.d.pn y1.d.pc, .slice y1.d.lA y1.d.ln y1.d.lc, .int .i64 y1.d.tail, .int .i64 y2.d.kind, .int .i64 y2.d.n, .slice y2.d.pA y2.d.pn y2.d.pc, .slice y2.d.lA y2.d.ln y2.d.lc, .int .i64 y2.d.tail] 25)).setCell ⟨W.heap.size + 1 + 1, 0, none⟩ (.int .i64 3)).setCell ⟨W.heap.size + 1 + 1, 1, none⟩ (.int .i64 0)).setCell ⟨W.heap.size + 1 + 1, 2, none⟩ (.slice (some ⟨v2.heap.size, 0, none⟩) 2 2)).setCell ⟨W.heap.size + 1 + 1, 3, none⟩ (.slice none 0 0)).setCell ⟨W.heap.size + 1 + 1, 4, none⟩ (.int .i64 (-1))) = w7 at *
  obtain ⟨e0, e1, e2, e3, e4⟩ := cells5 HE.out.2.2
  refine bodyPost_ret (by simp [results, Tryz.results16, go_sem, e0, e1, e2, e3, e4]; try rfl) rfl ?_
  exact ⟨Ty.mk ⟨3, 0, some ⟨v2.heap.size, 0, none⟩, 2, 2, none, 0, 0, [], -1⟩ [y1, y2], rfl, HE.out.1, HEV.out, HE.out.2.1⟩
end Go.Proofs.YtklandpagieapaaGreatDoor
