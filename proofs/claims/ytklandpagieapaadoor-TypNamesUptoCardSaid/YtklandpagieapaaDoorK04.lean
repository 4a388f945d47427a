/-
  Maps of types that have no parts: what is read of them, and how they are walked. About no function.
  How many nodes the types of a map have, by the code.
  What is put in, and how many nodes that has: by the code.
  Whether two types are alike: by the code.
  Types in new memory, by the code.
-/
import Derived.Test.YtklandpagieapaaDoorK02
import Derived.Maps.RangeWalk
import Derived.Maps.Ext
import Derived.Test.YtklandpagieapaaDoorK00
import Derived.Test.YtklandpagieapaaDoorK03
import Derived.Deep.AppendLies
namespace Go.Proofs.YtklandpagieapaaDoor
open Go.ChangeShapes Go.WideShapes Go.ChangeAt Go.RowKit Go.Sort Go.Maps
set_option linter.unusedVariables false
set_option linter.unusedSimpArgs false

/-- A type without parts. -/
structure Lf where
  k : Int
  n : Int
  t : Int
  pA : Option Addr
  pc : Nat
  lA : Option Addr
  lc : Nat
abbrev Lf.arr (x : Lf) : Array Value := #[.int .i64 x.k, .int .i64 x.n, .slice x.pA 0 x.pc, .slice x.lA 0 x.lc, .int .i64 x.t]
def Lf.d (x : Lf) : TyD := ⟨x.k, x.n, x.pA, 0, x.pc, x.lA, 0, x.lc, [], x.t⟩
def Lf.ty (x : Lf) : Ty := .mk x.d []
def Lf.zero : Lf := ⟨0, 0, 0, none, 0, none, 0⟩
theorem Lf.val_inj {x y : Lf} (h : Value.agg x.arr = .agg y.arr) : x = y := by
  cases x
  cases y
  simp at h
  obtain ⟨h1, h2, ⟨h3, h4⟩, ⟨h5, h6⟩, h7⟩ := h
  simp [h1, h2, h3, h4, h5, h6, h7]
/-- How an element reads: as the type that it is. -/
noncomputable def leafR (v : Value) : Option (DataW Lf × List MemPlace) := @dite _ (∃ x : Lf, v = .agg x.arr) (Classical.propDecidable _) (fun h => some (.held h.choose, [])) (fun _ => none)
theorem leafR_mk (x : Lf) : leafR (.agg x.arr) = some (.held x, []) := by
  unfold leafR
  have h : ∃ y : Lf, Value.agg x.arr = .agg y.arr := ⟨x, rfl⟩
  rw [dif_pos h]
  rw [← Lf.val_inj h.choose_spec]
theorem leafR_inv {v : Value} {y : DataW Lf × List MemPlace} (h : leafR v = some y) : ∃ x : Lf, v = .agg x.arr ∧ y = (.held x, []) := by
  unfold leafR at h
  by_cases hh : ∃ x : Lf, v = .agg x.arr
  · rw [dif_pos hh] at h
    injection h with h
    exact ⟨hh.choose, hh.choose_spec, h.symm⟩
  · rw [dif_neg hh] at h
    cases h
theorem zeroType (w : World) : (zeroValue 25).run Tryd.prog w = .ok (.agg Lf.zero.arr) w := by kernel_rfl
abbrev OM (w : World) (bk n : Nat) (D : DataW Lf) : Prop := w.ownsMap (H := Lf) Tryd.prog 3 leafR bk n D
/-- What a map reads as, key by key; how many entries it has. -/
structure MapIs (F : Int → Option Lf) (c : Nat) (D : DataW Lf) : Prop where
  has : ∀ n, (Lit.int .i64 n).wf = true → Maps.has D (.int .i64 n) = (F n).isSome
  val : ∀ n, (Lit.int .i64 n).wf = true → ∀ x, F n = some x → ∀ zd, D.atKey (.int .i64 n) zd = .held x
  size : Maps.size D = c
inductive LM (F : Int → Option Lf) (c : Nat) (w : World) : Value → Prop
  | none (h : ∀ n, F n = none) (hc : c = 0) : LM F c w (.map none)
  | own (bk k : Nat) (D : DataW Lf) (hk : k ≤ 4000000) (h : OM w bk k D) (hD : MapIs F c D) : LM F c w (.map (some bk))
theorem OM.below {w w' : World} {bk n : Nat} {D : DataW Lf} (h : OM w bk n D) (hb : Below w.heap.size w w') : OM w' bk n D := by
  obtain ⟨es, clock, hh, F, hs, hD⟩ := h
  have hlt := lt_of_heap hh
  exact ⟨es, clock, by rw [hb.block bk hlt]; exact hh, F, hs, hD⟩
theorem IM.below {w w' : World} {bk n : Nat} {D : DataW Unit} (h : IM w bk n D) (hb : Below w.heap.size w w') : IM w' bk n D := by
  obtain ⟨es, clock, hh, F, hs, hD⟩ := h
  have hlt := lt_of_heap hh
  exact ⟨es, clock, by rw [hb.block bk hlt]; exact hh, F, hs, hD⟩
theorem LM.below {F : Int → Option Lf} {c : Nat} {w w' : World} {m : Value} (h : LM F c w m) (hb : Below w.heap.size w w') : LM F c w' m := by
  cases h with
  | none h hc => exact .none h hc
  | own bk k D hk h hD => exact .own bk k D hk (h.below hb) hD

set_option maxRecDepth 100000 in
theorem LM.look {F : Int → Option Lf} {c : Nat} {w : World} {m : Value} (h : LM F c w m) {n : Int} (hn : (Lit.int .i64 n).wf = true) :
    (Instr.lookup 36 m (.int .i64 n) true).run Tryd.prog w = .ok (.tuple #[.agg ((F n).getD Lf.zero).arr, .bool (F n).isSome]) w := by
  have hkey : keyOf Tryd.prog 3 (.int .i64 n) = some (.int .i64 n) := keyOf_int_mk Tryd.underlying3 hn
  cases h with
  | none h hc => rw [h n]; exact Maps.look_nil true lawInt Tryd.underlying36 (zeroType w) hkey
  | own bk k D hk h hD =>
    obtain ⟨v, ps, hrun, hv⟩ := World.ownsMap.look_ok h lawInt Tryd.underlying36 (zeroType w) (leafR_mk Lf.zero) hkey
    rw [hrun, hD.has n hn]
    obtain ⟨x, rfl, hx⟩ := leafR_inv hv
    have hx' : D.atKey (.int .i64 n) (.held Lf.zero) = .held x := congrArg Prod.fst hx
    cases hF : F n with
    | none =>
      have hno := atKey_of_not_has (show Maps.has D (.int .i64 n) = false by rw [hD.has n hn, hF]; rfl) (.held Lf.zero)
      rw [hno] at hx'
      injection hx' with hx'
      rw [← hx']
      rfl
    | some y =>
      rw [hD.val n hn y hF] at hx'
      injection hx' with hx'
      rw [← hx']
      rfl
theorem LM.len {F : Int → Option Lf} {c : Nat} {w : World} {m : Value} (h : LM F c w m) (ty : TypeId) : (Builtin.len_ #[36] ty #[m]).run Tryd.prog w = .ok (.int .i64 c) w := by
  cases h with
  | none h hc => subst hc; exact Maps.len_nil Tryd.underlying36 ty
  | own bk k D hk h hD => rw [← hD.size]; exact World.ownsMap.len h Tryd.underlying36 ty
theorem LM.small {F : Int → Option Lf} {c : Nat} {w : World} {m : Value} (h : LM F c w m) : c ≤ 4000000 := by
  cases h with
  | none h hc => omega
  | own bk k D hk h hD => rw [← hD.size]; exact Nat.le_trans h.size_le hk

/-- Maps with the same keys have as many entries. -/
theorem size_has {H1 H2 : Type} {D1 : DataW H1} {D2 : DataW H2} (c1 : Canon D1) (c2 : Canon D2) (h : ∀ k, Maps.has D1 k = Maps.has D2 k) : Maps.size D1 = Maps.size D2 := by
  obtain ⟨es1, rfl, s1, k1⟩ := c1
  obtain ⟨es2, rfl, s2, k2⟩ := c2
  have key : ∀ {H : Type} (es : List (Lit × DataW H)), (∀ p ∈ es, WideAt.IsKeyLit p.1) → ∀ k, (Maps.has (.map es) k = true ↔ k ∈ es.map Prod.fst) := by
    intro H es hk k
    constructor
    · intro h
      obtain ⟨p, hp, hs⟩ := List.any_eq_true.1 h
      exact List.mem_map.2 ⟨p, hp, WideAt.sameKey_eq hs⟩
    · intro h
      obtain ⟨p, hp, rfl⟩ := List.mem_map.1 h
      exact List.any_eq_true.2 ⟨p, hp, WideAt.sameKey_self (hk p hp)⟩
  have e : es1.map (fun p => (p.1, (DataW.nil : DataW Unit))) = es2.map (fun p => (p.1, (DataW.nil : DataW Unit))) := by
    refine eq_of_mem_rising (List.pairwise_map.2 s1) (List.pairwise_map.2 s2) ?_
    intro p
    have hm : ∀ {H : Type} (es : List (Lit × DataW H)), p ∈ es.map (fun p => (p.1, (DataW.nil : DataW Unit))) ↔ (p.2 = .nil ∧ p.1 ∈ es.map Prod.fst) := by
      intro H es
      constructor
      · intro h
        obtain ⟨q, hq, rfl⟩ := List.mem_map.1 h
        exact ⟨rfl, List.mem_map.2 ⟨q, hq, rfl⟩⟩
      · rintro ⟨h1, h2⟩
        obtain ⟨q, hq, e⟩ := List.mem_map.1 h2
        exact List.mem_map.2 ⟨q, hq, Prod.ext e h1.symm⟩
    rw [hm es1, hm es2, ← key es1 k1, ← key es2 k2, h p.1]
  have := congrArg List.length e
  rw [List.length_map, List.length_map] at this
  exact this
end Go.Proofs.YtklandpagieapaaDoor

namespace Go.Proofs.YtklandpagieapaaDoor
open Go.ChangeShapes Go.WideShapes Go.ChangeAt Go.RowKit Go.Sort Go.Maps
set_option linter.unusedVariables false
set_option linter.unusedSimpArgs false

def Lf.zeroD : DataW Lf := .held Lf.zero
def OkF (F : Int → Option Lf) : Prop := ∀ n x, F n = some x → x.d.fieldsB = true ∧ x.pc ≤ maxLen ∧ x.lc ≤ maxLen
theorem Lf.inn (x : Lf) (w : World) (hp : x.pc ≤ maxLen) (hl : x.lc ≤ maxLen) : x.ty.In w := .mk x.d [] ⟨rfl, fun h => absurd h (by simp [Lf.d, strs])⟩ ⟨rfl, fun h => absurd h (by simp)⟩ (by simp only [Lf.d]; omega) (fun y hy => by cases hy)
theorem leaf_may {x : Lf} (h : x.d.fieldsB = true) : mayF x.ty 0 = some 1 := by
  unfold Lf.ty mayF
  rw [if_neg (by omega), if_pos h]
  rfl
theorem grown_of {w w' : World} (h : RowKit.Below w.heap.size w w') : w.grownBy w' none := ⟨h.os, h.tape, h.output, h.size, fun i hi _ => h.block i hi⟩
/-- What is told of those that have come. -/
structure Agr (D : DataW Lf) (Dt : DataW Unit) (left : Lit → Bool) : Prop where
  has : ∀ kl, Maps.has Dt kl = (Maps.has D kl && !left kl)
  one : ∀ n, Maps.has Dt (.int .i64 n) = true → Dt.atKey (.int .i64 n) (.lit (.int .i64 0)) = .lit (.int .i64 1)
theorem Agr.start (D : DataW Lf) : Agr D (.map []) (Maps.has D) := ⟨fun kl => by rw [show Maps.has (.map [] : DataW Unit) kl = false from rfl]; cases Maps.has D kl <;> rfl, fun n h => by cases h⟩
theorem Agr.step {D : DataW Lf} {Dt : DataW Unit} {left : Lit → Bool} (h : Agr D Dt left) (hm : Maps.IsMap Dt) {x : Int} {y : DataW Lf} (hk : WideAt.IsKeyLit (.int .i64 x)) (hat : ∀ zd, D.atKey (.int .i64 x) zd = y) : Agr D (Dt.put (.int .i64 x) (.lit (.int .i64 1))) (fun z => left z && !z.sameKey (.int .i64 x)) := by
  refine ⟨fun k => ?_, fun n hn => ?_⟩
  · by_cases e : k = .int .i64 x
    · subst e
      show Maps.has (Dt.put _ _) _ = (Maps.has D _ && !(left _ && !Lit.sameKey _ _))
      rw [has_put_same hm hk, has_true_of_atKey hat, WideAt.sameKey_self hk]
      simp
    · show Maps.has (Dt.put _ _) k = (Maps.has D k && !(left k && !k.sameKey (.int .i64 x)))
      rw [has_put_other e, h.has k, sameKey_ne e]
      simp
  · by_cases e : n = x
    · subst e
      rw [atKey_put_same hm hk]
    · have e' : Lit.int .i64 n ≠ .int .i64 x := by intro h'; injection h' with _ h'; exact e h'
      rw [has_put_other e'] at hn
      rw [atKey_put_other e', h.one n hn]

set_option maxRecDepth 100000 in
set_option maxHeartbeats 2000000 in
theorem sizes_own (F : Int → Option Lf) (c : Nat) (hF : OkF F) (bk k : Nat) (D : DataW Lf) (hk : k ≤ 4000000) (w : World) (h : OM w bk k D) (hD : MapIs F c D) :
    Calls Tryd.prog 16 #[.map (some bk)] w fun e w' => ∃ bT Dt, e = .returned (.map (some bT)) ∧ IM w' bT 4000000 Dt ∧ (∀ n, (Lit.int .i64 n).wf = true → (F n).isSome = true → Dt.atKey (.int .i64 n) (.lit (.int .i64 0)) = .lit (.int .i64 1)) ∧ Maps.size Dt = c ∧ Below w.heap.size w w' := by
  have hlt := h.lt
  have HL := Lib.hid hlt
  have HO := Lib.hid (And.intro h (And.intro hD hF))
  have HSZ := Lib.hid (show Maps.size D ≤ 4000000 from Nat.le_trans h.size_le hk)
  have hmm := @run_makeMap Tryd.prog
  have HT0 := Lib.hid (World.ownsMap_made (H := Unit) w Tryd.prog 3 (plainElem Tryd.prog 3))
  have hb0 : Below w.heap.size w (w.alloc (.map #[] 0)) := (Below.refl _ _).alloc (Nat.le_refl _) _
  have HB0 := Lib.hid hb0
  have HOA := Lib.hid (h.below hb0)
  clear h hlt hD hF hk hb0
  go_enter Tryd.func16, Tryd.ntmps16
  go_wp2_with (first
    | (at_range; refine wpList_range_own _ rfl _ 36 rfl 3 25 lawInt Tryd.underlying36 leafR bk k D rfl HOA.out ?_; intro w0 hrg0 hg0 hs0)
    | fail)
  go_frame
  have hbt : bk ≠ w.heap.size ∧ (w.alloc (.map #[] 0)).heap.size = w.heap.size + 1 := ⟨by have := HL.out; omega, World.size_alloc _ _⟩
  rw [hbt.2] at hrg0 hs0 ⊢
  have HBT := Lib.hid hbt
  have HR0 := Lib.hid (And.intro hrg0 (And.intro (HT0.out.kept hg0 (by simp)) (below_then HB0.out (show Below _ _ _ from ⟨hg0.os, hg0.tape, hg0.output, hg0.size, fun i hi => hg0.block i hi (by simp)⟩))))
  clear hrg0 hg0 hs0 hbt hmm HOA
  go_loopw [] (fun wr => ∃ left cnt Dt, wr.ranges Tryd.prog 3 leafR bk (w.heap.size + 1) k D left cnt ∧ cnt ≤ 4000000 ∧ IM wr w.heap.size (4000000 - cnt) Dt ∧ Agr D Dt left ∧ Below w.heap.size w wr) (fun wr => wr.rangeLeft bk (w.heap.size + 1))
  case atStart => exact ⟨_, _, _, HR0.out.1, HSZ.out, HR0.out.2.1.mono (Nat.zero_le _), Agr.start D, HR0.out.2.2⟩
  case round =>
    obtain ⟨left, cnt, Dt, hrg, hcnt, him, hag, hbr⟩ := hrel
    have HR := Lib.hid (And.intro hrg (And.intro hcnt (And.intro him (And.intro hag hbr))))
    clear hrg hcnt him hag hbr
    go_wp2_with (first
      | (at_next; refine wpList_next_ranges _ rfl _ rfl 3 lawInt leafR (Value.int .i64) (fun x : Lf => Value.agg x.arr) (fun key kl hkey => by obtain ⟨x, rfl, _⟩ := Maps.keyOf_int_inv Tryd.underlying3 hkey; exact ⟨x, rfl⟩) (fun v y hv => by obtain ⟨x, rfl, _⟩ := leafR_inv hv; exact ⟨x, rfl⟩) bk (w.heap.size + 1) k D left cnt rfl HR.out.1 ?_ ?_)
      | fail)
    · intro hc0 hl0
      have HE := Lib.hid (And.intro hc0 hl0)
      clear hc0 hl0
      go_wp2_with fail
      go_returns
      refine ⟨w.heap.size, Dt, rfl, HR.out.2.2.1.mono (Nat.sub_le _ _), fun n hn hF => HR.out.2.2.2.1.one n ?_, ?_, HR.out.2.2.2.2⟩
      · rw [HR.out.2.2.2.1.has, HE.out.2, HO.out.2.1.has n hn, hF]; rfl
      · rw [← HO.out.2.1.size]
        exact size_has (HR.out.2.2.1.canon lawInt) (HO.out.1.canon lawInt) (fun kl => by rw [HR.out.2.2.2.1.has, HE.out.2]; simp)
    · intro x cf kl ya yb w1 cnt1 hkey hlk hv hat hrg1 hlt hg1 hs1 hen
      obtain ⟨x', ex, hkl, hwx⟩ := Maps.keyOf_int_inv Tryd.underlying3 hkey
      injection ex with _ ex
      subst ex
      subst hkl
      obtain ⟨cf', hcf, hya⟩ := leafR_inv hv
      obtain rfl := Lf.val_inj hcf
      injection hya with hya _
      subst hya
      have hF : F x = some cf := by
        have h1 := HO.out.2.1.has x hwx
        rw [has_true_of_atKey hat] at h1
        obtain ⟨z, hz⟩ := Option.isSome_iff_exists.1 h1.symm
        have h2 := HO.out.2.1.val x hwx z hz Lf.zeroD
        rw [hat] at h2
        injection h2 with h2
        rw [hz, h2]
      have HOK := Lib.hid (HO.out.2.2 x cf hF)
      have HWX := Lib.hid (And.intro hwx hat)
      have hb1 : RowKit.Below w1.heap.size w1 (w1.alloc (.cells cf.arr 25)) := (Below.refl _ _).alloc (Nat.le_refl _) _
      have HM := Lib.hid (mayBe_any (w1.alloc (.cells cf.arr 25)) cf.ty (cf.inn _ HOK.out.2.1 HOK.out.2.2) w1.heap.size 0 ⟨w1.heap.size + 1, 0, none⟩ 0 ((w1.alloc (.cells cf.arr 25)).alloc (.cells #[.int .i64 0] 3)) (box_at w1 cf.d) ((Below.refl _ _).alloc (Nat.le_refl _) _) (by simp) (by simp [World.cell?_alloc_at]) (by simp) (by omega))
      rw [leaf_may HOK.out.1] at HM
      have HRG := Lib.hid (And.intro hrg1 (And.intro hlt (And.intro hg1 (And.intro hs1 hb1))))
      clear hkey hlk hv hat hrg1 hlt hg1 hs1 hF hwx hcf hb1
      go_wp2_with fail
      refine HM.out.mono ?_
      rintro e w2 ⟨rfl, hb2, hs2, hf2, j, hj, hj1⟩
      obtain rfl : j = 1 := hj1 1 rfl
      have H2 := Lib.hid (below_then HRG.out.2.2.2.2 hb2)
      have HRN := Lib.hid (show w2.ranges Tryd.prog 3 leafR bk (w.heap.size + 1) k D (fun z => left z && !z.sameKey (.int .i64 x)) cnt1 from HRG.out.1.kept (grown_of H2.out) (by simp) (by simp))
      have HIM := Lib.hid (show IM w2 w.heap.size (4000000 - cnt) Dt from (HR.out.2.2.1.kept HRG.out.2.2.1 (by simp)).kept (grown_of H2.out) (by simp))
      have hkey : keyOf Tryd.prog 3 (.int .i64 x) = some (.int .i64 x) := keyOf_int_mk Tryd.underlying3 HWX.out.1
      have HV := Lib.hid (show plainElem (H := Unit) Tryd.prog 3 (.int .i64 1) = some (.lit (.int .i64 1), []) from plainElem_int Tryd.underlying3 (by decide))
      clear hb2 hs2 hf2 hj1 HM hen
      go_wp2_with (first
        | (at_mapUpdate; refine wpList_mapUpdate_own _ rfl _ _ _ 47 rfl 3 3 lawInt Tryd.underlying47 (plainElem (H := Unit) Tryd.prog 3) w.heap.size (4000000 - cnt) Dt rfl HIM.out (by unfold maxLen; omega) _ _ (.int .i64 x) rfl rfl hkey (.lit (.int .i64 1)) [] HV.out ?_; intro w5 hown5 hgrow5; have H5 := Lib.hid (And.intro hown5 hgrow5); clear hown5 hgrow5)
        | fail)
      go_frame
      go_roundw
      case rel =>
        refine ⟨_, cnt1, _, HRN.out.kept H5.out.2 (by simpa using HBT.out.1) (by simp), by have := HRG.out.2.1; have := HR.out.2.1; omega, H5.out.1.mono (by have := HRG.out.2.1; have := HR.out.2.1; omega), HR.out.2.2.2.1.step HR.out.2.2.1.isMap (lawInt.key hkey) HWX.out.2, ?_⟩
        have h1 : Below w.heap.size w w2 := ((HR.out.2.2.2.2.grown HRG.out.2.2.1 (Nat.le_trans (Nat.le_succ _) (Nat.le_trans (Nat.le_of_lt HR.out.1.lt) (Nat.le_refl _)) ) (fun q hq => by cases hq; omega))).trans (H2.out.mono (by have := HRG.out.2.2.2.1; have := HR.out.2.2.2.2.size; omega))
        exact h1.grown H5.out.2 (by have := h1.size; omega) (fun q hq => by cases hq; exact Nat.le_refl _)
      case measure => rw [(HRN.out.kept H5.out.2 (by simpa using HBT.out.1) (by simp)).left_eq, HR.out.1.left_eq]; exact HRG.out.2.1
end Go.Proofs.YtklandpagieapaaDoor

namespace Go.Proofs.YtklandpagieapaaDoor
open Go.ChangeShapes Go.WideShapes Go.ChangeAt Go.RowKit Go.Sort Go.Maps
set_option linter.unusedVariables false
set_option linter.unusedSimpArgs false
attribute [local irreducible] Go.wpQuiet

/-- How many nodes the types of a map have, by a map. -/
structure SM (F : Int → Option Lf) (c : Nat) (bT : Nat) (w : World) : Prop where
  ex : ∃ Dt, IM w bT 4000000 Dt ∧ (∀ n, (Lit.int .i64 n).wf = true → (F n).isSome = true → Dt.atKey (.int .i64 n) (.lit (.int .i64 0)) = .lit (.int .i64 1)) ∧ Maps.size Dt = c
theorem SM.below {F : Int → Option Lf} {c bT : Nat} {w w' : World} (h : SM F c bT w) (hb : Below w.heap.size w w') : SM F c bT w' := by
  obtain ⟨Dt, h1, h2⟩ := h.ex
  exact ⟨Dt, h1.below hb, h2⟩
set_option maxRecDepth 100000 in
theorem SM.look {F : Int → Option Lf} {c bT : Nat} {w : World} (h : SM F c bT w) {n : Int} (hn : (Lit.int .i64 n).wf = true) (hF : (F n).isSome = true) :
    (Instr.lookup 47 (.map (some bT)) (.int .i64 n) false).run Tryd.prog w = .ok (.int .i64 1) w := by
  obtain ⟨Dt, h1, h2, _⟩ := h.ex
  obtain ⟨cv, hlk, hcv, _⟩ := World.ownsMap.lookup_int h1 lawInt Tryd.underlying47 Tryd.underlying3 (zeroInt w) (keyOf_int_mk Tryd.underlying3 hn)
  have : cv = 1 := by rw [h2 n hn hF] at hcv; injection hcv with hcv; injection hcv with _ hcv; exact hcv.symm
  rw [this] at hlk
  exact hlk
theorem SM.len {F : Int → Option Lf} {c bT : Nat} {w : World} (h : SM F c bT w) (ty : TypeId) : (Builtin.len_ #[47] ty #[.map (some bT)]).run Tryd.prog w = .ok (.int .i64 c) w := by
  obtain ⟨Dt, h1, _, h2⟩ := h.ex
  rw [← h2]
  exact World.ownsMap.len h1 Tryd.underlying47 ty

set_option maxRecDepth 100000 in
set_option maxHeartbeats 2000000 in
theorem sizes_nil (F : Int → Option Lf) (hF : ∀ n, F n = none) (w : World) :
    Calls Tryd.prog 16 #[.map none] w fun e w' => ∃ bT, e = .returned (.map (some bT)) ∧ SM F 0 bT w' ∧ Below w.heap.size w w' := by
  have hmm := @run_makeMap Tryd.prog
  have hnx : ∀ ty, (Instr.next (.pointer (some ⟨(w.alloc (.map #[] 0)).heap.size, 0, none⟩)) false ty).run Tryd.prog ((w.alloc (.map #[] 0)).alloc (.mapIter none 0 #[] 0)) = _ := fun ty => run_next_nilMap _ ty 0 0 #[]
  have hnx2 : ∀ ty, (Instr.next (.pointer (some ⟨w.heap.size + 1, 0, none⟩)) false ty).run Tryd.prog ((w.alloc (.map #[] 0)).alloc (.mapIter none 0 #[] 0)) = .ok (.tuple #[.bool false]) ((w.alloc (.map #[] 0)).alloc (.mapIter none 0 #[] 0)) := fun ty => by
    have h := hnx ty
    rw [World.size_alloc] at h
    exact h
  have hb1 : RowKit.Below w.heap.size w ((w.alloc (.map #[] 0)).alloc (.mapIter none 0 #[] 0)) := ((Below.refl _ _).alloc (Nat.le_refl _) _).alloc (by simp) _
  have HT0 := Lib.hid (World.ownsMap_made (H := Unit) w Tryd.prog 3 (plainElem Tryd.prog 3))
  have HB1 := Lib.hid hb1
  have hrg := run_range_nilMap (P := Tryd.prog) (w.alloc (.map #[] 0)) 36 3 25 Tryd.underlying36
  rw [World.size_alloc] at hrg
  clear hb1 hnx
  go_enter Tryd.func16, Tryd.ntmps16
  go_wp2_with fail
  refine wp_loop_rounds 1 ?_
  rw [rounds_succ]
  go_wp2_with fail
  go_returns
  exact ⟨w.heap.size, rfl, ⟨.map [], (HT0.out.alloc _).mono (Nat.zero_le _), (fun n _ h => by rw [hF n] at h; cases h), rfl⟩, HB1.out⟩

theorem sizes_any (F : Int → Option Lf) (c : Nat) (hF : OkF F) (m : Value) (w : World) (h : LM F c w m) :
    Calls Tryd.prog 16 #[m] w fun e w' => ∃ bT, e = .returned (.map (some bT)) ∧ SM F c bT w' ∧ Below w.heap.size w w' := by
  cases h with
  | none h hc => subst hc; exact sizes_nil F h w
  | own bk k D hk h hD => exact (sizes_own F c hF bk k D hk w h hD).mono fun e w' ⟨bT, Dt, h1, h2, h3, h4, h5⟩ => ⟨bT, h1, ⟨Dt, h2, h3, h4⟩, h5⟩

/-- What is put in lies in block p. -/
structure PA (F G : Int → Option Lf) (c1 c2 : Nat) (m1 m2 : Value) (b1 b2 : Nat) (w : World) (p : Nat) : Prop where
  q0 : w.cell? ⟨p, 0, none⟩ = some m1
  q1 : w.cell? ⟨p, 1, none⟩ = some m2
  q2 : w.cell? ⟨p, 2, none⟩ = some (.map (some b1))
  q3 : w.cell? ⟨p, 3, none⟩ = some (.map (some b2))
  l1 : LM F c1 w m1
  l2 : LM G c2 w m2
  s1 : SM F c1 b1 w
  s2 : SM G c2 b2 w
theorem PA.below {F G : Int → Option Lf} {c1 c2 : Nat} {m1 m2 : Value} {b1 b2 : Nat} {w w' : World} {p : Nat} (h : PA F G c1 c2 m1 m2 b1 b2 w p) (hb : Below w.heap.size w w') : PA F G c1 c2 m1 m2 b1 b2 w' p :=
  ⟨cell_below hb h.q0, cell_below hb h.q1, cell_below hb h.q2, cell_below hb h.q3, h.l1.below hb, h.l2.below hb, h.s1.below hb, h.s2.below hb⟩

set_option maxRecDepth 100000 in
set_option maxHeartbeats 2000000 in
theorem pmay_nil (F G : Int → Option Lf) (c1 c2 : Nat) (m1 : Value) (b1 b2 : Nat) (w : World) (p : Nat) (h : PA F G c1 c2 m1 (.map none) b1 b2 w p) :
    Calls Tryd.prog 17 #[.pointer (some ⟨p, 0, none⟩)] w fun e w' => e = .returned (.bool true) ∧ Below w.heap.size w w' := by
  obtain rfl : c2 = 0 := by cases h.l2 with | none _ hc => exact hc
  have hnx : ∀ ty, (Instr.next (.pointer (some ⟨w.heap.size, 0, none⟩)) false ty).run Tryd.prog (w.alloc (.mapIter none 0 #[] 0)) = _ := fun ty => run_next_nilMap _ ty 0 0 #[]
  have hb : RowKit.Below w.heap.size w (w.alloc (.mapIter none 0 #[] 0)) := (Below.refl _ _).alloc (Nat.le_refl _) _
  have hrg := run_range_nilMap (P := Tryd.prog) w 36 3 25 Tryd.underlying36
  obtain ⟨k0, k1, k2, k3, l1, l2, l3, l4⟩ := h.below hb
  have k1' := h.q1
  have HB := Lib.hid hb
  have HL := Lib.hid (And.intro l1 (And.intro l2 (And.intro l3 l4)))
  clear h hb l1 l2 l3 l4
  go_enter Tryd.func17, Tryd.ntmps17
  go_wp2_with fail
  refine wp_loop_rounds 1 ?_
  rw [rounds_succ]
  go_wp2_with fail
  generalize (w.alloc (.mapIter none 0 #[] 0)) = w1 at *
  have kq0 := cell_regrown k0
  have kq1 := cell_regrown k1
  have kq2 := cell_regrown k2
  have kq3 := cell_regrown k3
  have kl1 : ∀ dd os ty, (Builtin.len_ #[36] ty #[m1]).run Tryd.prog (grow (redrawn w1 dd) os) = .ok (.int .i64 c1) (grow (redrawn w1 dd) os) := fun dd os ty => (HL.out.1.below (below_regrown w1 dd os)).len ty
  have kl3 : ∀ dd os ty, (Builtin.len_ #[47] ty #[.map (some b1)]).run Tryd.prog (grow (redrawn w1 dd) os) = .ok (.int .i64 c1) (grow (redrawn w1 dd) os) := fun dd os ty => (HL.out.2.2.1.below (below_regrown w1 dd os)).len ty
  have kl4 : ∀ dd os ty, (Builtin.len_ #[47] ty #[.map (some b2)]).run Tryd.prog (grow (redrawn w1 dd) os) = .ok (.int .i64 ((0 : Nat) : Int)) (grow (redrawn w1 dd) os) := fun dd os ty => (HL.out.2.2.2.below (below_regrown w1 dd os)).len ty
  refine wp_region_quiet_below (by kernel_rfl) (by kernel_rfl) ?_
  repeat (quiet_step (fail))
  refine wpQuiet_nil ?_
  intro _ hw
  obtain ⟨⟨dq, osq⟩, hw''⟩ := hw
  subst hw''
  have H2 := Lib.hid (below_then HB.out (below_regrown w1 dq osq))
  clear kq0 kq1 kq2 kq3 kl1 kl3 kl4 k0 k1 k2 k3 k1'
  go_wp2_with fail
  go_returns
  exact ⟨rfl, H2.out⟩

set_option maxRecDepth 100000 in
set_option maxHeartbeats 2000000 in
theorem pmay_own (F G : Int → Option Lf) (c1 c2 : Nat) (m1 : Value) (b1 b2 : Nat) (w : World) (p bk : Nat) (hG : ∀ n x, G n = some x → x.k = 4) (h : PA F G c1 c2 m1 (.map (some bk)) b1 b2 w p) :
    Calls Tryd.prog 17 #[.pointer (some ⟨p, 0, none⟩)] w fun e w' => e = .returned (.bool true) ∧ Below w.heap.size w w' := by
  obtain ⟨k, D, hk, hown, hD⟩ : ∃ k D, k ≤ 4000000 ∧ OM w bk k D ∧ MapIs G c2 D := by cases h.l2 with | own _ k D hk h hD => exact ⟨k, D, hk, h, hD⟩
  have k1 := h.q1
  have HA := Lib.hid h
  have HL := Lib.hid hown.lt
  have HO := Lib.hid (And.intro hown (And.intro hD hG))
  clear h hown hD hG hk
  go_enter Tryd.func17, Tryd.ntmps17
  go_wp2_with (first
    | (at_range; refine wpList_range_own _ rfl _ 36 rfl 3 25 lawInt Tryd.underlying36 leafR bk k D rfl HO.out.1 ?_; intro w0 hrg0 hg0 hs0)
    | fail)
  go_frame
  have HR0 := Lib.hid (And.intro hrg0 (show Below w.heap.size w w0 from ⟨hg0.os, hg0.tape, hg0.output, hg0.size, fun i hi => hg0.block i hi (by simp)⟩))
  clear hrg0 hg0 hs0 k1
  go_loopw [] (fun wr => ∃ left cnt, wr.ranges Tryd.prog 3 leafR bk w.heap.size k D left cnt ∧ Below w.heap.size w wr) (fun wr => wr.rangeLeft bk w.heap.size)
  case atStart => exact ⟨_, _, HR0.out.1, HR0.out.2⟩
  case round =>
    obtain ⟨left, cnt, hrg, hbr⟩ := hrel
    have HR := Lib.hid (And.intro hrg hbr)
    clear hrg hbr
    go_wp2_with (first
      | (at_next; refine wpList_next_ranges _ rfl _ rfl 3 lawInt leafR (Value.int .i64) (fun x : Lf => Value.agg x.arr) (fun key kl hkey => by obtain ⟨x, rfl, _⟩ := Maps.keyOf_int_inv Tryd.underlying3 hkey; exact ⟨x, rfl⟩) (fun v y hv => by obtain ⟨x, rfl, _⟩ := leafR_inv hv; exact ⟨x, rfl⟩) bk w.heap.size k D left cnt rfl HR.out.1 ?_ ?_)
      | fail)
    · intro hc0 hl0
      clear hc0 hl0
      have HP := Lib.hid (HA.out.below HR.out.2)
      have kq0 := cell_regrown HP.out.q0
      have kq1 := cell_regrown HP.out.q1
      have kq2 := cell_regrown HP.out.q2
      have kq3 := cell_regrown HP.out.q3
      have kl1 : ∀ dd os ty, (Builtin.len_ #[36] ty #[m1]).run Tryd.prog (grow (redrawn wr dd) os) = .ok (.int .i64 c1) (grow (redrawn wr dd) os) := fun dd os ty => (HP.out.l1.below (below_regrown wr dd os)).len ty
      have kl2 : ∀ dd os ty, (Builtin.len_ #[36] ty #[.map (some bk)]).run Tryd.prog (grow (redrawn wr dd) os) = .ok (.int .i64 c2) (grow (redrawn wr dd) os) := fun dd os ty => (HP.out.l2.below (below_regrown wr dd os)).len ty
      have kl3 : ∀ dd os ty, (Builtin.len_ #[47] ty #[.map (some b1)]).run Tryd.prog (grow (redrawn wr dd) os) = .ok (.int .i64 c1) (grow (redrawn wr dd) os) := fun dd os ty => (HP.out.s1.below (below_regrown wr dd os)).len ty
      have kl4 : ∀ dd os ty, (Builtin.len_ #[47] ty #[.map (some b2)]).run Tryd.prog (grow (redrawn wr dd) os) = .ok (.int .i64 c2) (grow (redrawn wr dd) os) := fun dd os ty => (HP.out.s2.below (below_regrown wr dd os)).len ty
      go_wp2_with fail
      refine wp_region_quiet_below (by kernel_rfl) (by kernel_rfl) ?_
      repeat (quiet_step (fail))
      refine wpQuiet_nil ?_
      intro _ hw
      obtain ⟨⟨dq, osq⟩, hw''⟩ := hw
      subst hw''
      have H2 := Lib.hid (below_then HR.out.2 (below_regrown wr dq osq))
      clear kq0 kq1 kq2 kq3 kl1 kl2 kl3 kl4
      go_wp2_with fail
      go_returns
      exact ⟨rfl, H2.out⟩
    · intro x cf kl ya yb w1 cnt1 hkey hlk hv hat hrg1 hlt hg1 hs1 hen
      obtain ⟨x', ex, hkl, hwx⟩ := Maps.keyOf_int_inv Tryd.underlying3 hkey
      injection ex with _ ex
      subst ex
      subst hkl
      obtain ⟨cf', hcf, hya⟩ := leafR_inv hv
      obtain rfl := Lf.val_inj hcf
      injection hya with hya _
      subst hya
      have hF : G x = some cf := by
        have h1 := HO.out.2.1.has x hwx
        rw [has_true_of_atKey hat] at h1
        obtain ⟨z, hz⟩ := Option.isSome_iff_exists.1 h1.symm
        have h2 := HO.out.2.1.val x hwx z hz Lf.zeroD
        rw [hat] at h2
        injection h2 with h2
        rw [hz, h2]
      have hk4 : cf.k = 4 := HO.out.2.2 x cf hF
      have qk : (cf.k != 4) = false := by rw [hk4]; rfl
      have hb1 : RowKit.Below w1.heap.size w1 (w1.alloc (.cells cf.arr 25)) := (Below.refl _ _).alloc (Nat.le_refl _) _
      have HRG := Lib.hid (And.intro (hrg1.kept (grown_of hb1) (by simp) (by simp)) (And.intro hlt (And.intro hg1 (And.intro hs1 hb1))))
      clear hkey hlk hv hat hrg1 hlt hg1 hs1 hF hwx hcf hb1 hk4
      go_wp2_with fail
      go_roundw
      case rel =>
        refine ⟨_, cnt1, HRG.out.1, ?_⟩
        exact (HR.out.2.grown HRG.out.2.2.1 (Nat.le_of_lt HR.out.1.lt) (fun q hq => by cases hq; exact Nat.le_refl _)).trans (HRG.out.2.2.2.2.mono (by have := HRG.out.2.2.2.1; have := HR.out.2.size; omega))
      case measure => rw [HRG.out.1.left_eq, HR.out.1.left_eq]; exact HRG.out.2.1
theorem pmay_any (F G : Int → Option Lf) (c1 c2 : Nat) (m1 m2 : Value) (b1 b2 : Nat) (w : World) (p : Nat) (hG : ∀ n x, G n = some x → x.k = 4) (h : PA F G c1 c2 m1 m2 b1 b2 w p) :
    Calls Tryd.prog 17 #[.pointer (some ⟨p, 0, none⟩)] w fun e w' => e = .returned (.bool true) ∧ Below w.heap.size w w' := by
  have hl := h.l2
  cases hl with
  | none _ _ => exact pmay_nil F G c1 c2 m1 b1 b2 w p h
  | own bk k D hk hh hD => exact pmay_own F G c1 c2 m1 b1 b2 w p bk hG h
end Go.Proofs.YtklandpagieapaaDoor

namespace Go.Proofs.YtklandpagieapaaDoor
open Go.ChangeShapes Go.WideShapes Go.ChangeAt Go.RowKit Go.Sort
set_option linter.unusedVariables false
set_option linter.unusedSimpArgs false
attribute [local irreducible] Go.wpQuiet

mutual
/-- Alike: field by field, part by part. -/
def Ty.eqv : Ty → Ty → Prop
  | .mk d l, .mk e m => d.kind = e.kind ∧ d.n = e.n ∧ d.tail = e.tail ∧ d.labels = e.labels ∧ tyL l m
def tyL : List Ty → List Ty → Prop
  | [], [] => True
  | x :: l, y :: m => x.eqv y ∧ tyL l m
  | _, _ => False
end
mutual
theorem Ty.eqv_refl : ∀ (t : Ty), t.eqv t
  | .mk d l => ⟨rfl, rfl, rfl, rfl, tyL_refl l⟩
theorem tyL_refl : ∀ (l : List Ty), tyL l l
  | [] => trivial
  | x :: l => ⟨x.eqv_refl, tyL_refl l⟩
end
noncomputable def tyB (x y : Ty) : Bool := @decide (x.eqv y) (Classical.propDecidable _)
theorem tyB_true {x y : Ty} (h : x.eqv y) : tyB x y = true := @decide_eq_true _ (Classical.propDecidable _) h
theorem tyB_false {x y : Ty} (h : ¬ x.eqv y) : tyB x y = false := @decide_eq_false _ (Classical.propDecidable _) h
theorem tyB_iff {x y : Ty} : tyB x y = true ↔ x.eqv y := @decide_eq_true_iff _ (Classical.propDecidable _)
theorem tyL_iff : ∀ (l m : List Ty), l.length = m.length → (tyL l m ↔ ∀ j (h : j < l.length) (h' : j < m.length), l[j].eqv m[j])
  | [], [], _ => by simp [tyL]
  | x :: l, y :: m, h => by
    simp only [tyL]
    rw [tyL_iff l m (by simpa using h)]
    constructor
    · intro hh j hj hj'
      cases j with
      | zero => exact hh.1
      | succ j => exact hh.2 j (by simpa using hj) (by simpa using hj')
    · intro hh
      exact ⟨hh 0 (by simp) (by simp), fun j hj hj' => hh (j + 1) (by simpa using hj) (by simpa using hj')⟩
  | [], y :: m, h => by simp at h
  | x :: l, [], h => by simp at h
theorem tyL_len : ∀ {l m : List Ty}, tyL l m → l.length = m.length
  | [], [], _ => rfl
  | x :: l, y :: m, h => by simp only [tyL] at h; rw [List.length_cons, List.length_cons, tyL_len h.2]
  | [], y :: m, h => by simp [tyL] at h
  | x :: l, [], h => by simp [tyL] at h
theorem list_eq {l m : List Str} (h : l.length = m.length) (hh : ∀ j (h : j < l.length) (h' : j < m.length), l[j] = m[j]) : l = m := List.ext_getElem h (fun j h1 h2 => hh j h1 h2)

set_option maxRecDepth 100000 in
set_option maxHeartbeats 2000000 in
theorem eqStr_any (A B : Option Addr) (l r : List Str) (n c m d : Nat) (w : World) (hr : Rd w 1 A n (strs l)) (hs : Rd w 1 B m (strs r)) (hm : n ≤ maxLen) (hm2 : m ≤ maxLen) :
    Calls Tryd.prog 37 #[.slice A n c, .slice B m d] w fun e w' => e = .returned (.bool (decide (l = r))) ∧ Below w.heap.size w w' := by
  have hl := rd_len hr
  have hl2 := rd_len hs
  subst hl
  subst hl2
  unfold maxLen at hm hm2
  by_cases hlen : l.length = r.length
  · go_enter Tryd.func37, Tryd.ntmps37
    have hlz : (((l.length : Nat) : Int) == ((r.length : Nat) : Int)) = true := by rw [hlen]; simp
    go_wp2_with fail
    clear hlz
    go_loopw [13] (fun i wr => ∃ k : Nat, i = .int .i64 k ∧ k ≤ l.length ∧ l.take k = r.take k ∧ Below w.heap.size w wr) (fun i _ => l.length - (intOf i).toNat)
    case atStart => exact ⟨0, rfl, by omega, by simp, Below.refl _ _⟩
    case round =>
      obtain ⟨k, rfl, hk, he, hb⟩ := hrel
      by_cases hlt : k < l.length
      · obtain ⟨b, o, rfl, hc⟩ := (hr.below hb).str (k := k) hlt
        obtain ⟨b', o', rfl, hc'⟩ := (hs.below hb).str (k := k) (by omega)
        have h1 := hc k hlt
        have h2 := hc' k (by omega)
        clear hc hr hc' hs
        have HE := Lib.hid he
        clear he
        by_cases hq0 : l[k] = r[k]
        · have hq : ((bstr l[k]).toList == (bstr r[k]).toList) = true := by rw [beq_bstr]; simpa using hq0
          have HQ := Lib.hid hq0
          clear hq0
          go_wp2_with fail
          have i1 : (k : Int) < (l.length : Int) := by omega
          have i2 : (k : Int) < (r.length : Int) := by omega
          go_quiet (fail)
          clear i1 i2
          go_wp2_with fail
          go_roundw
          case rel => exact ⟨k + 1, by go_num, by omega, by rw [List.take_succ_eq_append_getElem hlt, List.take_succ_eq_append_getElem (by omega), HE.out, HQ.out], below_drewN hb _⟩
          case measure => simp [intOf] <;> omega
        · have hq : ((bstr l[k]).toList == (bstr r[k]).toList) = false := by rw [beq_bstr]; simpa using hq0
          have HQ := Lib.hid hq0
          clear hq0
          go_wp2_with fail
          have i1 : (k : Int) < (l.length : Int) := by omega
          have i2 : (k : Int) < (r.length : Int) := by omega
          go_quiet (fail)
          clear i1 i2
          go_wp2_with fail
          go_returns
          exact ⟨by rw [decide_eq_false (show ¬ l = r from fun h => HQ.out (by subst h; rfl))]; rfl, below_drewN hb _⟩
      · go_wp2_with fail
        go_returns
        obtain rfl : k = l.length := by omega
        refine ⟨?_, hb⟩
        rw [List.take_length, hlen, List.take_length] at he
        rw [decide_eq_true he]; rfl
  · go_enter Tryd.func37, Tryd.ntmps37
    have hlz : (((l.length : Nat) : Int) == ((r.length : Nat) : Int)) = false := by rw [beq_eq_false_iff_ne]; omega
    go_wp2_with fail
    go_returns
    exact ⟨by rw [decide_eq_false (show ¬ l = r from fun h => hlen (by rw [h]))]; rfl, Below.refl _ _⟩

set_option maxRecDepth 100000 in
set_option maxHeartbeats 4000000 in
theorem same_any (w0 : World) (x : Ty) (hIn : x.In w0) : ∀ (y : Ty), y.In w0 → ∀ (b o b' o' : Nat) (W : World), x.d.At w0 b o → y.d.At w0 b' o' → Below w0.heap.size w0 W →
    Calls Tryd.prog 25 #[.pointer (some ⟨b, o, none⟩), .pointer (some ⟨b', o', none⟩)] W fun r w' => r = .returned (.bool (tyB x y)) ∧ Below W.heap.size W w' := by
  induction hIn with
  | mk d l lab par cap sub ih =>
  intro y hy b o b' o' W hAx hAy hb
  obtain ⟨e, m⟩ := y
  have HI := Lib.hid (Ty.In.mk d l lab par cap sub)
  have HY := Lib.hid hy
  have HIH := Lib.hid ih
  have HX := Lib.hid (fun V (h : Below w0.heap.size w0 V) => (show d.At w0 b o from hAx).lower h)
  have HYA := Lib.hid (fun V (h : Below w0.heap.size w0 V) => (show e.At w0 b' o' from hAy).lower h)
  have HB := Lib.hid hb
  have HLP := Lib.hid (And.intro (show l.length = d.pn from HI.out.len) (show m.length = e.pn from HY.out.len))
  have HCX := Lib.hid (show d.ln ≤ d.lc ∧ d.lc ≤ maxLen ∧ d.pn ≤ d.pc ∧ d.pc ≤ maxLen ∧ d.ln ≤ 4000000 ∧ d.pn ≤ 4000000 from HI.out.cap)
  have HCY := Lib.hid (show e.ln ≤ e.lc ∧ e.lc ≤ maxLen ∧ e.pn ≤ e.pc ∧ e.pc ≤ maxLen ∧ e.ln ≤ 4000000 ∧ e.pn ≤ 4000000 from HY.out.cap)
  have HLX := Lib.hid (show Rd w0 1 d.lA d.ln (strs d.labels) from HI.out.lab)
  have HLY := Lib.hid (show Rd w0 1 e.lA e.ln (strs e.labels) from HY.out.lab)
  clear lab par cap sub ih hy hAx hAy
  obtain ⟨c0, c1, c2, c3, c4⟩ := HX.out _ hb
  obtain ⟨f0, f1, f2, f3, f4⟩ := HYA.out _ hb
  clear hb
  by_cases h1 : ¬ (d.kind = e.kind)
  · have HA := Lib.hid (show tyB (.mk d l) (.mk e m) = false from tyB_false (fun h => h1 h.1))
    have q : (d.kind != e.kind) = true := by rw [bne_iff_ne]; omega
    clear h1
    go_enter Tryd.func25, Tryd.ntmps25
    go_wp2_with fail
    go_quiet (fail)
    go_wp2_with fail
    go_returns
    exact ⟨by rw [HA.out]; rfl, below_drewN (Below.refl _ _) _⟩
  have h1 : d.kind = e.kind := Classical.not_not.1 h1
  have qh1 : (d.kind != e.kind) = false := by rw [h1]; simp
  by_cases h2 : ¬ (d.n = e.n)
  · have HA := Lib.hid (show tyB (.mk d l) (.mk e m) = false from tyB_false (fun h => h2 h.2.1))
    have q : (d.n != e.n) = true := by rw [bne_iff_ne]; omega
    clear h2
    go_enter Tryd.func25, Tryd.ntmps25
    go_wp2_with fail
    go_quiet (fail)
    go_wp2_with fail
    go_returns
    exact ⟨by rw [HA.out]; rfl, below_drewN (Below.refl _ _) _⟩
  have h2 : d.n = e.n := Classical.not_not.1 h2
  have qh2 : (d.n != e.n) = false := by rw [h2]; simp
  by_cases h3 : ¬ (d.tail = e.tail)
  · have HA := Lib.hid (show tyB (.mk d l) (.mk e m) = false from tyB_false (fun h => h3 h.2.2.1))
    have q : (d.tail != e.tail) = true := by rw [bne_iff_ne]; omega
    clear h3
    go_enter Tryd.func25, Tryd.ntmps25
    go_wp2_with fail
    go_quiet (fail)
    go_wp2_with fail
    go_returns
    exact ⟨by rw [HA.out]; rfl, below_drewN (Below.refl _ _) _⟩
  have h3 : d.tail = e.tail := Classical.not_not.1 h3
  have qh3 : (d.tail != e.tail) = false := by rw [h3]; simp
  by_cases h7 : ¬ (d.pn = e.pn)
  · have HA := Lib.hid (show tyB (.mk d l) (.mk e m) = false from tyB_false (fun h => h7 (by rw [← HLP.out.1, ← HLP.out.2]; exact tyL_len h.2.2.2.2)))
    have q : ((d.pn : Int) != (e.pn : Int)) = true := by rw [bne_iff_ne]; omega
    clear h7
    go_enter Tryd.func25, Tryd.ntmps25
    go_wp2_with fail
    go_quiet (fail)
    go_wp2_with fail
    go_returns
    exact ⟨by rw [HA.out]; rfl, below_drewN (Below.refl _ _) _⟩
  have h7 : d.pn = e.pn := Classical.not_not.1 h7
  have qh7 : ((d.pn : Int) != (e.pn : Int)) = false := by rw [h7]; simp
  have HQ := Lib.hid (And.intro h1 (And.intro h2 (And.intro h3 h7)))
  clear h1 h2 h3 h7
  have CE : RowKit.Hid (∀ dd os, Calls Tryd.prog 37 #[.slice d.lA d.ln d.lc, .slice e.lA e.ln e.lc] (grow (redrawn W dd) os) fun r w'' => r = .returned (.bool (decide (d.labels = e.labels))) ∧ ∃ p : Regrown, w'' = grow (redrawn W p.d) p.os) := Lib.hid fun dd os =>
    Calls.regrown_of ((eqStr_any d.lA e.lA d.labels e.labels d.ln d.lc e.ln e.lc (grow (redrawn W dd) os) (HLX.out.below (below_then HB.out (below_regrown W dd os))) (HLY.out.below (below_then HB.out (below_regrown W dd os))) (Nat.le_trans HCX.out.1 HCX.out.2.1) (Nat.le_trans HCY.out.1 HCY.out.2.1)).mono fun e w' hh => ⟨hh.1, hh.2⟩)
  obtain ⟨bl, hbl⟩ : ∃ b, decide (d.labels = e.labels) = b := ⟨_, rfl⟩
  rw [hbl] at CE
  have HBL := Lib.hid hbl
  clear hbl
  have kc0 := cell_regrown c0
  have kf0 := cell_regrown f0
  have kc1 := cell_regrown c1
  have kf1 := cell_regrown f1
  have kc2 := cell_regrown c2
  have kf2 := cell_regrown f2
  have kc3 := cell_regrown c3
  have kf3 := cell_regrown f3
  have kc4 := cell_regrown c4
  have kf4 := cell_regrown f4
  go_enter Tryd.func25, Tryd.ntmps25
  go_wp2_with fail
  refine wp_region_quiet_below (by kernel_rfl) (by kernel_rfl) ?_
  repeat (quiet_step ((go_at_call 37; with_reducible exact CE.out _ _)))
  refine wpQuiet_nil ?_
  intro _ hw
  obtain ⟨⟨dq, osq⟩, hw''⟩ := hw
  subst hw''
  have H2 := Lib.hid (below_regrown W dq osq)
  clear c0 c1 c2 c3 c4 f0 f1 f2 f3 f4 CE kc0 kc1 kc2 kc3 kc4 kf0 kf1 kf2 kf3 kf4
  obtain ⟨c0, c1, c2, c3, c4⟩ := HX.out _ (below_then HB.out H2.out)
  obtain ⟨f0, f1, f2, f3, f4⟩ := HYA.out _ (below_then HB.out H2.out)
  cases bl with
  | false =>
    have HA := Lib.hid (show tyB (.mk d l) (.mk e m) = false from tyB_false (fun h => absurd h.2.2.2.1 (of_decide_eq_false HBL.out)))
    go_wp2_with fail
    go_returns
    exact ⟨by rw [HA.out]; rfl, H2.out⟩
  | true =>
  go_wp2_with fail
  simp only [Bool.not_true]
  clear c0 c1 c2 c3 c4 f0 f1 f2 f3 f4 qh1 qh2 qh3 qh7
  go_loopw [67] (fun i wr => ∃ k : Nat, i = .int .i64 k ∧ k ≤ d.pn ∧ (∀ j (h : j < l.length) (h' : j < m.length), j < k → (l[j]).eqv m[j]) ∧ Below W.heap.size W wr) (fun i _ => d.pn - (intOf i).toNat)
  case atStart => exact ⟨0, rfl, Nat.zero_le _, (by intro j _ _ h; omega), H2.out⟩
  case round =>
    obtain ⟨k, rfl, hk, hall, hbr⟩ := hrel
    have HALL := Lib.hid hall
    have HR := Lib.hid hbr
    clear hall
    have c2 := (HX.out _ (below_then HB.out hbr)).c2
    by_cases hlt : k < d.pn
    · have hkl : k < l.length := by rw [HLP.out.1]; exact hlt
      have hkm : k < m.length := by rw [HLP.out.2, ← HQ.out.2.2.2]; exact hlt
      obtain ⟨pb, po, hpA, hAtP⟩ := HI.out.part (k := k) hkl
      have hpA' : d.pA = some ⟨pb, po, none⟩ := hpA
      obtain ⟨pb', po', hpB, hAtQ⟩ := HY.out.part (k := k) hkm
      have hpB' : e.pA = some ⟨pb', po', none⟩ := hpB
      have f2 := (HYA.out _ (below_then HB.out hbr)).c2
      rw [hpA'] at c2
      rw [hpB'] at f2
      have hAx : (l[k]).d.At w0 pb (po + k * 5) := hAtP k hkl
      have hAy : (m[k]).d.At w0 pb' (po' + k * 5) := hAtQ k hkm
      have hy : (m[k]).In w0 := HY.out.sub m[k] (List.getElem_mem hkm)
      have HC := Lib.hid (fun dd os => Calls.regrown_of ((HIH.out l[k] (List.getElem_mem hkl) m[k] hy pb (po + k * 5) pb' (po' + k * 5) (grow (redrawn wr dd) os) hAx hAy (below_then (below_then HB.out hbr) (below_regrown wr dd os))).mono fun e w' hh => ⟨hh.1, hh.2⟩))
      have HEX := Lib.hid (show ∀ (h : k < l.length) (h' : k < m.length), tyB l[k] m[k] = true → (l[k]).eqv m[k] from fun _ _ h => tyB_iff.1 h)
      have HEN := Lib.hid (show tyB l[k] m[k] = false → tyB (.mk d l) (.mk e m) = false from fun h => tyB_false (fun hh => by
        have := (tyL_iff l m (tyL_len hh.2.2.2.2)).1 hh.2.2.2.2 k hkl hkm
        rw [tyB_true this] at h; cases h))
      obtain ⟨v, hv⟩ : ∃ v, tyB l[k] m[k] = v := ⟨_, rfl⟩
      rw [hv] at HC HEN
      have HV := Lib.hid hv
      have hki : (k : Int) < (d.pn : Int) := by omega
      have hki' : (k : Int) < (e.pn : Int) := by rw [← HQ.out.2.2.2]; omega
      have hk0 : (0 : Int) ≤ (k : Int) := by omega
      have hk9 : (k : Int) ≤ 4000000 := by have := HCX.out.2.2.2.2.2; omega
      have kc2 := cell_regrown c2
      have kf2 := cell_regrown f2
      clear hbr hpA hpA' hpB hpB' hAtP hAtQ hAx hAy hy hv
      go_wp2_with fail
      refine wp_region_quiet_below (by kernel_rfl) (by kernel_rfl) ?_
      repeat (quiet_step ((go_at_call 25; with_reducible exact HC.out _ _)))
      refine wpQuiet_nil ?_
      intro _ hw
      obtain ⟨⟨dq, osq⟩, hw''⟩ := hw
      subst hw''
      have H5 := Lib.hid (below_then HR.out (below_regrown wr dq osq))
      clear HC
      cases v with
      | true =>
        go_wp2_with fail
        go_roundw
        case rel => exact ⟨k + 1, by go_num, hlt, fun j hj hj' hjk => (Nat.lt_succ_iff_lt_or_eq.1 hjk).elim (fun h => HALL.out j hj hj' h) (fun h => by subst h; exact HEX.out hj hj' HV.out), H5.out⟩
        case measure => simp [intOf] <;> omega
      | false =>
        have HA := Lib.hid (HEN.out rfl)
        go_wp2_with fail
        go_returns
        exact ⟨by rw [HA.out]; rfl, H5.out⟩
    · have hki : ¬ (k : Int) < (d.pn : Int) := by omega
      have HA := Lib.hid (show tyB (.mk d l) (.mk e m) = true from tyB_true ⟨HQ.out.1, HQ.out.2.1, HQ.out.2.2.1, of_decide_eq_true HBL.out, (tyL_iff l m (by rw [HLP.out.1, HLP.out.2, HQ.out.2.2.2])).2 (fun j h h' => HALL.out j h h' (by rw [HLP.out.1] at h; omega))⟩)
      clear hbr
      go_wp2_with fail
      go_returns
      exact ⟨by rw [HA.out]; rfl, HR.out⟩

set_option maxRecDepth 100000 in
/-- Same: whether two types are the same. -/
theorem typSame_any (x y : Ty) (w : World) (hx : x.In w) (hy : y.In w) :
    Calls Tryd.prog 11 #[.agg x.d.arr, .agg y.d.arr] w fun r w' => r = .returned (.bool (tyB x y)) ∧ Below w.heap.size w w' := by
  have hb1 : Below w.heap.size w (w.alloc (.cells x.d.arr 25)) := (Below.refl _ _).alloc (Nat.le_refl _) _
  have hA1 := box_at w x.d
  have hA2 := box_at (w.alloc (.cells x.d.arr 25)) y.d
  have hb2 : Below (w.alloc (.cells x.d.arr 25)).heap.size (w.alloc (.cells x.d.arr 25)) ((w.alloc (.cells x.d.arr 25)).alloc (.cells y.d.arr 25)) := (Below.refl _ _).alloc (Nat.le_refl _) _
  have hb12 := below_then hb1 hb2
  have hsz : (w.alloc (.cells x.d.arr 25)).heap.size = w.heap.size + 1 := by simp
  rw [hsz] at hA2
  have HM := Lib.hid (same_any _ x (hx.lower hb12) y (hy.lower hb12) w.heap.size 0 (w.heap.size + 1) 0 _ (hA1.lower hb2) hA2 (Below.refl _ _))
  have HB := Lib.hid hb12
  clear hb1 hb2 hb12 hA1 hA2 hsz
  go_enter Tryd.func11, Tryd.ntmps11
  go_wp2_with fail
  refine HM.out.mono ?_
  rintro e w' ⟨rfl, hb⟩
  go_wp2_with fail
  go_returns
  exact ⟨rfl, below_then HB.out hb⟩
end Go.Proofs.YtklandpagieapaaDoor

namespace Go.Proofs.YtklandpagieapaaDoor
open Go.ChangeShapes Go.WideShapes Go.ChangeAt Go.RowKit Go.Sort Go.Maps
set_option linter.unusedVariables false
set_option linter.unusedSimpArgs false

/-! ### Which blocks a type lies in -/
inductive Ty.Bl (P : Nat → Prop) : Ty → Prop
  | mk (d : TyD) (l : List Ty) (lab : 0 < d.ln → ∀ a, d.lA = some a → P a.block) (par : 0 < d.pn → ∀ a, d.pA = some a → P a.block) (sub : ∀ x ∈ l, Ty.Bl P x) : Ty.Bl P (.mk d l)
theorem rd_keepP {w w' : World} {size n : Nat} {A : Option Addr} {cs : List Value} {P : Nat → Prop} (h : Rd w size A n cs) (hP : 0 < n → ∀ a, A = some a → P a.block) (hk : ∀ b, P b → b < w.heap.size → w'.heap[b]? = w.heap[b]?) : Rd w' size A n cs := by
  refine ⟨h.1, fun h0 => ?_⟩
  obtain ⟨a, e, hb, hh⟩ := h.addr h0
  have hn : 0 < n := by
    rcases Nat.eq_zero_or_pos n with q | q
    · have := h.1; rw [q] at this; omega
    · exact q
  refine ⟨a, e, fun j u hu => ?_⟩
  rw [← hh j u hu]
  exact World.cell?_of_block (by rw [add_block]; exact hk _ (hP hn a e) hb)
theorem Ty.In.keepP {w w' : World} {P : Nat → Prop} {t : Ty} (h : t.In w) (hP : t.Bl P) (hk : ∀ b, P b → b < w.heap.size → w'.heap[b]? = w.heap[b]?) : t.In w' := by
  induction h with
  | mk d l lab par cap sub ih =>
    cases hP with
    | mk _ _ p1 p2 ps =>
      exact .mk d l (rd_keepP lab p1 hk) (rd_keepP par p2 hk) cap (fun x hx => ih x hx (ps x hx))
/-- With what lies in the heap. -/
theorem Ty.Bl.imp {w : World} {P Q : Nat → Prop} {t : Ty} (h : t.In w) (hP : t.Bl P) (hq : ∀ b, P b → b < w.heap.size → Q b) : t.Bl Q := by
  have key : ∀ {size n : Nat} {A : Option Addr} {cs : List Value}, Rd w (size + 1) A n cs → (0 < n → ∀ a, A = some a → P a.block) → (0 < n → ∀ a, A = some a → Q a.block) := by
    intro size n A cs hr hp hn a ha
    obtain ⟨a', e, hb, _⟩ := hr.addr (by rw [hr.1, Nat.mul_add, Nat.mul_one]; omega)
    rw [ha] at e; cases e
    exact hq _ (hp hn a ha) hb
  induction h with
  | mk d l lab par cap sub ih =>
    cases hP with
    | mk _ _ p1 p2 ps =>
      exact .mk d l (key lab p1) (key par p2) (fun x hx => ih x hx (ps x hx))

theorem nil_yes (n c : Nat) (w : World) : (binOp .eql 23 (.slice none n c) (.slice none 0 0)).run Tryd.prog w = .ok (.bool true) w := by kernel_rfl
theorem nil_no (a : Addr) (n c : Nat) (w : World) : (binOp .eql 23 (.slice (some a) n c) (.slice none 0 0)).run Tryd.prog w = .ok (.bool false) w := by kernel_rfl
set_option maxRecDepth 100000 in
set_option maxHeartbeats 1000000 in
theorem clone_any (A : Option Addr) (l : List Str) (n c : Nat) (w : World) (hr : Rd w 1 A n (strs l)) (hm : n ≤ 4000000) :
    Calls Tryd.prog 24 #[.slice A n c] w fun e w' => ∃ A' c', e = .returned (.slice A' n c') ∧ Rd w' 1 A' n (strs l) ∧ (0 < n → ∀ a, A' = some a → w.heap.size ≤ a.block) ∧ n ≤ c' ∧ c' ≤ maxLen ∧ Below w.heap.size w w' := by
  have HR := Lib.hid hr
  have HM := Lib.hid hm
  have q1 := nil_yes
  have q2 := nil_no
  cases A with
  | none =>
    have hn : n = 0 := by
      rcases Nat.eq_zero_or_pos n with q | q
      · exact q
      · obtain ⟨a, e, _⟩ := hr.addr (by rw [hr.1]; omega)
        cases e
    clear hr hm
    go_enter Tryd.func24, Tryd.ntmps24
    go_wp2_with fail
    go_returns
    subst hn
    exact ⟨none, 0, rfl, HR.out, fun h => absurd h (by omega), Nat.le_refl _, by simp [maxLen], Below.refl _ _⟩
  | some a =>
    clear hr hm
    go_enter Tryd.func24, Tryd.ntmps24
    have HOW := Lib.hid (World.ownsRow_made (base := w.heap.size) (e := 9) (size := 1) w #[] 0 (Nat.le_refl _) (by simp [maxLen]) rfl)
    go_wp2_with (at_builtin; refine wpList_app elStr _ rfl (.tmp 5) (.tmp 6) rfl w.heap.size (.slice (some ⟨w.heap.size, 0, none⟩) 0 0) 0 [] rfl HOW.out (some a) n c _ rfl (HR.out.alloc _) (strs_one l) (by have := HM.out; omega) (by simp) ?_; intro v6 w6 hown6 hb6 hg6 hat6; rw [Nat.zero_add] at hown6; rw [List.nil_append] at hown6; obtain ⟨A6, c6, hv6, hnc6, hcm6, _⟩ := own_cap hown6; rw [hv6] at hown6 hat6 ⊢; clear hv6)
    go_returns
    refine ⟨A6, c6, rfl, Rd.of_own hown6, ?_, by assumption, by assumption, ((Below.refl w.heap.size w).alloc (Nat.le_refl _) _).trans hb6⟩
    intro _ a' ha'
    subst ha'
    exact (hown6.lt a'.block rfl).1

/-! ### Copies -/
theorem elType : ElemTy Tryd.prog 22 25 (.agg #[.int .i64 0, .int .i64 0, .slice none 0 0, .slice none 0 0, .int .i64 0]) 5 72 :=
  ⟨Tryd.underlying22, by kernel_rfl, rfl, by omega, by omega⟩
theorem ty_ones (t : Ty) : ∀ u ∈ t.cells, u.oneCell' = true := by
  intro u hu
  unfold Ty.cells TyD.cells at hu
  simp only [List.mem_cons, List.not_mem_nil, or_false] at hu
  rcases hu with rfl | rfl | rfl | rfl | rfl <;> rfl
/-- A type that is new: in blocks from the call on. -/
def CpR (x : Ty) (w : World) (e : Ending) (w' : World) : Prop := ∃ y : Ty, e = .returned (.agg y.d.arr) ∧ y.In w' ∧ y.Bl (fun b => w.heap.size ≤ b) ∧ y.eqv x ∧ Below w.heap.size w w'
def CpsR (l : List Ty) (w : World) (e : Ending) (w' : World) : Prop := ∃ (A : Option Addr) (n c : Nat) (ys : List Ty), e = .returned (.slice A n c) ∧ ys.length = n ∧ tyL ys l ∧ Rd w' 5 A n (ys.flatMap Ty.cells) ∧ (∀ y ∈ ys, y.In w') ∧ (∀ y ∈ ys, y.Bl (fun b => w.heap.size ≤ b)) ∧ (0 < n → ∀ a, A = some a → w.heap.size ≤ a.block) ∧ n ≤ c ∧ c ≤ maxLen ∧ Below w.heap.size w w'
theorem tyL_snoc : ∀ {l m : List Ty} {x y : Ty}, tyL l m → x.eqv y → tyL (l ++ [x]) (m ++ [y])
  | [], [], x, y, _, h => ⟨h, trivial⟩
  | a :: l, b :: m, x, y, h, k => by simp only [List.cons_append, tyL] at h ⊢; exact ⟨h.1, tyL_snoc h.2 k⟩
  | [], b :: m, x, y, h, _ => by simp [tyL] at h
  | a :: l, [], x, y, h, _ => by simp [tyL] at h

/-- The copies under way: a row of the call's own, and what its parts lie in. -/
structure CpS (B : Nat) (w : World) (v : Value) (k : Nat) (ys : List Ty) (l : List Ty) (wr : World) : Prop where
  own : wr.ownsRow B 25 5 v k (ys.flatMap Ty.cells)
  len : ys.length = k
  eqv : tyL ys (l.take k)
  inn : ∀ y ∈ ys, y.In wr
  bl : ∀ y ∈ ys, y.Bl (fun b => B ≤ b ∧ some b ≠ v.ownBlock)
  b : Below B w wr
theorem CpS.step {B : Nat} {w wr w1 w6 : World} {v v6 : Value} {k : Nat} {ys l : List Ty} {y x : Ty} {o : Obj} (h : CpS B w v k ys l wr) (hB : B ≤ w.heap.size)
    (hb : Below wr.heap.size wr w1) (hin : y.In w1) (hbl : y.Bl (fun b => wr.heap.size ≤ b)) (he : y.eqv x) (htk : l.take (k + 1) = l.take k ++ [x])
    (hown : w6.ownsRow B 25 5 v6 (k + 1) (ys.flatMap Ty.cells ++ y.cells)) (hb6 : Below B (w1.alloc o) w6) (hg : (w1.alloc o).grownBy w6 v.ownBlock) (hat : v6.ownBlock = v.ownBlock ∨ v6.ownBlock = some (w1.alloc o).heap.size) :
    CpS B w v6 (k + 1) (ys ++ [y]) l w6 := by
  have hs : (w1.alloc o).heap.size = w1.heap.size + 1 := by simp
  have hvl : ∀ b, v.ownBlock = some b → b < wr.heap.size := fun b hb' => (h.own.lt b hb').2
  have hall : ∀ b, b < w1.heap.size → some b ≠ v.ownBlock → w6.heap[b]? = w1.heap[b]? := fun b h1 h2 =>
    (hg.block b (by rw [hs]; omega) h2).trans (Below.heap_alloc w1 o b h1)
  have hBs : B ≤ wr.heap.size := Nat.le_trans hB h.b.size
  have hyb : y.Bl (fun b => B ≤ b ∧ some b ≠ v.ownBlock) := hbl.imp hin (fun b h1 _ => ⟨Nat.le_trans hBs h1, fun e => by have := hvl b e.symm; omega⟩)
  have hys1 : ∀ z ∈ ys, z.In w1 := fun z hz => (h.inn z hz).lower hb
  have hz : ∀ z ∈ ys ++ [y], z.In w1 ∧ z.Bl (fun b => B ≤ b ∧ some b ≠ v.ownBlock) := fun z hz => by
    rcases List.mem_append.1 hz with hz | hz
    · exact ⟨hys1 z hz, h.bl z hz⟩
    · rw [List.mem_singleton] at hz; subst hz; exact ⟨hin, hyb⟩
  refine ⟨?_, by rw [List.length_append, h.len]; rfl, by rw [htk]; exact tyL_snoc h.eqv he, fun z hzm => (hz z hzm).1.keepP (hz z hzm).2 (fun b hb' hl => hall b hl hb'.2), fun z hzm => ?_, ?_⟩
  · rw [List.flatMap_append, List.flatMap_cons, List.flatMap_nil, List.append_nil]; exact hown
  · refine (hz z hzm).2.imp (hz z hzm).1 (fun b hb' hl => ⟨hb'.1, ?_⟩)
    rcases hat with q | q
    · rw [q]; exact hb'.2
    · rw [q, hs]; intro e; injection e with e; omega
  · exact ((h.b.trans (hb.mono hBs)).alloc (Nat.le_trans hBs hb.size) o).trans hb6

set_option maxRecDepth 100000 in
set_option maxHeartbeats 2000000 in
theorem copies_any (w0 : World) (l : List Ty) (hC : ∀ x ∈ l, ∀ (b o : Nat) (W : World), x.d.At w0 b o → Below w0.heap.size w0 W → Calls Tryd.prog 29 #[.pointer (some ⟨b, o, none⟩)] W (CpR x W))
    (A : Option Addr) (n c : Nat) (hn : l.length = n) (hm : n ≤ 4000000) (hP : ∀ k (hk : k < l.length), ∃ b o, A = some ⟨b, o, none⟩ ∧ ∀ j (hj : j < l.length), (l[j]).d.At w0 b (o + j * 5)) (W : World) (hb : Below w0.heap.size w0 W) :
    Calls Tryd.prog 23 #[.slice A n c] W (CpsR l W) := by
  have HC := Lib.hid hC
  have HP := Lib.hid hP
  have HB := Lib.hid hb
  have HN := Lib.hid (And.intro hn hm)
  clear hC hP hb hn hm
  go_enter Tryd.func23, Tryd.ntmps23
  go_wp2_with fail
  go_loopw [3, 7] (fun v i wr => ∃ (k : Nat) (ys : List Ty), i = .int .i64 k ∧ k ≤ n ∧ CpS W.heap.size W v k ys l wr) (fun _ i _ => n - (intOf i).toNat)
  case atStart => exact ⟨0, [], rfl, Nat.zero_le _, World.ownsRow_nil _ _ _ _, rfl, trivial, (fun y hy => by cases hy), (fun y hy => by cases hy), Below.refl _ _⟩
  case round =>
    obtain ⟨k, ys, rfl, hk, hS⟩ := hrel
    obtain ⟨A1, c1, rfl, hn1, hm1, _⟩ := own_cap hS.own
    have HS := Lib.hid hS
    by_cases hlt : k < n
    · have hkl : k < l.length := by rw [HN.out.1]; exact hlt
      obtain ⟨b, o, rfl, hAt⟩ := HP.out k hkl
      have HX := Lib.hid (And.intro (HC.out l[k] (List.getElem_mem hkl) b (o + k * 5) wr (hAt k hkl) (below_then HB.out hS.b)) (List.take_succ_eq_append_getElem hkl))
      obtain ⟨x, hx⟩ : ∃ x, l[k] = x := ⟨_, rfl⟩
      rw [hx] at HX
      have hki : (k : Int) < (n : Int) := by omega
      have hk0 : (0 : Int) ≤ (k : Int) := by omega
      have hk4 : (k : Int) ≤ 4000000 := by have := HN.out.2; omega
      have HKL := Lib.hid (show (k + 1) * 72 ≤ 140737488355328 by have := HN.out.2; omega)
      clear hS hAt hx
      go_wp2_with fail
      refine HX.out.1.mono ?_
      rintro e w1 ⟨y, rfl, hin, hbl, he, hb1⟩
      have H1 := Lib.hid (And.intro hin (And.intro hbl (And.intro he hb1)))
      have HO := Lib.hid (own_below HS.out.own hb1)
      have HSZ := Lib.hid (show W.heap.size ≤ w1.heap.size from Nat.le_trans HS.out.b.size hb1.size)
      clear hin hbl he hb1
      go_wp2_with (at_builtin; refine wpList_app elType _ rfl _ _ rfl W.heap.size (.slice A1 k c1) k _ rfl (HO.out.alloc _) (some ⟨w1.heap.size, 0, none⟩) 1 1 _ rfl (Rd.lit w1 _ _ rfl) (ty_ones y) HKL.out (by have := HSZ.out; rw [World.size_alloc]; omega) ?_; intro v6 w6 hown6 hb6 hg6 hat6; have H6 := Lib.hid (HS.out.step (Nat.le_refl _) H1.out.2.2.2 H1.out.1 H1.out.2.1 H1.out.2.2.1 HX.out.2 hown6 hb6 hg6 hat6); obtain ⟨A6, c6, hv6, _⟩ := own_cap hown6; clear hown6 hb6 hg6 hat6; subst hv6)
      go_roundw
      case rel => exact ⟨k + 1, _, by go_num, hlt, H6.out⟩
      case measure => simp [intOf] <;> omega
    · have hki : ¬ (k : Int) < (n : Int) := by omega
      obtain rfl : k = n := by omega
      clear hS
      go_wp2_with fail
      go_returns
      have h := HS.out
      refine ⟨A1, k, c1, ys, rfl, h.len, by have := h.eqv; rwa [List.take_of_length_le (by rw [HN.out.1]; exact Nat.le_refl _)] at this, Rd.of_own h.own, h.inn, fun y hy => (h.bl y hy).imp (h.inn y hy) (fun b hb' _ => hb'.1), fun _ a ha => ?_, hn1, hm1, h.b⟩
      subst ha
      exact (h.own.lt a.block rfl).1
end Go.Proofs.YtklandpagieapaaDoor
