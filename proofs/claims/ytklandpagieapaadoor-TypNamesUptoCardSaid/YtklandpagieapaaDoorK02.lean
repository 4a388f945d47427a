/-
  Whether a type may be, by the code: all of it.
  How much is left for a type; how many nodes it has: by the document's answers.
  Numbers that were met, by the document's answer: where one stands; one more.
  How many nodes a type has, and whether it may be, by the document's answer.
  Numbers that were met, by the document's answer: how they lie in memory, and how one more is laid to them.
  What a type's text comes to; how long it is; which variables stand in a type. About no program.
  Arguments opened: a slice that came in, whatever its elements.
  Bytes as they lie; a part of them as a text; bytes that came in.
  Texts, and lists of texts, that came in.
  The writer of types: a strings.Builder ahead of two maps, in one block. What it gathers.
  Numbers that were met, by the code: a list and a map that two closures share.
  Where numbers stand, as a map; whether a number is in a list: by the code and the library.
  What the writer of types writes, by the code.
-/
import Derived.Test.YtklandpagieapaaDoorK01
import Derived.Test.YtklandpagieapaaDoorK00
import Derived.Deep.RegionHeld3
import Derived.Deep.AppendLies
import Derived.Deep.CutRange
import Derived.Deep.RegionLaw
import Derived.Lib.ItoaNum
import Derived.Lib.ItoaLen
import Derived.Deep.Slices
import Derived.Deep.Fields
import Derived.Lib.SmallJoins
import Derived.Laws.IdiomStrings
import Derived.ChangeMaps5
import Derived.Lib.Builder
import Derived.Lib.AppendStr
import Derived.Lib.UnsafeStr
import Derived.Laws.Externs
import Derived.Maps.OwnSet
import Derived.Maps.OwnOps
import Derived.Test.YtklandpagieapaaDoorShelfN
import Derived.Lib.LaidTab
namespace Go.Proofs.YtklandpagieapaaDoor
open Go.ChangeShapes Go.WideShapes Go.ChangeAt Go.RowKit Go.Sort
set_option linter.unusedVariables false
set_option linter.unusedSimpArgs false

mutual
/-- How many nodes are met behind so many, if all may be. -/
def mayF : Ty → Nat → Option Nat
  | .mk d l, k => if 4000 < k + 1 then none else if d.fieldsB = true then mayL l (k + 1) else none
def mayL : List Ty → Nat → Option Nat
  | [], k => some k
  | x :: l, k => match mayF x k with
    | none => none
    | some j => mayL l j
end
theorem mayL_snoc : ∀ (l : List Ty) (x : Ty) (k : Nat), mayL (l ++ [x]) k = (match mayL l k with | none => none | some j => mayF x j)
  | [], x, k => by simp only [List.nil_append, mayL]; cases mayF x k <;> rfl
  | y :: l, x, k => by
    simp only [List.cons_append, mayL]
    cases mayF y k with
    | none => rfl
    | some j => exact mayL_snoc l x j
theorem mayL_none : ∀ (l r : List Ty) (k : Nat), mayL l k = none → mayL (l ++ r) k = none
  | [], r, k, h => by simp [mayL] at h
  | y :: l, r, k, h => by
    simp only [List.cons_append, mayL] at h ⊢
    cases hy : mayF y k with
    | none => rfl
    | some j => rw [hy] at h; exact mayL_none l r j h
theorem mayL_take_none {l : List Ty} {i k : Nat} (h : mayL (l.take i) k = none) : mayL l k = none := by
  rw [← List.take_append_drop i l]; exact mayL_none _ _ _ h
mutual
theorem mayF_le : ∀ (t : Ty) (k j : Nat), mayF t k = some j → k + 1 ≤ j ∧ j ≤ 4000
  | .mk d l, k, j, h => by
    unfold mayF at h
    split at h
    · cases h
    split at h
    · have h1 := mayL_le l (k + 1) j h; omega
    · cases h
theorem mayL_le : ∀ (l : List Ty) (k j : Nat), mayL l k = some j → k ≤ j ∧ (k ≤ 4000 → j ≤ 4000)
  | [], k, j, h => by simp [mayL] at h; omega
  | x :: l, k, j, h => by
    unfold mayL at h
    cases hx : mayF x k with
    | none => rw [hx] at h; cases h
    | some m => rw [hx] at h; have h1 := mayF_le x k m hx; have h2 := mayL_le l m j h; omega
end

set_option maxRecDepth 100000 in
set_option maxHeartbeats 1000000 in
theorem mayBe_any (w0 : World) (t : Ty) (hIn : t.In w0) :
    ∀ (b o : Nat) (q : Addr) (k : Nat) (w : World), t.d.At w0 b o → Below w0.heap.size w0 w → w0.heap.size ≤ q.block → w.cell? q = some (.int .i64 k) → w.frozen? q = false → k ≤ 4000 →
    Calls Tryd.prog 15 #[.pointer (some ⟨b, o, none⟩), .pointer (some q)] w fun e w' => e = .returned (.bool (mayF t k).isSome) ∧ Below w0.heap.size w0 w' ∧ w.heap.size ≤ w'.heap.size ∧ w'.frozen? q = false ∧ ∃ j : Nat, w'.cell? q = some (.int .i64 j) ∧ ∀ m, mayF t k = some m → j = m := by
  induction hIn with
  | mk d l lab par cap sub ih =>
  intro b o q k w hAt0 hb hq hcq hfq hk
  have hAt : d.At w0 b o := hAt0
  have hlen : l.length = d.pn := by have := par.1; rw [flat_len Ty.cells_len] at this; omega
  have hqlt : q.block < w.heap.size := World.block_lt_of_cell? w _ hcq
  have hb1 : Below w0.heap.size w0 (w.setCell q (.int .i64 ((k + 1 : Nat) : Int))) := hb.setCell hq _
  have hc1 : (w.setCell q (.int .i64 ((k + 1 : Nat) : Int))).cell? q = some (.int .i64 ((k + 1 : Nat) : Int)) := World.cell?_setCell_same _ _ _ hcq
  have hf1 : (w.setCell q (.int .i64 ((k + 1 : Nat) : Int))).frozen? q = false := by rw [World.frozen?_setCell]; exact hfq
  have hs1 : (w.setCell q (.int .i64 ((k + 1 : Nat) : Int))).heap.size = w.heap.size := by simp
  have ek : ((k + 1 : Nat) : Int) = (k : Int) + 1 := by omega
  rw [ek] at hb1 hc1 hf1 hs1
  have hki : (k : Int) ≤ 4000 := by omega
  have HAll := Lib.hid (And.intro hb1 (And.intro hc1 (And.intro hf1 (And.intro hs1 (And.intro hAt (And.intro lab (And.intro par (And.intro cap hlen))))))))
  have HIH := Lib.hid (And.intro sub ih)
  have HQ := Lib.hid (And.intro hq hqlt)
  clear hb1 hc1 hf1 hs1 hAt lab par cap hlen sub ih hq hqlt hb hAt0 ek
  by_cases hk4 : 4000 < k + 1
  · obtain rfl : k = 4000 := by omega
    have e : mayF (.mk d l) 4000 = none := by unfold mayF; rw [if_pos (by omega)]
    rw [e]
    clear hk4 e hki hk
    go_enter Tryd.func15, Tryd.ntmps15
    go_wp2_with fail
    go_returns
    exact ⟨rfl, HAll.out.1, by simp, HAll.out.2.2.1, 4001, HAll.out.2.1, fun m hm => by cases hm⟩
  have hki2 : (k : Int) + 1 ≤ 4000 := by omega
  have hki3 : ¬ (4000 : Int) < (k : Int) + 1 := by omega
  have HK := Lib.hid hk4
  clear hk4 hk hki
  have HF := Lib.hid (fieldsMay_any d b o _ (HAll.out.2.2.2.2.1.lower HAll.out.1) (HAll.out.2.2.2.2.2.1.below HAll.out.1) HAll.out.2.2.2.2.2.2.2.1.2.2.2.2.1)
  go_enter Tryd.func15, Tryd.ntmps15
  go_wp2_with fail
  refine HF.out.mono ?_
  rintro e w2 ⟨rfl, hb2⟩
  have HF2 := Lib.hid hb2
  clear HF hb2
  cases hfb : d.fieldsB with
  | false =>
    have e : mayF (.mk d l) k = none := by unfold mayF; rw [if_neg HK.out, if_neg (by rw [hfb]; simp)]
    have HE := Lib.hid e
    clear e hfb
    go_wp2_with fail
    go_returns
    have hq2 : q.block < (w.setCell q (.int .i64 ((k : Int) + 1))).heap.size := by rw [HAll.out.2.2.2.1]; exact HQ.out.2
    refine ⟨by rw [HE.out]; rfl, HAll.out.1.trans (HF2.out.mono (by rw [HAll.out.2.2.2.1]; exact Nat.le_of_lt (Nat.lt_of_le_of_lt HQ.out.1 HQ.out.2))), by have := HF2.out.size; rw [HAll.out.2.2.2.1] at this; exact this, (HF2.out.frozen hq2).trans HAll.out.2.2.1, k + 1, ?_, fun m hm => by rw [HE.out] at hm; cases hm⟩
    rw [HF2.out.cell hq2, HAll.out.2.1]; rfl
  | true =>
    have hq2 : q.block < (w.setCell q (.int .i64 ((k : Int) + 1))).heap.size := by rw [HAll.out.2.2.2.1]; exact HQ.out.2
    have e : mayF (.mk d l) k = mayL l (k + 1) := by unfold mayF; rw [if_neg HK.out, if_pos hfb]
    have hb3 : Below w0.heap.size w0 w2 := HAll.out.1.trans (HF2.out.mono (by rw [HAll.out.2.2.2.1]; exact Nat.le_of_lt (Nat.lt_of_le_of_lt HQ.out.1 HQ.out.2)))
    have hc3 : w2.cell? q = some (.int .i64 ((k + 1 : Nat) : Int)) := by rw [HF2.out.cell hq2, HAll.out.2.1]; rfl
    have hf3 : w2.frozen? q = false := (HF2.out.frozen hq2).trans HAll.out.2.2.1
    have hs3 : w.heap.size ≤ w2.heap.size := by have := HF2.out.size; rw [HAll.out.2.2.2.1] at this; exact this
    have HE := Lib.hid (And.intro e (And.intro hb3 (And.intro hc3 (And.intro hf3 hs3))))
    have c2 := (HAll.out.2.2.2.2.1.lower hb3).c2
    clear e hfb hb3 hc3 hf3 hs3 hq2
    go_wp2_with fail
    clear c2
    go_loopw [25] (fun i wr => ∃ m j : Nat, i = .int .i64 m ∧ m ≤ d.pn ∧ mayL (l.take m) (k + 1) = some j ∧ wr.cell? q = some (.int .i64 j) ∧ wr.frozen? q = false ∧ Below w0.heap.size w0 wr ∧ w.heap.size ≤ wr.heap.size) (fun i _ => d.pn - (intOf i).toNat)
    case atStart => exact ⟨0, k + 1, rfl, Nat.zero_le _, by simp [mayL], HE.out.2.2.1, HE.out.2.2.2.1, HE.out.2.1, HE.out.2.2.2.2⟩
    case round =>
      obtain ⟨m, j, rfl, hm, hL, hcj, hfj, hbj, hsj⟩ := hrel
      have HJ := Lib.hid (And.intro hL (And.intro hcj (And.intro hfj (And.intro hbj hsj))))
      clear hL hcj hfj hbj hsj
      by_cases hlt : m < d.pn
      · have hml : m < l.length := by rw [HAll.out.2.2.2.2.2.2.2.2]; exact hlt
        obtain ⟨pb, po, hpA, hAtP⟩ := (Ty.In.mk d l HAll.out.2.2.2.2.2.1 HAll.out.2.2.2.2.2.2.1 HAll.out.2.2.2.2.2.2.2.1 HIH.out.1).part (k := m) hml
        have hpA' : d.pA = some ⟨pb, po, none⟩ := hpA
        have hAtM : (l[m]).d.At w0 pb (po + m * 5) := hAtP m hml
        have c2 := (HAll.out.2.2.2.2.1.lower HJ.out.2.2.2.1).c2
        rw [hpA'] at c2
        have hlti : (m : Int) < (d.pn : Int) := by omega
        have hmi : (m : Int) ≤ 4000000 := by have := HAll.out.2.2.2.2.2.2.2.1.2.2.2.2.2; omega
        have hk1 : k + 1 ≤ 4000 := by omega
        have hj4 := (mayL_le _ _ _ HJ.out.1).2 hk1
        obtain ⟨x, hx⟩ : ∃ x, l[m] = x := ⟨_, rfl⟩
        rw [hx] at hAtM
        have hxm : x ∈ l := by rw [← hx]; exact List.getElem_mem hml
        have htk : l.take (m + 1) = l.take m ++ [x] := by rw [List.take_succ_eq_append_getElem hml, hx]
        have HM := Lib.hid (HIH.out.2 x hxm pb (po + m * 5) q j wr hAtM HJ.out.2.2.2.1 HQ.out.1 HJ.out.2.1 HJ.out.2.2.1 hj4)
        have HS := Lib.hid htk
        clear hpA hpA' hAtP hAtM hx hxm htk hml hk1 hj4
        go_wp2_with fail
        refine HM.out.mono ?_
        rintro e w3 ⟨rfl, hb3, hs3, hf3, j3, hc3, hj3⟩
        have H3 := Lib.hid (And.intro hb3 (And.intro hs3 (And.intro hf3 (And.intro hc3 hj3))))
        clear HM hb3 hs3 hf3 hc3 hj3
        have hsn : mayL (l.take (m + 1)) (k + 1) = mayF x j := by
          rw [HS.out, mayL_snoc, HJ.out.1]
        have HN := Lib.hid hsn
        clear hsn
        cases hmf : mayF x j with
        | none =>
          have he : mayL l (k + 1) = none := mayL_take_none (i := m + 1) (by rw [HN.out, hmf])
          have HE2 := Lib.hid he
          clear he hmf
          go_wp2_with fail
          go_returns
          exact ⟨by rw [HE.out.1, HE2.out]; rfl, H3.out.1, Nat.le_trans HJ.out.2.2.2.2 H3.out.2.1, H3.out.2.2.1, j3, H3.out.2.2.2.1, fun y hy => by rw [HE.out.1, HE2.out] at hy; cases hy⟩
        | some j4 =>
          have hj34 : j3 = j4 := H3.out.2.2.2.2 j4 hmf
          have HE2 := Lib.hid (And.intro hj34 hmf)
          clear hj34 hmf
          go_wp2_with fail
          go_roundw
          case rel => exact ⟨m + 1, j4, by go_num, hlt, by rw [HN.out, HE2.out.2], by rw [← HE2.out.1]; exact H3.out.2.2.2.1, H3.out.2.2.1, H3.out.1, Nat.le_trans HJ.out.2.2.2.2 H3.out.2.1⟩
          case measure => simp [intOf] <;> omega
      · go_wp2_with fail
        go_returns
        have hmm : l.take m = l := List.take_of_length_le (by rw [HAll.out.2.2.2.2.2.2.2.2]; omega)
        have hL := HJ.out.1
        rw [hmm] at hL
        exact ⟨by rw [HE.out.1, hL]; rfl, HJ.out.2.2.2.1, HJ.out.2.2.2.2, HJ.out.2.2.1, j, HJ.out.2.1, fun x hx => by rw [HE.out.1, hL] at hx; exact Option.some.inj hx⟩

/-- May: whether a type may be. -/
theorem may_any (t : Ty) (w : World) (hIn : t.In w) :
    Calls Tryd.prog 6 #[.agg t.d.arr] w fun e w' => e = .returned (.bool (mayF t 0).isSome) ∧ Below w.heap.size w w' := by
  have hb1 : Below w.heap.size w (w.alloc (.cells t.d.arr 25)) := (Below.refl _ _).alloc (Nat.le_refl _) _
  have hb2 : Below (w.alloc (.cells t.d.arr 25)).heap.size (w.alloc (.cells t.d.arr 25)) ((w.alloc (.cells t.d.arr 25)).alloc (.cells #[.int .i64 0] 3)) := (Below.refl _ _).alloc (Nat.le_refl _) _
  have hAt : t.d.At (w.alloc (.cells t.d.arr 25)) w.heap.size 0 := ⟨cell_new w _ _ 0 rfl, cell_new w _ _ 1 rfl, cell_new w _ _ 2 rfl, cell_new w _ _ 3 rfl, cell_new w _ _ 4 rfl⟩
  have HM := Lib.hid (mayBe_any _ t (hIn.lower hb1) w.heap.size 0 ⟨w.heap.size + 1, 0, none⟩ 0 _ hAt hb2 (by simp) (by simp [World.cell?_alloc_at]) (by simp) (by omega))
  have HB := Lib.hid hb1
  clear hb1 hb2 hAt
  go_enter Tryd.func6, Tryd.ntmps6
  go_wp2_with fail
  refine HM.out.mono ?_
  rintro e w' ⟨rfl, hb, _⟩
  go_wp2_with fail
  go_returns
  exact ⟨rfl, HB.out.trans (hb.mono (by simp))⟩
end Go.Proofs.YtklandpagieapaaDoor

namespace Go.Proofs.YtklandpagieapaaDoor
open Go.ChangeShapes Go.WideShapes Go.ChangeAt Go.RowKit Go.Sort
set_option linter.unusedVariables false
set_option linter.unusedSimpArgs false

theorem box_at (w : World) (d : TyD) : d.At (w.alloc (.cells d.arr 25)) w.heap.size 0 := ⟨cell_new w _ _ 0 rfl, cell_new w _ _ 1 rfl, cell_new w _ _ 2 rfl, cell_new w _ _ 3 rfl, cell_new w _ _ 4 rfl⟩

set_option maxRecDepth 100000 in
set_option maxHeartbeats 1000000 in
theorem count_any (w0 : World) (t : Ty) (hIn : t.In w0) : ∀ (m : Int) (w : World), Below w0.heap.size w0 w →
    Calls Tryd.prog 14 #[.agg t.d.arr, .int .i64 m] w fun e w' => (∃ v : Int, e = .returned (.int .i64 v)) ∧ Below w.heap.size w w' := by
  induction hIn with
  | mk d l lab par cap sub ih =>
  intro m w hb
  have hlen : l.length = d.pn := by have := par.1; rw [flat_len Ty.cells_len] at this; omega
  have hb1 : Below w.heap.size w (w.alloc (.cells d.arr 25)) := (Below.refl _ _).alloc (Nat.le_refl _) _
  have hAt := box_at w d
  have HA := Lib.hid (And.intro hAt (And.intro (below_then hb hb1) (And.intro lab (And.intro cap hlen))))
  have HI := Lib.hid (Ty.In.mk d l lab par cap sub)
  have HIH := Lib.hid ih
  have HB1 := Lib.hid hb1
  clear hb1 hAt lab par cap sub ih hb hlen
  go_enter Tryd.func14, Tryd.ntmps14
  show _
  unfold Ty.d
  go_wp2_with fail
  generalize (w.alloc (.cells d.arr 25)) = w1 at *
  go_loopw [1, 5] (fun v i wr => ∃ (z : Int) (k : Nat), v = .int .i64 z ∧ i = .int .i64 k ∧ k ≤ d.ln ∧ Below w1.heap.size w1 wr) (fun _ i _ => d.ln - (intOf i).toNat)
  case atStart => exact ⟨_, 0, rfl, rfl, Nat.zero_le _, Below.refl _ _⟩
  case round =>
    obtain ⟨z, k, rfl, rfl, hk, hbr⟩ := hrel
    have HR := Lib.hid hbr
    have c3 := (HA.out.1.lower hbr).c3
    clear hbr
    by_cases hlt : k < d.ln
    · have hll : d.labels.length = d.ln := rd_len HA.out.2.2.1
      obtain ⟨b, o, hlA, hcel⟩ := ((HA.out.2.2.1.below HA.out.2.1).below HR.out).str (k := k) (by omega)
      have h1 := hcel k (by omega)
      rw [hlA] at c3
      obtain ⟨x, hx⟩ : ∃ x, (d.labels[k]'(by omega)) = x := ⟨_, rfl⟩
      rw [hx] at h1
      have hki : (k : Int) < (d.ln : Int) := by omega
      have hk4 : (k : Int) ≤ 4000000 := by have := HA.out.2.2.2.1.2.2.2.2.1; omega
      clear hcel hx hlA hll
      go_wp2_with fail
      go_roundw
      case rel => exact ⟨_, k + 1, rfl, by go_num, hlt, HR.out⟩
      case measure => simp [intOf] <;> omega
    · have hki : ¬ (k : Int) < (d.ln : Int) := by omega
      clear hlt
      go_wp2_with fail
      clear c3
      go_loopw [1, 6] (fun v i wr => ∃ (z : Int) (k : Nat), v = .int .i64 z ∧ i = .int .i64 k ∧ k ≤ d.pn ∧ Below w1.heap.size w1 wr) (fun _ i _ => d.pn - (intOf i).toNat)
      case atStart => exact ⟨_, 0, rfl, rfl, Nat.zero_le _, HR.out⟩
      case round =>
        clear HR
        obtain ⟨z2, j, rfl, rfl, hj, hbr⟩ := hrel
        have HR := Lib.hid hbr
        have c2 := (HA.out.1.lower hbr).c2
        clear hbr
        by_cases hlt2 : j < d.pn
        · by_cases hz : 0 ≤ z2
          · have hjl : j < l.length := by rw [HA.out.2.2.2.2]; exact hlt2
            obtain ⟨pb, po, hpA, hAtP⟩ := (HI.out.lower HA.out.2.1).part (k := j) hjl
            have hpA' : d.pA = some ⟨pb, po, none⟩ := hpA
            rw [hpA'] at c2
            have hAtM : (l[j]).d.At w1 pb (po + j * 5) := hAtP j hjl
            obtain ⟨x, hx⟩ : ∃ x, l[j] = x := ⟨_, rfl⟩
            rw [hx] at hAtM
            have hxm : x ∈ l := by rw [← hx]; exact List.getElem_mem hjl
            have HM := Lib.hid (fun z => HIH.out x hxm z wr (HA.out.2.1.trans (HR.out.mono HA.out.2.1.size)))
            obtain ⟨p0, p1, p2, p3, p4⟩ := hAtM.lower HR.out
            have hji : (j : Int) < (d.pn : Int) := by omega
            have hj4 : (j : Int) ≤ 4000000 := by have := HA.out.2.2.2.1.2.2.2.2.2; omega
            clear hpA hpA' hAtP hAtM hx hxm hjl
            go_wp2_with fail
            refine (HM.out _).mono ?_
            rintro e w3 ⟨⟨v3, rfl⟩, hb3⟩
            have H3 := Lib.hid (below_then HR.out hb3)
            clear hb3 HM
            go_wp2_with fail
            go_roundw
            case rel => exact ⟨v3, j + 1, rfl, by go_num, hlt2, H3.out⟩
            case measure => simp [intOf] <;> omega
          · have hz2 : ¬ 0 ≤ z2 := hz
            have hji : (j : Int) < (d.pn : Int) := by omega
            go_wp2_with fail
            go_returns
            exact ⟨⟨z2, rfl⟩, below_then HB1.out HR.out⟩
        · have hji : ¬ (j : Int) < (d.pn : Int) := by omega
          go_wp2_with fail
          go_returns
          exact ⟨⟨z2, rfl⟩, below_then HB1.out HR.out⟩
end Go.Proofs.YtklandpagieapaaDoor

namespace Go.Proofs.YtklandpagieapaaDoor
open Go.ChangeShapes Go.WideShapes Go.ChangeAt Go.RowKit Go.Sort
set_option linter.unusedVariables false
set_option linter.unusedSimpArgs false
attribute [local irreducible] Go.wpQuiet

def i64s (l : List Int) : List Value := l.map fun n => .int .i64 n
theorem i64s_length (l : List Int) : (i64s l).length = l.length := by simp [i64s]
theorem i64s_at (l : List Int) (k : Nat) (h : k < l.length) : (i64s l)[k]? = some (.int .i64 l[k]) := by simp [i64s, h]
theorem i64s_append (a b : List Int) : i64s (a ++ b) = i64s a ++ i64s b := by simp [i64s]
theorem Rd.ints {w : World} {A : Option Addr} {n : Nat} {l : List Int} (h : Rd w 1 A n (i64s l)) : l.length = n := by have := h.1; rw [i64s_length] at this; omega
theorem Rd.int {w : World} {A : Option Addr} {n : Nat} {l : List Int} (h : Rd w 1 A n (i64s l)) {k : Nat} (hk : k < l.length) : ∃ b o, A = some ⟨b, o, none⟩ ∧ b < w.heap.size ∧ ∀ j (hj : j < l.length), w.cell? ⟨b, o + j, none⟩ = some (.int .i64 l[j]) := by
  obtain ⟨b, o, rfl, hb, hh⟩ := h.base (by rw [i64s_length]; omega)
  exact ⟨b, o, rfl, hb, fun j hj => hh j _ (i64s_at l j hj)⟩
theorem elInt : ElemTy Tryd.prog 33 3 (.int .i64 0) 1 8 := ⟨Tryd.underlying33, by kernel_rfl, rfl, by omega, by omega⟩

/-- Where a number stands first; -1: nowhere. -/
def atF : List Int → Int → Nat → Int
  | [], _, _ => -1
  | x :: l, n, k => if x = n then (k : Int) else atF l n (k + 1)
theorem atF_neg : ∀ (l : List Int) (n : Int) (k : Nat), (atF l n k < 0) ↔ n ∉ l
  | [], n, k => by simp [atF]
  | x :: l, n, k => by
    unfold atF
    split
    · rename_i h; subst h; simp
    · rename_i h; rw [atF_neg l n (k + 1)]; simp [Ne.symm h]
theorem atF_drop (l : List Int) (n : Int) : ∀ (k : Nat), k ≤ l.length → n ∉ l.take k → atF l n 0 = atF (l.drop k) n k := by
  have key : ∀ (l : List Int) (j k : Nat), k ≤ l.length → n ∉ l.take k → atF l n j = atF (l.drop k) n (j + k) := by
    intro l
    induction l with
    | nil => intro j k hk _; have : k = 0 := by simpa using hk
             subst this; rfl
    | cons x l ih =>
      intro j k hk hn
      cases k with
      | zero => rfl
      | succ k =>
        simp only [List.take_succ_cons, List.mem_cons, not_or] at hn
        simp only [List.drop_succ_cons]
        rw [show atF (x :: l) n j = atF l n (j + 1) from by unfold atF; rw [if_neg (Ne.symm hn.1)]; cases l <;> rfl, ih (j + 1) k (by simpa using hk) hn.2]
        congr 1; omega
  intro k hk hn
  have := key l 0 k hk hn
  rwa [Nat.zero_add] at this

end Go.Proofs.YtklandpagieapaaDoor

namespace Go.Proofs.YtklandpagieapaaDoor
open Go.ChangeShapes Go.WideShapes Go.ChangeAt Go.RowKit Go.Sort
set_option linter.unusedVariables false
set_option linter.unusedSimpArgs false

mutual
def Ty.nodes : Ty → Nat
  | .mk _ l => 1 + nodesL l
def nodesL : List Ty → Nat
  | [] => 0
  | x :: l => x.nodes + nodesL l
end
mutual
def Ty.fine : Ty → Bool
  | .mk d l => d.fieldsB && fineL0 l
def fineL0 : List Ty → Bool
  | [] => true
  | x :: l => x.fine && fineL0 l
end
theorem nodesL_snoc : ∀ (l : List Ty) (x : Ty), nodesL (l ++ [x]) = nodesL l + x.nodes
  | [], x => by simp [nodesL]
  | y :: l, x => by simp only [List.cons_append, nodesL, nodesL_snoc l x]; omega
theorem nodesL_take (l : List Ty) (k : Nat) : nodesL (l.take k) ≤ nodesL l := by
  induction l generalizing k with
  | nil => simp [nodesL]
  | cons y l ih =>
    cases k with
    | zero => simp [nodesL]
    | succ k => simp only [List.take_succ_cons, nodesL]; have := ih k; omega
theorem nodesL_mem : ∀ (l : List Ty) (x : Ty), x ∈ l → x.nodes ≤ nodesL l
  | [], x, h => by cases h
  | y :: l, x, h => by
    simp only [nodesL]
    rcases List.mem_cons.1 h with rfl | h
    · omega
    · have := nodesL_mem l x h; omega
theorem fineL0_snoc : ∀ (l : List Ty) (x : Ty), fineL0 (l ++ [x]) = (fineL0 l && x.fine)
  | [], x => by simp [fineL0]
  | y :: l, x => by simp only [List.cons_append, fineL0, fineL0_snoc l x, Bool.and_assoc]
theorem fineL0_take {l : List Ty} {k : Nat} (h : fineL0 (l.take k) = false) : fineL0 l = false := by
  induction l generalizing k with
  | nil => simp [fineL0] at h
  | cons y l ih =>
    cases k with
    | zero => simp [fineL0] at h
    | succ k =>
      simp only [List.take_succ_cons, fineL0, Bool.and_eq_false_iff] at h ⊢
      rcases h with h | h
      · exact .inl h
      · exact .inr (ih h)
mutual
theorem mayF_nodes : ∀ (t : Ty) (k : Nat), mayF t k = if t.fine = true ∧ k + t.nodes ≤ 4000 then some (k + t.nodes) else none
  | .mk d l, k => by
    unfold mayF Ty.fine Ty.nodes
    by_cases h1 : 4000 < k + 1
    · rw [if_pos h1, if_neg (by rintro ⟨_, h⟩; omega)]
    rw [if_neg h1]
    cases hf : d.fieldsB with
    | false => simp
    | true =>
      rw [if_pos rfl, mayL_nodes l (k + 1) (by omega)]
      simp only [Bool.true_and]
      have e : k + 1 + nodesL l = k + (1 + nodesL l) := by omega
      rw [e]
theorem mayL_nodes : ∀ (l : List Ty) (k : Nat), k ≤ 4000 → mayL l k = if fineL0 l = true ∧ k + nodesL l ≤ 4000 then some (k + nodesL l) else none
  | [], k, hk => by simp [mayL, fineL0, nodesL, hk]
  | x :: l, k, hk => by
    unfold mayL fineL0 nodesL
    rw [mayF_nodes x k]
    by_cases h1 : x.fine = true ∧ k + x.nodes ≤ 4000
    · rw [if_pos h1]
      show mayL l (k + x.nodes) = _
      rw [mayL_nodes l (k + x.nodes) h1.2, h1.1, Bool.true_and, Nat.add_assoc]
    · rw [if_neg h1]
      show (none : Option Nat) = _
      rw [if_neg]
      rintro ⟨h2, h3⟩
      rw [Bool.and_eq_true] at h2
      exact h1 ⟨h2.1, by omega⟩
end
theorem may_spec (t : Ty) : (mayF t 0).isSome = (t.fine && decide (t.nodes ≤ 4000)) := by
  rw [mayF_nodes]
  by_cases h : t.fine = true ∧ 0 + t.nodes ≤ 4000
  · rw [if_pos h, h.1, decide_eq_true (by have := h.2; omega)]; rfl
  · rw [if_neg h]
    cases hf : t.fine with
    | false => rfl
    | true => rw [decide_eq_false (fun h2 => h ⟨hf, by omega⟩)]; rfl

end Go.Proofs.YtklandpagieapaaDoor

namespace Go.Proofs.YtklandpagieapaaDoor
open Go.ChangeShapes Go.WideShapes Go.ChangeAt Go.RowKit Go.Sort
set_option linter.unusedVariables false
set_option linter.unusedSimpArgs false

def addI (l : List Int) (x : Int) : List Int := if x ∈ l then l else l ++ [x]
theorem addI_len (l : List Int) (x : Int) : (addI l x).length ≤ l.length + 1 := by unfold addI; split <;> simp <;> omega
mutual
def meetT : Ty → List Int → List Int → List Int × List Int
  | .mk d l, T, R =>
    let s := meetTs l (if d.kind = 7 then addI T d.n else T) R
    if (d.kind = 4 ∨ d.kind = 5) ∧ 0 ≤ d.tail then (s.1, addI s.2 d.tail) else s
def meetTs : List Ty → List Int → List Int → List Int × List Int
  | [], T, R => (T, R)
  | x :: l, T, R => meetTs l (meetT x T R).1 (meetT x T R).2
end
theorem meetTs_snoc : ∀ (l : List Ty) (x : Ty) (T R : List Int), meetTs (l ++ [x]) T R = meetT x (meetTs l T R).1 (meetTs l T R).2
  | [], x, T, R => by simp [meetTs]
  | y :: l, x, T, R => by simp only [List.cons_append, meetTs]; exact meetTs_snoc l x _ _
mutual
theorem meetT_len : ∀ (t : Ty) (T R : List Int), (meetT t T R).1.length ≤ T.length + t.nodes ∧ (meetT t T R).2.length ≤ R.length + t.nodes
  | .mk d l, T, R => by
    unfold meetT Ty.nodes
    obtain ⟨h1, h2⟩ := meetTs_len l (if d.kind = 7 then addI T d.n else T) R
    have h3 := addI_len T d.n
    have h4 : (if d.kind = 7 then addI T d.n else T).length ≤ T.length + 1 := by split <;> omega
    simp only
    split
    · have h5 := addI_len (meetTs l (if d.kind = 7 then addI T d.n else T) R).2 d.tail
      simp only
      omega
    · omega
theorem meetTs_len : ∀ (l : List Ty) (T R : List Int), (meetTs l T R).1.length ≤ T.length + nodesL l ∧ (meetTs l T R).2.length ≤ R.length + nodesL l
  | [], T, R => by simp [meetTs, nodesL]
  | x :: l, T, R => by
    unfold meetTs nodesL
    obtain ⟨h1, h2⟩ := meetT_len x T R
    obtain ⟨h3, h4⟩ := meetTs_len l (meetT x T R).1 (meetT x T R).2
    omega
end

/-- The numbers that were met lie in the block N, in two rows of their own. -/
structure NM (w : World) (N : Nat) (T R : List Int) (vT vR : Value) : Prop where
  c0 : w.cell? ⟨N, 0, none⟩ = some vT
  c1 : w.cell? ⟨N, 1, none⟩ = some vR
  f0 : w.frozen? ⟨N, 0, none⟩ = false
  f1 : w.frozen? ⟨N, 1, none⟩ = false
  oT : w.ownsRow (N + 1) 3 1 vT T.length (i64s T)
  oR : w.ownsRow (N + 1) 3 1 vR R.length (i64s R)
  ne : ∀ k, vT.ownBlock = some k → vR.ownBlock ≠ some k
/-- A block that is another's. -/
def Oth (N : Nat) (w : World) (vT vR : Value) (g : Nat) : Prop := g < w.heap.size ∧ g ≠ N ∧ some g ≠ vT.ownBlock ∧ some g ≠ vR.ownBlock
structure WN (N : Nat) (w : World) (vT vR : Value) (w' : World) (vT' vR' : Value) : Prop where
  b : Below N w w'
  oth : ∀ g, Oth N w vT vR g → Oth N w' vT' vR' g ∧ w'.heap[g]? = w.heap[g]?
section
variable {N : Nat} {w w1 w2 : World} {T R : List Int} {vT vR vT1 vR1 vT2 vR2 : Value}
theorem NM.lt (h : NM w N T R vT vR) : N < w.heap.size := World.block_lt_of_cell? w _ h.c0
theorem NM.below (h : NM w N T R vT vR) (hb : Below w.heap.size w w1) : NM w1 N T R vT vR :=
  ⟨cell_below hb h.c0, cell_below hb h.c1, (hb.frozen (p := ⟨N, 0, none⟩) h.lt).trans h.f0, (hb.frozen (p := ⟨N, 1, none⟩) h.lt).trans h.f1, own_below h.oT hb, own_below h.oR hb, h.ne⟩
theorem WN.refl : WN N w vT vR w vT vR := ⟨Below.refl _ _, fun g h => ⟨h, rfl⟩⟩
theorem WN.trans (h : WN N w vT vR w1 vT1 vR1) (k : WN N w1 vT1 vR1 w2 vT2 vR2) : WN N w vT vR w2 vT2 vR2 :=
  ⟨h.b.trans k.b, fun g hg => ⟨(k.oth g (h.oth g hg).1).1, (k.oth g (h.oth g hg).1).2.trans (h.oth g hg).2⟩⟩
theorem WN.below (hN : N ≤ w.heap.size) (hb : Below w.heap.size w w1) : WN N w vT vR w1 vT vR :=
  ⟨hb.mono hN, fun g h => ⟨⟨Nat.lt_of_lt_of_le h.1 hb.size, h.2⟩, hb.block g h.1⟩⟩
theorem NM.new (h : NM w N T R vT vR) (o : Obj) : Oth N (w.alloc o) vT vR w.heap.size :=
  ⟨by rw [World.size_alloc]; omega, by have := h.lt; omega, fun e => by have := (h.oT.lt _ e.symm).2; omega, fun e => by have := (h.oR.lt _ e.symm).2; omega⟩
theorem TyD.At.oth {d : TyD} {g : Nat} (h : d.At w g 0) (e : w1.heap[g]? = w.heap[g]?) : d.At w1 g 0 :=
  ⟨(World.cell?_of_block e).trans h.c0, (World.cell?_of_block e).trans h.c1, (World.cell?_of_block e).trans h.c2, (World.cell?_of_block e).trans h.c3, (World.cell?_of_block e).trans h.c4⟩

theorem nm_far (h : NM w N T R vT vR) {v : Value} (hv : v = vT ∨ v = vR) (hg : w.grownBy w1 v.ownBlock) : w1.cell? ⟨N, 0, none⟩ = some vT ∧ w1.cell? ⟨N, 1, none⟩ = some vR ∧ w1.frozen? ⟨N, 0, none⟩ = false ∧ w1.frozen? ⟨N, 1, none⟩ = false := by
  have hne : some N ≠ v.ownBlock := by
    intro e
    rcases hv with rfl | rfl
    · have := (h.oT.lt _ e.symm).1; omega
    · have := (h.oR.lt _ e.symm).1; omega
  have hb := hg.block N h.lt hne
  exact ⟨(World.cell?_of_block (a := ⟨N, 0, none⟩) hb).trans h.c0, (World.cell?_of_block (a := ⟨N, 1, none⟩) hb).trans h.c1, (World.frozen?_of_block (a := ⟨N, 0, none⟩) hb).trans h.f0, (World.frozen?_of_block (a := ⟨N, 1, none⟩) hb).trans h.f1⟩
theorem addr01 : (⟨N, 0, none⟩ : Addr) ≠ ⟨N, 1, none⟩ := by intro h; injection h with _ h _; omega

theorem NM.addT (h : NM w N T R vT vR) {v6 : Value} {w6 : World} {x : Int} (hx : x ∉ T) (ho : w6.ownsRow (N + 1) 3 1 v6 (T.length + 1) (i64s T ++ [.int .i64 x])) (hg : w.grownBy w6 vT.ownBlock) (hat : v6.ownBlock = vT.ownBlock ∨ v6.ownBlock = some w.heap.size) :
    NM (w6.setCell ⟨N, 0, none⟩ v6) N (addI T x) R v6 vR ∧ WN N w vT vR (w6.setCell ⟨N, 0, none⟩ v6) v6 vR := by
  obtain ⟨c0, c1, f0, f1⟩ := nm_far h (.inl rfl) hg
  have e : addI T x = T ++ [x] := by unfold addI; rw [if_neg hx]
  have hR : w6.ownsRow (N + 1) 3 1 vR R.length (i64s R) := h.oR.kept hg (by
    cases hq : vR.ownBlock with
    | none => exact .inl rfl
    | some k => exact .inr fun e => h.ne k e.symm hq)
  have g0 : (w6.setCell ⟨N, 0, none⟩ v6).cell? ⟨N, 0, none⟩ = some v6 := World.cell?_setCell_same _ _ _ c0
  have g1 : (w6.setCell ⟨N, 0, none⟩ v6).cell? ⟨N, 1, none⟩ = some vR := by rw [World.cell?_setCell_other]; exact c1; exact addr01
  have g2 : (w6.setCell ⟨N, 0, none⟩ v6).frozen? ⟨N, 0, none⟩ = false := by rw [World.frozen?_setCell]; exact f0
  have g3 : (w6.setCell ⟨N, 0, none⟩ v6).frozen? ⟨N, 1, none⟩ = false := by rw [World.frozen?_setCell]; exact f1
  have g4 : (w6.setCell ⟨N, 0, none⟩ v6).ownsRow (N + 1) 3 1 vR R.length (i64s R) := ownsRow_setCell_below hR (Nat.lt_succ_self N) _
  refine ⟨⟨g0, g1, g2, g3, ?_, g4, ?_⟩, ⟨?_, ?_⟩⟩
  · rw [e, i64s_append, List.length_append]
    exact ownsRow_setCell_below ho (Nat.lt_succ_self N) _
  · intro k hk hk2
    rcases hat with q | q
    · exact h.ne k (q ▸ hk) hk2
    · rw [q] at hk; injection hk with hk; have := (h.oR.lt _ hk2).2; omega
  · have hb : Below N w w6 := (Below.refl _ _).grown hg (Nat.le_of_lt h.lt) (fun k hk => Nat.le_of_succ_le (h.oT.lt k hk).1)
    exact hb.trans ⟨rfl, rfl, rfl, Nat.le_of_eq (World.size_setCell _ _ _).symm, fun k hk => Below.heap_setCell w6 _ _ k (Nat.ne_of_lt hk)⟩
  · intro g hgo
    have hs := hg.size
    refine ⟨⟨by rw [World.size_setCell]; have := hgo.1; omega, hgo.2.1, ?_, hgo.2.2.2⟩, (Below.heap_setCell w6 _ _ g hgo.2.1).trans (hg.block g hgo.1 hgo.2.2.1)⟩
    rcases hat with q | q
    · rw [q]; exact hgo.2.2.1
    · rw [q]; intro e2; injection e2 with e2; have := hgo.1; omega
theorem NM.addR (h : NM w N T R vT vR) {v6 : Value} {w6 : World} {x : Int} (hx : x ∉ R) (ho : w6.ownsRow (N + 1) 3 1 v6 (R.length + 1) (i64s R ++ [.int .i64 x])) (hg : w.grownBy w6 vR.ownBlock) (hat : v6.ownBlock = vR.ownBlock ∨ v6.ownBlock = some w.heap.size) :
    NM (w6.setCell ⟨N, 1, none⟩ v6) N T (addI R x) vT v6 ∧ WN N w vT vR (w6.setCell ⟨N, 1, none⟩ v6) vT v6 := by
  obtain ⟨c0, c1, f0, f1⟩ := nm_far h (.inr rfl) hg
  have e : addI R x = R ++ [x] := by unfold addI; rw [if_neg hx]
  have hT : w6.ownsRow (N + 1) 3 1 vT T.length (i64s T) := h.oT.kept hg (by
    cases hq : vT.ownBlock with
    | none => exact .inl rfl
    | some k => exact .inr fun e => h.ne k hq e.symm)
  have g0 : (w6.setCell ⟨N, 1, none⟩ v6).cell? ⟨N, 0, none⟩ = some vT := by rw [World.cell?_setCell_other]; exact c0; exact addr01.symm
  have g1 : (w6.setCell ⟨N, 1, none⟩ v6).cell? ⟨N, 1, none⟩ = some v6 := World.cell?_setCell_same _ _ _ c1
  have g2 : (w6.setCell ⟨N, 1, none⟩ v6).frozen? ⟨N, 0, none⟩ = false := by rw [World.frozen?_setCell]; exact f0
  have g3 : (w6.setCell ⟨N, 1, none⟩ v6).frozen? ⟨N, 1, none⟩ = false := by rw [World.frozen?_setCell]; exact f1
  have g4 : (w6.setCell ⟨N, 1, none⟩ v6).ownsRow (N + 1) 3 1 vT T.length (i64s T) := ownsRow_setCell_below hT (Nat.lt_succ_self N) _
  refine ⟨⟨g0, g1, g2, g3, g4, ?_, ?_⟩, ⟨?_, ?_⟩⟩
  · rw [e, i64s_append, List.length_append]
    exact ownsRow_setCell_below ho (Nat.lt_succ_self N) _
  · intro k hk hk2
    rcases hat with q | q
    · exact h.ne k hk (q ▸ hk2)
    · rw [q] at hk2; injection hk2 with hk2; have := (h.oT.lt _ hk).2; omega
  · have hb : Below N w w6 := (Below.refl _ _).grown hg (Nat.le_of_lt h.lt) (fun k hk => Nat.le_of_succ_le (h.oR.lt k hk).1)
    exact hb.trans ⟨rfl, rfl, rfl, Nat.le_of_eq (World.size_setCell _ _ _).symm, fun k hk => Below.heap_setCell w6 _ _ k (Nat.ne_of_lt hk)⟩
  · intro g hgo
    have hs := hg.size
    refine ⟨⟨by rw [World.size_setCell]; have := hgo.1; omega, hgo.2.1, hgo.2.2.1, ?_⟩, (Below.heap_setCell w6 _ _ g hgo.2.1).trans (hg.block g hgo.1 hgo.2.2.2)⟩
    rcases hat with q | q
    · rw [q]; exact hgo.2.2.2
    · rw [q]; intro e2; injection e2 with e2; have := hgo.1; omega

end
/-- 'append' in a region that draws its order, and where the new row lies. -/
theorem step_app {P : Program} {t e : TypeId} {z : Value} {size bytes : Nat} (T : ElemTy P t e z size bytes) (w : World) {ops : Array Oper} {o : Oper} {a : Act} {K : Act → World → Prop} {Q : Exit → Act → World → Prop} {E : Prop} (hgd : o.guard = none) (s x : Operand)
    (ho : o.op = .call { callee := .builtin .append, args := #[s, x], argTypes := #[t, t] }) (base : Nat)
    (v : Value) (n : Nat) (xs : List Value) (hs : a.eval s = v) (hown : w.ownsRow base e size v n xs) (A : Option Addr) (m c : Nat) (news : List Value) (hx : a.eval x = .slice A m c) (hr : Rd w size A m news) (h1 : ∀ u ∈ news, u.oneCell' = true)
    (hbytes : (n + m) * bytes ≤ 140737488355328) (hbase : base ≤ w.heap.size)
    (h : ∀ v' w', w'.ownsRow base e size v' (n + m) (xs ++ news) → w.grownBy w' v.ownBlock → (v'.ownBlock = v.ownBlock ∨ v'.ownBlock = some w.heap.size) → K (a.put o.dst v') w') :
    if Region.wanted o (yielded ops a.tmps) = true then Oper.wp P o a w K Q else E := by
  have hw : Region.wanted o (yielded ops a.tmps) = true := by simp [Region.wanted, hgd]
  rw [if_pos hw]
  obtain ⟨v', w', hrun, h2, h3, h4⟩ := run_app T w o.type base v n xs hown A m c news hr h1 hbytes hbase
  unfold Oper.wp execOp
  simp only [ho, resolve, invoke, builtin, Sem.run_bind, Sem.run_pure, Result.andThen_ok, List.map_toArray, List.map_cons, List.map_nil, hs, hx, hrun]
  exact h v' w' h2 h3 h4

/-- Where the meeting of a type stands: its copy lies in the block g. -/
structure MS (w : World) (d : TyD) (N g : Nat) (vT0 vR0 : Value) (T R : List Int) (vT vR : Value) (wx : World) : Prop where
  nm : NM wx N T R vT vR
  c : d.At wx g 0
  o : Oth N wx vT vR g
  b : WN N w vT0 vR0 wx vT vR
section
variable {w wx wy : World} {d : TyD} {N g : Nat} {vT0 vR0 vT vR vT1 vR1 : Value} {T R T1 R1 : List Int}
theorem MS.start (h : NM w N T R vT vR) : MS w d N w.heap.size vT vR T R vT vR (w.alloc (.cells d.arr 25)) :=
  have hb : Below w.heap.size w (w.alloc (.cells d.arr 25)) := (Below.refl _ _).alloc (Nat.le_refl _) _
  ⟨h.below hb, box_at w d, h.new _, WN.below (Nat.le_of_lt h.lt) hb⟩
theorem MS.below (h : MS w d N g vT0 vR0 T R vT vR wx) (hb : Below wx.heap.size wx wy) : MS w d N g vT0 vR0 T R vT vR wy :=
  have k : WN N wx vT vR wy vT vR := WN.below (Nat.le_of_lt h.nm.lt) hb
  ⟨h.nm.below hb, h.c.oth (k.oth g h.o).2, (k.oth g h.o).1, h.b.trans k⟩
theorem MS.call (h : MS w d N g vT0 vR0 T R vT vR wx) (n : NM wy N T1 R1 vT1 vR1) (k : WN N wx vT vR wy vT1 vR1) : MS w d N g vT0 vR0 T1 R1 vT1 vR1 wy :=
  ⟨n, h.c.oth (k.oth g h.o).2, (k.oth g h.o).1, h.b.trans k⟩
end
theorem one_int (x : Int) : ∀ u ∈ (#[Value.int .i64 x] : Array Value).toList, u.oneCell' = true := by
  intro u hu; simp at hu; subst hu; rfl
end Go.Proofs.YtklandpagieapaaDoor

namespace Go.Proofs.YtklandpagieapaaDoor
open Go.ChangeShapes Go.WideShapes Go.ChangeAt Go.RowKit Go.Sort
set_option linter.unusedVariables false
set_option linter.unusedSimpArgs false

abbrev inR (n : Int) : Prop := -9223372036854775808 ≤ n ∧ n ≤ 9223372036854775807
theorem itoa_len (n : Int) (h : inR n) : (Lib.itoa n).length ≤ 30 := by
  have := Lib.itoa_length_le n h.1 h.2; omega
theorem atF_range (l : List Int) (n : Int) : ∀ k : Nat, -1 ≤ atF l n k ∧ atF l n k ≤ (k + l.length : Nat) := by
  induction l with
  | nil => intro k; simp only [atF, List.length_nil]; omega
  | cons x l ih =>
    intro k
    unfold atF
    split
    · simp only [List.length_cons]; omega
    · have := ih (k + 1); simp only [List.length_cons]; omega
theorem atF_inR {l : List Int} (h : l.length ≤ 4000000) (n : Int) : inR (atF l n 0) := by
  have := atF_range l n 0
  constructor <;> omega

/-- In brackets. -/
def brkT (b : Bool) (s : Str) : Str := if b = true then [40] ++ s ++ [41] else s
theorem brkT_len (b : Bool) (s : Str) : (brkT b s).length ≤ s.length + 2 := by unfold brkT; split <;> simp <;> omega
/-- A row's labels and parts, so many of them. -/
def rowTo (ls ps : List Str) : Nat → Str
  | 0 => []
  | k + 1 => rowTo ls ps k ++ ((if k = 0 then [] else [44, 32]) ++ (ls.getD k [] ++ [32, 58, 32] ++ ps.getD k []))
def TyD.tailTx (d : TyD) (R : List Int) : Str := if 0 ≤ d.tail then (if 0 < d.labels.length then [32, 124, 32] else []) ++ ([46, 46] ++ Lib.itoa (atF R d.tail 0)) else []
def TyD.rowTx (d : TyD) (R : List Int) (ps : List Str) : Str := rowTo d.labels ps d.labels.length ++ d.tailTx R
def TyD.txB (d : TyD) (T R : List Int) (ps : List Str) (ks : List Int) : Str :=
  if d.kind = 1 then [105, 110, 116] else
  if d.kind = 2 then [116, 101, 120, 116] else
  if d.kind = 7 then [39] ++ Lib.itoa (atF T d.n 0) else
  if d.kind = 6 then [114, 101, 102, 32] ++ brkT (decide (ks.getD 0 0 = 3) || decide (ks.getD 0 0 = 6)) (ps.getD 0 []) else
  if d.kind = 3 then brkT (decide (ks.getD 0 0 = 3)) (ps.getD 0 []) ++ [32, 45, 62, 32] ++ ps.getD 1 [] else
  if d.kind = 4 then [123] ++ d.rowTx R ps ++ [125] else [60] ++ d.rowTx R ps ++ [62]
def kdL : List Ty → List Int
  | [] => []
  | x :: l => x.d.kind :: kdL l
mutual
/-- A type's text. -/
def Ty.tx (T R : List Int) : Ty → Str
  | .mk d l => d.txB T R (txL T R l) (kdL l)
def txL (T R : List Int) : List Ty → List Str
  | [] => []
  | x :: l => x.tx T R :: txL T R l
end
theorem txL_len (T R : List Int) : ∀ l : List Ty, (txL T R l).length = l.length
  | [] => rfl
  | x :: l => by simp [txL, txL_len T R l]
theorem txL_at (T R : List Int) : ∀ (l : List Ty) (k : Nat) (h : k < l.length), (txL T R l).getD k [] = (l[k]).tx T R
  | x :: l, 0, _ => rfl
  | x :: l, k + 1, h => by simp only [txL, List.getD_cons_succ, List.getElem_cons_succ]; exact txL_at T R l k (by simpa using h)
theorem kdL_at : ∀ (l : List Ty) (k : Nat) (h : k < l.length), (kdL l).getD k 0 = (l[k]).d.kind
  | x :: l, 0, _ => rfl
  | x :: l, k + 1, h => by simp only [kdL, List.getD_cons_succ, List.getElem_cons_succ]; exact kdL_at l k (by simpa using h)
/-- How much its labels weigh. -/
def labW : List Str → Nat
  | [] => 0
  | s :: l => s.length + 5 + labW l
mutual
/-- How long a type's text is, at most. -/
def Ty.wt : Ty → Nat
  | .mk d l => 50 + labW d.labels + wtL l
def wtL : List Ty → Nat
  | [] => 0
  | x :: l => x.wt + wtL l
end
def sumLen : List Str → Nat
  | [] => 0
  | s :: l => s.length + sumLen l
theorem labW_snoc : ∀ (l : List Str) (s : Str), labW (l ++ [s]) = labW l + (s.length + 5)
  | [], s => by simp [labW]
  | x :: l, s => by simp only [List.cons_append, labW, labW_snoc l s]; omega
theorem sumLen_snoc : ∀ (l : List Str) (s : Str), sumLen (l ++ [s]) = sumLen l + s.length
  | [], s => by simp [sumLen]
  | x :: l, s => by simp only [List.cons_append, sumLen, sumLen_snoc l s]; omega
theorem labW_take (l : List Str) : ∀ k, labW (l.take k) ≤ labW l := by
  induction l with
  | nil => intro k; simp
  | cons x l ih =>
    intro k
    cases k with
    | zero => simp [labW]
    | succ k => simp only [List.take_succ_cons, labW]; have := ih k; omega
theorem sumLen_take (l : List Str) : ∀ k, sumLen (l.take k) ≤ sumLen l := by
  induction l with
  | nil => intro k; simp
  | cons x l ih =>
    intro k
    cases k with
    | zero => simp [sumLen]
    | succ k => simp only [List.take_succ_cons, sumLen]; have := ih k; omega
theorem getD_len_take (l : List Str) (k : Nat) : sumLen (l.take k) + (l.getD k []).length = sumLen (l.take (k + 1)) := by
  rcases Nat.lt_or_ge k l.length with h | h
  · rw [List.take_succ_eq_append_getElem h, sumLen_snoc, List.getD_eq_getElem?_getD, List.getElem?_eq_getElem h]; rfl
  · rw [List.take_of_length_le h, List.take_of_length_le (by omega), List.getD_eq_getElem?_getD, List.getElem?_eq_none h]; rfl
theorem rowTo_len (ls ps : List Str) : ∀ k, k ≤ ls.length → (rowTo ls ps k).length ≤ labW (ls.take k) + sumLen (ps.take k)
  | 0, _ => by simp [rowTo]
  | k + 1, h => by
    have h1 := rowTo_len ls ps k (by omega)
    have h2 := getD_len_take ps k
    have h3 : labW (ls.take (k + 1)) = labW (ls.take k) + ((ls.getD k []).length + 5) := by
      rw [List.take_succ_eq_append_getElem (show k < ls.length by omega), labW_snoc, List.getD_eq_getElem?_getD, List.getElem?_eq_getElem (show k < ls.length by omega)]; rfl
    unfold rowTo
    simp only [List.length_append, List.length_cons, List.length_nil]
    have h4 : (if k = 0 then ([] : Str) else [44, 32]).length ≤ 2 := by split <;> simp
    omega
theorem tailTx_len (d : TyD) (R : List Int) (hR : R.length ≤ 4000000) : (d.tailTx R).length ≤ 35 := by
  unfold TyD.tailTx
  split
  · have h1 := itoa_len _ (atF_inR hR d.tail)
    have h2 : (if 0 < d.labels.length then ([32, 124, 32] : Str) else []).length ≤ 3 := by split <;> simp
    simp only [List.length_append, List.length_cons, List.length_nil]
    omega
  · simp
theorem rowTx_len (d : TyD) (R : List Int) (ps : List Str) (hR : R.length ≤ 4000000) : (d.rowTx R ps).length ≤ labW d.labels + sumLen ps + 35 := by
  unfold TyD.rowTx
  have h1 := rowTo_len d.labels ps d.labels.length (Nat.le_refl _)
  have h2 := sumLen_take ps d.labels.length
  have h3 := tailTx_len d R hR
  rw [List.take_length] at h1
  rw [List.length_append]
  omega
theorem getD_le (l : List Str) (k : Nat) : (l.getD k []).length ≤ sumLen l := by
  have h1 := getD_len_take l k
  have h2 := sumLen_take l (k + 1)
  omega
theorem getD_le2 (l : List Str) : (l.getD 0 []).length + (l.getD 1 []).length ≤ sumLen l := by
  have h1 : sumLen (l.take 0) + (l.getD 0 []).length = sumLen (l.take 1) := getD_len_take l 0
  have h2 : sumLen (l.take 1) + (l.getD 1 []).length = sumLen (l.take 2) := getD_len_take l 1
  have h3 := sumLen_take l 2
  omega
mutual
theorem tx_len (T R : List Int) (hT : T.length ≤ 4000000) (hR : R.length ≤ 4000000) : ∀ t : Ty, (t.tx T R).length + 2 ≤ t.wt
  | .mk d l => by
    unfold Ty.tx Ty.wt
    have hs := sumTx_len T R hT hR l
    have h1 := getD_le (txL T R l) 0
    have h2 := getD_le2 (txL T R l)
    have h3 := rowTx_len d R (txL T R l) hR
    have h4 := itoa_len _ (atF_inR hT d.n)
    have h5 := brkT_len (decide ((kdL l).getD 0 0 = 3) || decide ((kdL l).getD 0 0 = 6)) ((txL T R l).getD 0 [])
    have h6 := brkT_len (decide ((kdL l).getD 0 0 = 3)) ((txL T R l).getD 0 [])
    unfold TyD.txB
    repeat' split
    all_goals simp only [List.length_append, List.length_cons, List.length_nil]
    all_goals omega
theorem sumTx_len (T R : List Int) (hT : T.length ≤ 4000000) (hR : R.length ≤ 4000000) : ∀ l : List Ty, sumLen (txL T R l) ≤ wtL l
  | [] => by simp [txL, sumLen]
  | x :: l => by
    have h1 := tx_len T R hT hR x
    have h2 := sumTx_len T R hT hR l
    simp only [txL, sumLen, wtL]
    omega
end
theorem wtL_mem : ∀ (l : List Ty) (x : Ty), x ∈ l → x.wt ≤ wtL l
  | y :: l, x, h => by
    simp only [wtL]
    rcases List.mem_cons.1 h with rfl | h
    · omega
    · have := wtL_mem l x h; omega
/-- The part at a place, with what stands ahead of it. -/
theorem wtL_at (T R : List Int) (hT : T.length ≤ 4000000) (hR : R.length ≤ 4000000) : ∀ (l : List Ty) (k : Nat) (h : k < l.length), sumLen ((txL T R l).take k) + (l[k]).wt ≤ wtL l
  | x :: l, 0, _ => by simp [sumLen, wtL]
  | x :: l, k + 1, h => by
    have h1 := wtL_at T R hT hR l k (by simpa using h)
    have h2 := tx_len T R hT hR x
    simp only [txL, List.take_succ_cons, sumLen, wtL, List.getElem_cons_succ]
    omega
mutual
theorem nodes_wt : ∀ t : Ty, 50 * t.nodes ≤ t.wt
  | .mk d l => by
    unfold Ty.nodes Ty.wt
    have := nodesL_wt l
    omega
theorem nodesL_wt : ∀ l : List Ty, 50 * nodesL l ≤ wtL l
  | [] => by simp [nodesL]
  | x :: l => by
    have h1 := nodes_wt x
    have h2 := nodesL_wt l
    simp only [nodesL, wtL]
    omega
end

/-! ### How much is read of a type -/
def labS : List Str → Nat
  | [] => 0
  | s :: l => s.length + 1 + labS l
mutual
def Ty.sz : Ty → Nat
  | .mk d l => 1 + labS d.labels + szL l
def szL : List Ty → Nat
  | [] => 0
  | x :: l => x.sz + szL l
end
theorem labW_S : ∀ l : List Str, labW l ≤ 5 * labS l
  | [] => by simp [labW]
  | s :: l => by have := labW_S l; simp only [labW, labS]; omega
mutual
theorem wt_sz : ∀ t : Ty, t.wt ≤ 50 * t.sz
  | .mk d l => by
    have h1 := labW_S d.labels
    have h2 := wtL_sz l
    unfold Ty.wt Ty.sz
    omega
theorem wtL_sz : ∀ l : List Ty, wtL l ≤ 50 * szL l
  | [] => by simp [wtL]
  | x :: l => by
    have h1 := wt_sz x
    have h2 := wtL_sz l
    simp only [wtL, szL]
    omega
end
theorem labS_sum : ∀ l : List Str, labS l = (l.map fun s => s.length + 1).sum
  | [] => rfl
  | x :: r => by simp only [labS, List.map_cons, List.sum_cons]; rw [labS_sum r]
theorem szL_sum : ∀ l : List Ty, szL l = (l.map Ty.sz).sum
  | [] => rfl
  | x :: r => by simp only [szL, List.map_cons, List.sum_cons]; rw [szL_sum r]

/-! ### Which variables stand in a type -/
mutual
/-- All its variables are in the lists. -/
def Ty.vin (T R : List Int) : Ty → Prop
  | .mk d l => (d.kind = 7 → d.n ∈ T) ∧ ((d.kind = 4 ∨ d.kind = 5) → 0 ≤ d.tail → d.tail ∈ R) ∧ vinL T R l
def vinL (T R : List Int) : List Ty → Prop
  | [] => True
  | x :: l => x.vin T R ∧ vinL T R l
end
theorem addI_mem (l : List Int) (x : Int) : x ∈ addI l x := by unfold addI; split <;> simp_all
theorem addI_sub (l : List Int) (x : Int) : l ⊆ addI l x := by
  intro y hy
  unfold addI
  split
  · exact hy
  · exact List.mem_append_left _ hy
mutual
theorem vin_mono {T T' R R' : List Int} (hT : T ⊆ T') (hR : R ⊆ R') : ∀ t : Ty, t.vin T R → t.vin T' R'
  | .mk d l, h => by
    unfold Ty.vin at h ⊢
    exact ⟨fun k => hT (h.1 k), fun k q => hR (h.2.1 k q), vinL_mono hT hR l h.2.2⟩
theorem vinL_mono {T T' R R' : List Int} (hT : T ⊆ T') (hR : R ⊆ R') : ∀ l : List Ty, vinL T R l → vinL T' R' l
  | [], _ => trivial
  | x :: l, h => by
    unfold vinL at h ⊢
    exact ⟨vin_mono hT hR x h.1, vinL_mono hT hR l h.2⟩
end
mutual
theorem meetT_sub : ∀ (t : Ty) (T R : List Int), T ⊆ (meetT t T R).1 ∧ R ⊆ (meetT t T R).2
  | .mk d l, T, R => by
    unfold meetT
    have hT : T ⊆ (if d.kind = 7 then addI T d.n else T) := by split; exact addI_sub _ _; exact fun _ h => h
    obtain ⟨h1, h2⟩ := meetTs_sub l (if d.kind = 7 then addI T d.n else T) R
    simp only
    split
    · exact ⟨fun x hx => h1 (hT hx), fun x hx => addI_sub _ _ (h2 hx)⟩
    · exact ⟨fun x hx => h1 (hT hx), h2⟩
theorem meetTs_sub : ∀ (l : List Ty) (T R : List Int), T ⊆ (meetTs l T R).1 ∧ R ⊆ (meetTs l T R).2
  | [], T, R => ⟨fun _ h => h, fun _ h => h⟩
  | x :: l, T, R => by
    unfold meetTs
    obtain ⟨h1, h2⟩ := meetT_sub x T R
    obtain ⟨h3, h4⟩ := meetTs_sub l (meetT x T R).1 (meetT x T R).2
    exact ⟨fun _ h => h3 (h1 h), fun _ h => h4 (h2 h)⟩
end
mutual
theorem meetT_vin : ∀ (t : Ty) (T R : List Int), t.vin (meetT t T R).1 (meetT t T R).2
  | .mk d l, T, R => by
    have hl := meetTs_vin l (if d.kind = 7 then addI T d.n else T) R
    have hs := meetTs_sub l (if d.kind = 7 then addI T d.n else T) R
    unfold meetT
    simp only
    have hn : ∀ {T' : List Int}, (if d.kind = 7 then addI T d.n else T) ⊆ T' → d.kind = 7 → d.n ∈ T' := by
      intro T' h k
      refine h ?_
      rw [if_pos k]
      exact addI_mem _ _
    split
    · unfold Ty.vin
      exact ⟨hn hs.1, fun _ _ => addI_mem _ _, vinL_mono (fun _ h => h) (addI_sub _ _) l hl⟩
    · rename_i hc
      unfold Ty.vin
      exact ⟨hn hs.1, fun k q => absurd ⟨k, q⟩ hc, hl⟩
theorem meetTs_vin : ∀ (l : List Ty) (T R : List Int), vinL (meetTs l T R).1 (meetTs l T R).2 l
  | [], T, R => trivial
  | x :: l, T, R => by
    unfold meetTs vinL
    have h1 := meetT_vin x T R
    have h2 := meetTs_sub l (meetT x T R).1 (meetT x T R).2
    exact ⟨vin_mono h2.1 h2.2 x h1, meetTs_vin l _ _⟩
end
theorem vinL_mem {T R : List Int} : ∀ (l : List Ty) (x : Ty), x ∈ l → vinL T R l → x.vin T R
  | y :: l, x, h, hv => by
    unfold vinL at hv
    rcases List.mem_cons.1 h with rfl | h
    · exact hv.1
    · exact vinL_mem l x h hv.2
end Go.Proofs.YtklandpagieapaaDoor

namespace Go.Proofs.YtklandpagieapaaDoor
open Go.ChangeShapes Go.WideShapes Go.ChangeAt Go.RowKit
set_option linter.unusedVariables false

section
variable {H : Type} {enc : TypeId × Value → H} {P : Program} {W : World} {base : Nat} {sp : Nat → Bool} {held : Bool}

/-- A slice's elements, each read as one of a kind of your own ('cells': its cells; 'good': what the reading says of it); by the slice's one cell. -/
theorem open_row {α : Type} {cells : α → List Value} {good : α → Prop} {t e : TypeId} {size : Nat} (ht : P.underlying t = some (.slice e)) (hC : P.cellsOf e = size) (hsz : ∀ y, (cells y).length = size) (h0 : 0 < size)
    (hel : ∀ (n : Nat) (cs : List Value) (x : DataW H × List MemPlace), DataW.trod enc P W base sp held n e cs = some x → ∃ y, cells y = cs ∧ good y)
    {fuel : Nat} {cs : List Value} {x : DataW H × List MemPlace} (hf : DataW.trod enc P W base sp held fuel t cs = some x) :
    ∃ (A : Option Addr) (n c : Nat) (l : List α), cs = [.slice A n c] ∧ n ≤ c ∧ c ≤ maxLen ∧ l.length = n ∧ Rd W size A n (l.flatMap cells) ∧ (A = none → c = 0) ∧ ∀ y ∈ l, good y := by
  rcases Go.Deep.open_slice ht hf with ⟨hcs, _⟩ | ⟨a, n, c, m, k, D, Pl, hcs, _, hl, hm, hmm, _, hi⟩
  · exact ⟨none, 0, 0, [], hcs, Nat.le_refl _, by simp [maxLen], rfl, Rd.nil _ _ _, fun _ => rfl, fun y hy => by cases hy⟩
  · rw [hC] at hi
    have hlm : n ≤ m := by rw [hmm]; split <;> omega
    have key : ∀ q, q ≤ n → ∃ l : List α, l.length = q ∧ (∀ y ∈ l, good y) ∧ Held W a (l.flatMap cells) := by
      intro q
      induction q with
      | zero => intro _; exact ⟨[], rfl, (fun y hy => by cases hy), (fun j u hu => by simp at hu)⟩
      | succ q ih =>
        intro hq
        obtain ⟨l, hlen, hg, hh⟩ := ih (by omega)
        obtain ⟨cs', hc, htr⟩ := hi q (by omega)
        obtain ⟨y, rfl, hy⟩ := hel _ _ _ htr
        obtain ⟨_, hcl, hat⟩ := World.cells?_some hc
        have hfl : (l.flatMap cells).length = q * size := by
          rw [← hlen]
          clear ih hh hg hlen
          induction l with
          | nil => simp
          | cons z r ih => simp only [List.flatMap_cons, List.length_append, hsz, ih, List.length_cons, Nat.add_mul]; omega
        refine ⟨l ++ [y], by simp [hlen], ?_, ?_⟩
        · intro z hz
          rcases List.mem_append.1 hz with hz | hz
          · exact hg z hz
          · simp at hz; subst hz; exact hy
        · intro j u hu
          simp only [List.flatMap_append, List.flatMap_cons, List.flatMap_nil, List.append_nil] at hu
          rw [List.getElem?_append] at hu
          split at hu
          · exact hh j u hu
          · rename_i hj
            rw [hfl] at hu hj
            have hjs : j - q * size < size := by
              have := (List.getElem?_eq_some_iff.1 hu).1; rw [hsz] at this; omega
            have := hat _ hjs
            rw [add_add, show q * size + (j - q * size) = j from by omega] at this
            rw [this, hu]
    obtain ⟨l, hlen, hg, hh⟩ := key n (Nat.le_refl _)
    refine ⟨some a, n, c, l, hcs, hl, hm, hlen, ⟨?_, fun _ => ⟨a, rfl, hh⟩⟩, (fun h => by cases h), hg⟩
    rw [← hlen]
    clear key hh hg hlen
    induction l with
    | nil => simp
    | cons z r ih => simp only [List.flatMap_cons, List.length_append, hsz, ih, List.length_cons, Nat.add_mul]; omega

theorem weights_mem {P : Program} {e : TypeId} {d : DataW H} : ∀ {ds : List (DataW H)}, d ∈ ds → ∀ q ∈ DataW.weights P e d, q ∈ DataW.weightsAll P e ds
  | [], h, q, hq => by cases h
  | d0 :: ds, h, q, hq => by
    simp only [DataW.weightsAll, List.mem_append]
    rcases List.mem_cons.1 h with rfl | h
    · exact .inl hq
    · exact .inr (weights_mem h q hq)

/-- The same, with how large what is read may be: no slice, no text in it takes more than B bytes. -/
theorem open_rowZ (B : Nat) {α : Type} {cells : α → List Value} {good : α → Prop} {t e : TypeId} {size : Nat} (ht : P.underlying t = some (.slice e)) (hC : P.cellsOf e = size) (hsz : ∀ y, (cells y).length = size) (h0 : 0 < size)
    (hel : ∀ (n : Nat) (cs : List Value) (x : DataW H × List MemPlace), DataW.trod enc P W base sp held n e cs = some x → (∀ q ∈ DataW.weights P e x.1, q ≤ B) → ∃ y, cells y = cs ∧ good y)
    {fuel : Nat} {cs : List Value} {x : DataW H × List MemPlace} (hf : DataW.trod enc P W base sp held fuel t cs = some x) (hB : ∀ q ∈ DataW.weights P t x.1, q ≤ B) :
    ∃ (A : Option Addr) (n c : Nat) (l : List α), cs = [.slice A n c] ∧ n ≤ c ∧ c ≤ maxLen ∧ l.length = n ∧ n * P.bytesOf e ≤ B ∧ Rd W size A n (l.flatMap cells) ∧ (A = none → c = 0) ∧ ∀ y ∈ l, good y := by
  rcases Go.Deep.open_slice ht hf with ⟨hcs, _⟩ | ⟨a, n, c, m, k, D, Pl, hcs, _, hl, hm, hmm, hx, hi⟩
  · exact ⟨none, 0, 0, [], hcs, Nat.le_refl _, by simp [maxLen], rfl, by simp, Rd.nil _ _ _, fun _ => rfl, fun y hy => by cases hy⟩
  · rw [hC] at hi
    rw [hx] at hB
    have hB1 : n * P.bytesOf e ≤ B := by
      refine Nat.le_trans ?_ (hB _ (by simp only [DataW.weights, ht]; exact List.mem_cons_self))
      rw [List.length_map, List.length_map, List.length_range, List.length_range]
      exact Nat.mul_le_mul_right _ (by omega)
    have hB2 : ∀ i, i < n → ∀ q ∈ DataW.weights P e (D i), q ≤ B := by
      intro i hi q hq
      refine hB q ?_
      simp only [DataW.weights, ht]
      exact List.mem_cons_of_mem _ (List.mem_append_left _ (weights_mem (List.mem_map.2 ⟨i, List.mem_range.2 hi, rfl⟩) q hq))
    have hlm : n ≤ m := by rw [hmm]; split <;> omega
    have key : ∀ q, q ≤ n → ∃ l : List α, l.length = q ∧ (∀ y ∈ l, good y) ∧ Held W a (l.flatMap cells) := by
      intro q
      induction q with
      | zero => intro _; exact ⟨[], rfl, (fun y hy => by cases hy), (fun j u hu => by simp at hu)⟩
      | succ q ih =>
        intro hq
        obtain ⟨l, hlen, hg, hh⟩ := ih (by omega)
        obtain ⟨cs', hc, htr⟩ := hi q (by omega)
        obtain ⟨y, rfl, hy⟩ := hel _ _ _ htr (hB2 q (by omega))
        obtain ⟨_, hcl, hat⟩ := World.cells?_some hc
        have hfl : (l.flatMap cells).length = q * size := by
          rw [← hlen]
          clear ih hh hg hlen
          induction l with
          | nil => simp
          | cons z r ih => simp only [List.flatMap_cons, List.length_append, hsz, ih, List.length_cons, Nat.add_mul]; omega
        refine ⟨l ++ [y], by simp [hlen], ?_, ?_⟩
        · intro z hz
          rcases List.mem_append.1 hz with hz | hz
          · exact hg z hz
          · simp at hz; subst hz; exact hy
        · intro j u hu
          simp only [List.flatMap_append, List.flatMap_cons, List.flatMap_nil, List.append_nil] at hu
          rw [List.getElem?_append] at hu
          split at hu
          · exact hh j u hu
          · rename_i hj
            rw [hfl] at hu hj
            have hjs : j - q * size < size := by
              have := (List.getElem?_eq_some_iff.1 hu).1; rw [hsz] at this; omega
            have := hat _ hjs
            rw [add_add, show q * size + (j - q * size) = j from by omega] at this
            rw [this, hu]
    obtain ⟨l, hlen, hg, hh⟩ := key n (Nat.le_refl _)
    refine ⟨some a, n, c, l, hcs, hl, hm, hlen, hB1, ⟨?_, fun _ => ⟨a, rfl, hh⟩⟩, (fun h => by cases h), hg⟩
    rw [← hlen]
    clear key hh hg hlen
    induction l with
    | nil => simp
    | cons z r ih => simp only [List.flatMap_cons, List.length_append, hsz, ih, List.length_cons, Nat.add_mul]; omega

/-- The same of an argument. -/
theorem open_elems {α : Type} {cells : α → List Value} {good : α → Prop} {t e : TypeId} {size : Nat} (ht : P.underlying t = some (.slice e)) (hC : P.cellsOf e = size) (hsz : ∀ y, (cells y).length = size) (h0 : 0 < size)
    (hel : ∀ (n : Nat) (cs : List Value) (x : DataW H × List MemPlace), DataW.trod enc P W base sp held n e cs = some x → ∃ y, cells y = cs ∧ good y)
    {b0 : Nat} {r : Reach} {v : Value} {d : DataW H} {ps : List MemPlace} (hv : Value.okWide P W r b0 t v) (h : DataW.Trod enc P W base sp held t v d ps) :
    ∃ (A : Option Addr) (n c : Nat) (l : List α), v = .slice A n c ∧ n ≤ c ∧ c ≤ maxLen ∧ l.length = n ∧ Rd W size A n (l.flatMap cells) ∧ ∀ y ∈ l, good y := by
  obtain ⟨A, n, c, rfl⟩ := okWide_slice ht hv
  obtain ⟨fuel, hf⟩ := h
  obtain ⟨A', n', c', l, hcs, h1, h2, h3, h4, _, h5⟩ := open_row ht hC hsz h0 hel hf
  simp [Value.cells] at hcs
  obtain ⟨rfl, rfl, rfl⟩ := hcs
  exact ⟨A, n, c, l, rfl, h1, h2, h3, h4, h5⟩
end
end Go.Proofs.YtklandpagieapaaDoor

namespace Go.Proofs.YtklandpagieapaaDoor
open Go.ChangeShapes Go.WideShapes Go.ChangeAt Go.RowKit
set_option linter.unusedVariables false

/-- The cells of bytes. -/
def u8s (l : List UInt8) : List Value := l.map fun b => .int .u8 b.toNat
theorem u8s_length (l : List UInt8) : (u8s l).length = l.length := by simp [u8s]
theorem u8s_append (a b : List UInt8) : u8s (a ++ b) = u8s a ++ u8s b := by simp [u8s]
theorem u8s_one (l : List UInt8) : ∀ u ∈ u8s l, u.oneCell' = true := by
  intro u hu; obtain ⟨_, _, rfl⟩ := List.mem_map.1 hu; rfl
theorem u8s_at (l : List UInt8) (k : Nat) (h : k < l.length) : (u8s l)[k]? = some (.int .u8 l[k].toNat) := by simp [u8s, h]
theorem u8s_cut (l : List UInt8) (lo n : Nat) : ((u8s l).drop (lo * 1)).take (n * 1) = u8s ((l.drop lo).take n) := by simp [u8s, List.map_take, List.map_drop]
theorem u8s_flat (l : List UInt8) : u8s l = l.flatMap fun b => [.int .u8 b.toNat] := by
  induction l with
  | nil => rfl
  | cons x r ih => simp [u8s] at ih ⊢; exact ih
theorem elU8 : ElemTy Tryd.prog 65 5 (.int .u8 0) 1 1 := ⟨Tryd.underlying65, by kernel_rfl, rfl, by decide, by decide⟩
theorem one_u8 (x : Int) : ∀ u ∈ (#[Value.int .u8 x] : Array Value).toList, u.oneCell' = true := by
  intro u hu; simp at hu; subst hu; rfl
theorem two_u8 (x y : Int) : ∀ u ∈ (#[Value.int .u8 x, .int .u8 y] : Array Value).toList, u.oneCell' = true := by
  intro u hu; simp at hu; rcases hu with rfl | rfl <;> rfl
theorem Rd.bytesN {w : World} {A : Option Addr} {n : Nat} {l : List UInt8} (h : Rd w 1 A n (u8s l)) : l.length = n := by have := h.1; rw [u8s_length] at this; omega
theorem Rd.byte {w : World} {A : Option Addr} {n : Nat} {l : List UInt8} (h : Rd w 1 A n (u8s l)) {k : Nat} (hk : k < l.length) : ∃ b o, A = some ⟨b, o, none⟩ ∧ b < w.heap.size ∧ ∀ j (hj : j < l.length), w.cell? ⟨b, o + j, none⟩ = some (.int .u8 l[j].toNat) := by
  obtain ⟨b, o, rfl, hb, hh⟩ := h.base (by rw [u8s_length]; omega)
  exact ⟨b, o, rfl, hb, fun j hj => hh j _ (u8s_at l j hj)⟩
theorem Rd.part {w : World} {b o n : Nat} {l : List UInt8} (h : Rd w 1 (some ⟨b, o, none⟩) n (u8s l)) (k m : Nat) (hm : k + m ≤ l.length) : Rd w 1 (some ⟨b, o + k, none⟩) m (u8s ((l.drop k).take m)) := by
  have hn := h.bytesN
  have h1 := h.cut (lo := k) (hi := k + m) (k := k) (by omega) (by omega) (by omega)
  rw [show k + m - k = m from by omega, u8s_cut] at h1
  have e2 : (some (⟨b, o, none⟩ : Addr)).map (fun x => x.add k) = some ⟨b, o + k, none⟩ := by simp [Addr.add_lit]
  rwa [e2] at h1

theorem conv_bytes {w : World} {A : Option Addr} {l : List UInt8} {n c : Nat} (hn : l.length = n) (h : Rd w 1 A n (u8s l)) : (convert 65 9 (.slice A n c)).run Tryd.prog w = .ok (.string (bstr l)) w := by
  subst hn
  cases A with
  | none =>
    have hl : l = [] := by
      cases l with
      | nil => rfl
      | cons a t => obtain ⟨a, e, _⟩ := h.2 (by simp [u8s]); cases e
    subst hl
    rw [show ([] : List UInt8).length = 0 from rfl, run_convert_bytes_string w _ _ 5 none 0 c Tryd.underlying65 Tryd.underlying5 Tryd.underlying9]
    simp [Conv.bytesToString]
    rfl
  | some a =>
    refine run_convert_bytes_back w _ _ 5 a c l Tryd.underlying65 Tryd.underlying5 Tryd.underlying9 (fun j hj => ?_)
    obtain ⟨a', e, hh⟩ := h.2 (by rw [u8s_length]; omega)
    injection e with e
    subst e
    exact hh j _ (u8s_at l j hj)
theorem conv_part {w : World} {b o n : Nat} {l : List UInt8} (h : Rd w 1 (some ⟨b, o, none⟩) n (u8s l)) (k m c : Nat) (hm : k + m ≤ l.length) : (convert 65 9 (.slice (some ⟨b, o + k, none⟩) m c)).run Tryd.prog w = .ok (.string (bstr ((l.drop k).take m))) w :=
  conv_bytes (by rw [List.length_take, List.length_drop]; omega) (h.part k m hm)

/- Bytes that came in. -/
set_option maxRecDepth 100000 in
theorem open_u8s {H : Type} {enc : TypeId × Value → H} {W : World} {base : Nat} {sp : Nat → Bool} {held : Bool} {b0 : Nat} {r : Reach} {v : Value} {d : DataW H} {ps : List MemPlace}
    (hv : Value.okWide Tryd.prog W r b0 65 v) (h : DataW.Trod enc Tryd.prog W base sp held 65 v d ps) :
    ∃ (A : Option Addr) (n c : Nat) (l : List UInt8), v = .slice A n c ∧ n ≤ c ∧ c ≤ maxLen ∧ n = l.length ∧ Rd W 1 A n (u8s l) := by
  obtain ⟨A, n, c, l, h1, h2, h3, h4, h5, _⟩ := open_elems (α := UInt8) (cells := fun b => [.int .u8 b.toNat]) (good := fun _ => True) Tryd.underlying65 (by kernel_rfl : Tryd.prog.cellsOf 5 = 1) (fun _ => rfl) (by omega)
    (fun n cs x hx => by
      obtain ⟨m, rfl, _, hm⟩ := DataW.trod_int Tryd.underlying5 hx
      have hr : 0 ≤ m ∧ m ≤ 255 := by simpa [Lit.wf, IntKind.min, IntKind.max, IntKind.signed, IntKind.bits] using hm
      refine ⟨UInt8.ofNat m.toNat, ?_, trivial⟩
      simp only [List.cons.injEq, Value.int.injEq, true_and, and_true]
      have : (UInt8.ofNat m.toNat).toNat = m.toNat := by simp; omega
      omega) hv h
  refine ⟨A, n, c, l, h1, h2, h3, h4.symm, ?_⟩
  rw [u8s_flat]; exact h5
end Go.Proofs.YtklandpagieapaaDoor

namespace Go.Proofs.YtklandpagieapaaDoor
open Go.ChangeShapes Go.WideShapes Go.ChangeAt Go.RowKit
set_option linter.unusedVariables false

set_option maxRecDepth 100000 in
theorem open_str {H : Type} {enc : TypeId × Value → H} {W : World} {base : Nat} {sp : Nat → Bool} {held : Bool} {b0 : Nat} {r : Reach} {v : Value} {d : DataW H} {ps : List MemPlace}
    (hv : Value.okWide Tryd.prog W r b0 9 v) (h : DataW.Trod enc Tryd.prog W base sp held 9 v d ps) :
    ∃ s : Str, v = .string (bstr s) ∧ s.length ≤ maxLen := by
  obtain ⟨s, rfl⟩ := okWide_string Tryd.underlying9 hv
  obtain ⟨fuel, hf⟩ := h
  obtain ⟨s', hc, _, hw⟩ := DataW.trod_string Tryd.underlying9 hf
  simp [Value.cells] at hc
  subst hc
  refine ⟨s.data.toList, by rw [bstr_of], ?_⟩
  have e : s.data.toList.length = s.size := by rw [Array.length_toList]; rfl
  rw [e]; exact hw

set_option maxRecDepth 100000 in
theorem open_strs {H : Type} {enc : TypeId × Value → H} {W : World} {base : Nat} {sp : Nat → Bool} {held : Bool} {b0 : Nat} {r : Reach} {v : Value} {d : DataW H} {ps : List MemPlace}
    (hv : Value.okWide Tryd.prog W r b0 23 v) (h : DataW.Trod enc Tryd.prog W base sp held 23 v d ps) :
    ∃ (A : Option Addr) (n c : Nat) (l : List Str), v = .slice A n c ∧ n ≤ c ∧ c ≤ maxLen ∧ Rd W 1 A n (strs l) := by
  obtain ⟨A, n, c, l, h1, h2, h3, h4, h5, _⟩ := open_elems (α := Str) (cells := fun b => [.string (bstr b)]) (good := fun _ => True) Tryd.underlying23 (by kernel_rfl : Tryd.prog.cellsOf 9 = 1) (fun _ => rfl) (by omega)
    (fun n cs x hx => by
      obtain ⟨s, rfl, _, hw⟩ := DataW.trod_string Tryd.underlying9 hx
      exact ⟨s.data.toList, by rw [bstr_of], trivial⟩) hv h
  refine ⟨A, n, c, l, h1, h2, h3, ?_⟩
  have e : strs l = l.flatMap fun b => [.string (bstr b)] := by
    clear h5 h4
    induction l with
    | nil => rfl
    | cons x r ih => simp [strs] at ih ⊢; exact ih
  rw [e]
  exact h5
end Go.Proofs.YtklandpagieapaaDoor

namespace Go.Proofs.YtklandpagieapaaDoor
open Go.ChangeShapes Go.WideShapes Go.ChangeAt Go.RowKit
set_option linter.unusedVariables false
set_option linter.unusedSimpArgs false

abbrev WT : TypeId := 69
abbrev U8 : TypeId := 5
/-- The writer in block b, its pointer p, its bytes bs, its maps' cells m1, m2. -/
structure BA (B b : Nat) (p : Value) (bs : List Value) (m1 m2 : Value) (w : World) : Prop where
  hB : B ≤ b
  st : ∃ v, w.heap[b]? = some (.cells #[p, v, m1, m2] WT (0, 0)) ∧ w.ownsRow B U8 1 v bs.length bs ∧ v.ownBlock ≠ some b
/-- The writer in block b holds a text. -/
def Wd (B b : Nat) (m1 m2 : Value) (s : Str) (w : World) : Prop := BA B b (.pointer none) (u8s s) m1 m2 w ∨ BA B b (.pointer (some ⟨b, 0, none⟩)) (u8s s) m1 m2 w
/-- What is neither a writer's row nor a row of bytes stays. -/
def Keeps (w w' : World) : Prop := ∀ (k : Nat) (o : Obj), w.heap[k]? = some o → (∀ (cs : Array Value) (T : TypeId) (fr : Nat × Nat), o = .cells cs T fr → T ≠ WT ∧ T ≠ U8) → w'.heap[k]? = some o
theorem Keeps.refl (w : World) : Keeps w w := fun _ _ h _ => h
theorem Keeps.trans {a b c : World} (h : Keeps a b) (k : Keeps b c) : Keeps a c := fun q o hq h1 => k q o (h q o hq h1) h1
theorem lt_of_heap {w : World} {k : Nat} {o : Obj} (h : w.heap[k]? = some o) : k < w.heap.size := by
  rcases Nat.lt_or_ge k w.heap.size with h' | h'
  · exact h'
  · rw [Array.getElem?_eq_none h'] at h; cases h
theorem Keeps.of_below {w w' : World} (h : RowKit.Below w.heap.size w w') : Keeps w w' := fun k o hk _ => by rw [h.block k (lt_of_heap hk)]; exact hk
section
variable {B b : Nat} {p : Value} {bs : List Value} {m1 m2 : Value} {w w' : World} {s : Str}
theorem BA.cell0 (h : BA B b p bs m1 m2 w) : w.cell? ⟨b, 0, none⟩ = some p := by
  obtain ⟨_, v, hb, _⟩ := h
  simp [World.cell?, hb]
theorem BA.shape (h : BA B b p bs m1 m2 w) : w.shape? b = some (WT, 4) := by
  obtain ⟨_, v, hb, _⟩ := h
  simp [World.shape?, hb]
theorem BA.lt (h : BA B b p bs m1 m2 w) : b < w.heap.size := by
  obtain ⟨_, v, hb, _⟩ := h
  exact lt_of_heap hb
theorem BA.frozen0 (h : BA B b p bs m1 m2 w) : w.frozen? ⟨b, 0, none⟩ = false := by
  obtain ⟨_, v, hb, _⟩ := h
  simp [World.frozen?, hb]
theorem BA.used (h : BA B b p bs m1 m2 w) (q : Value) : BA B b q bs m1 m2 (w.setCell ⟨b, 0, none⟩ q) := by
  obtain ⟨hB, v, hb, hown, hne⟩ := h
  refine ⟨hB, v, ?_, ?_, hne⟩
  · simp [World.setCell, Array.getElem?_modify, hb]
  · refine hown.kept (row := some b) ⟨rfl, rfl, rfl, by simp [World.setCell], fun k _ hk => Below.heap_setCell _ _ _ _ (fun e => hk (by simp [e]))⟩ ?_
    exact Or.inr hne
theorem BA.put {v v' : Value} {bs' : List Value} (hB : B ≤ b) (hb : w.heap[b]? = some (.cells #[p, v, m1, m2] WT (0, 0))) (hown : w.ownsRow B U8 1 v' bs'.length bs') (hTe : WT ≠ U8) : BA B b p bs' m1 m2 (w.setCell ⟨b, 1, none⟩ v') := by
  have hne := Lib.ownBlock_ne hown hb hTe
  refine ⟨hB, v', ?_, ?_, hne⟩
  · simp [World.setCell, Array.getElem?_modify, hb]
  · exact hown.kept (row := some b) ⟨rfl, rfl, rfl, by simp [World.setCell], fun k _ hk => Below.heap_setCell _ _ _ _ (fun e => hk (by simp [e]))⟩ (Or.inr hne)
theorem BA.below (h : BA B b p bs m1 m2 w) (hb : RowKit.Below w.heap.size w w') : BA B b p bs m1 m2 w' := by
  obtain ⟨hB, v, hk, hown, hne⟩ := h
  refine ⟨hB, v, by rw [hb.block b (lt_of_heap hk)]; exact hk, ?_, hne⟩
  obtain ⟨h1, h2⟩ := hown
  refine ⟨h1, ?_⟩
  rcases h2 with h2 | ⟨g, cap, cur, hv, hg, hgc, r⟩
  · exact .inl h2
  · exact .inr ⟨g, cap, cur, hv, hg, by rw [hb.block g (lt_of_heap hgc)]; exact hgc, r⟩
theorem Wd.lt (h : Wd B b m1 m2 s w) : b < w.heap.size := by
  rcases h with h | h <;> exact h.lt
theorem Wd.ge (h : Wd B b m1 m2 s w) : B ≤ b := by
  rcases h with h | h <;> exact h.1
theorem Wd.below (h : Wd B b m1 m2 s w) (hb : RowKit.Below w.heap.size w w') : Wd B b m1 m2 s w' := by
  rcases h with h | h
  · exact .inl (h.below hb)
  · exact .inr (h.below hb)
/-- The maps' cells. -/
theorem Wd.maps (h : Wd B b m1 m2 s w) : w.cell? ⟨b, 2, none⟩ = some m1 ∧ w.cell? ⟨b, 3, none⟩ = some m2 := by
  rcases h with h | h <;>
  · obtain ⟨_, v, hb, _⟩ := h
    exact ⟨by rw [Lib.cell_of_heap hb]; rfl, by rw [Lib.cell_of_heap hb]; rfl⟩
end
theorem wt_ne : WT ≠ U8 := by decide

set_option maxHeartbeats 1000000 in
set_option maxRecDepth 100000 in
theorem copyUsed_any (b : Nat) (w : World) (h0 : w.cell? ⟨b, 0, none⟩ = some (.pointer (some ⟨b, 0, none⟩))) :
    Calls Tryd.prog 55 #[.pointer (some ⟨b, 0, none⟩)] w fun e w' => e = .returned (.tuple #[]) ∧ w' = w := by
  obtain ⟨j, hj, hjs⟩ : ∃ j, Tryd.prog.info? 67 = some j ∧ j.size = 2 := Option.map_eq_some_iff.1 (show (Tryd.prog.info? 67).map (·.size) = some 2 by kernel_rfl)
  have hN := Lib.run_neq_ptr_same (P := Tryd.prog) w ⟨b, 0, none⟩ Tryd.underlying64 hj
  go_enter Tryd.func55, Tryd.ntmps55
  go_wp2
  go_end0
  exact ⟨rfl, rfl⟩

set_option maxHeartbeats 1000000 in
set_option maxRecDepth 100000 in
theorem copyFresh_any (b : Nat) (w : World) (h0 : w.cell? ⟨b, 0, none⟩ = some (.pointer none)) (hsh : w.shape? b = some (WT, 4)) (hfz : w.frozen? ⟨b, 0, none⟩ = false) :
    Calls Tryd.prog 55 #[.pointer (some ⟨b, 0, none⟩)] w fun e w' => e = .returned (.tuple #[]) ∧ w' = w.setCell ⟨b, 0, none⟩ (.pointer (some ⟨b, 0, none⟩)) := by
  obtain ⟨j, hj, hjs⟩ : ∃ j, Tryd.prog.info? 67 = some j ∧ j.size = 2 := Option.map_eq_some_iff.1 (show (Tryd.prog.info? 67).map (·.size) = some 2 by kernel_rfl)
  have hU := Lib.run_to_unsafe (P := Tryd.prog) w (src := 64) (dst := 105) ⟨b, 0, none⟩ Tryd.underlying64 Tryd.underlying105 hj (by rw [hjs]; decide) hsh (Nat.zero_lt_succ 3)
  have hF := Lib.run_from_unsafe (P := Tryd.prog) w (src := 105) (dst := 64) ⟨b, 0, none⟩ Tryd.underlying105 Tryd.underlying64 hj hsh (by kernel_rfl)
  have hE := run_callFunc_extern (P := Tryd.prog) (w := w) (args := #[.pointer (some ⟨b, 0, none⟩)]) Tryd.func63 (by kernel_rfl) (by kernel_rfl) (by kernel_rfl) (e := Extern.AbiNoEscape.same) (by kernel_rfl)
  rw [Lib.run_noEscape] at hE
  go_enter Tryd.func55, Tryd.ntmps55
  go_wp2
  go_end0
  exact ⟨rfl, rfl⟩

theorem copy_any (B b : Nat) (m1 m2 : Value) (bs : List Value) (w : World) (h : BA B b (.pointer none) bs m1 m2 w ∨ BA B b (.pointer (some ⟨b, 0, none⟩)) bs m1 m2 w) :
    Calls Tryd.prog 55 #[.pointer (some ⟨b, 0, none⟩)] w fun e w' => e = .returned (.tuple #[]) ∧ BA B b (.pointer (some ⟨b, 0, none⟩)) bs m1 m2 w' ∧ Below B w w' ∧ Keeps w w' := by
  rcases h with h | h
  · refine (copyFresh_any b w h.cell0 h.shape h.frozen0).mono ?_
    rintro e w' ⟨rfl, rfl⟩
    refine ⟨rfl, h.used _, (Below.refl B w).setCell (p := ⟨b, 0, none⟩) h.1 _, ?_⟩
    intro k o hk h1
    have hkb : k ≠ b := by
      rintro rfl
      obtain ⟨_, v, hv, _⟩ := h
      rw [hv] at hk
      injection hk with hk
      exact (h1 _ _ _ hk.symm).1 rfl
    rw [show (w.setCell ⟨b, 0, none⟩ (.pointer (some ⟨b, 0, none⟩))).heap[k]? = w.heap[k]? from Below.heap_setCell _ _ _ _ (by exact hkb)]
    exact hk
  · refine (copyUsed_any b w h.cell0).mono ?_
    rintro e w' ⟨rfl, rfl⟩
    exact ⟨rfl, h, Below.refl B _, Keeps.refl _⟩

theorem u8s_strCells (s : Str) : Lib.strCells (bstr s) = u8s s := by rw [Lib.strCells, bstr_data]; rfl

set_option maxHeartbeats 2000000 in
set_option maxRecDepth 100000 in
theorem write_any (B b : Nat) (m1 m2 : Value) (acc s : Str) (w : World) (h : Wd B b m1 m2 acc w) (hlen : acc.length + s.length ≤ 140737488355328) (hBw : B ≤ w.heap.size) :
    Calls Tryd.prog 49 #[.pointer (some ⟨b, 0, none⟩), .string (bstr s)] w fun e w' => (∃ v, e = .returned v) ∧ Wd B b m1 m2 (acc ++ s) w' ∧ Below B w w' ∧ Keeps w w' := by
  obtain ⟨i0, hi, hz0, hz1, hz2⟩ := info_parts (show (Tryd.prog.info? 5).map (fun i => (i.zero, i.size, i.bytes)) = some (some (.int .u8 0), 1, 1) by kernel_rfl)
  have hsz : (bstr s).size = s.length := bstr_size s
  have HC := Lib.hid (copy_any B b m1 m2 (u8s acc) w h)
  clear h
  go_enter Tryd.func49, Tryd.ntmps49
  go_wp2_with fail
  refine HC.out.mono ?_
  rintro e w1 ⟨rfl, h1, hb1, hk1⟩
  have HK1 := Lib.hid hk1
  clear hk1 HC
  obtain ⟨hB, v, hbk, hown, hne⟩ := h1
  have c0 : w1.cell? ⟨b, 0, none⟩ = some (.pointer (some ⟨b, 0, none⟩)) := by rw [Lib.cell_of_heap hbk]; rfl
  have c1 : w1.cell? ⟨b, 1, none⟩ = some v := by rw [Lib.cell_of_heap hbk]; rfl
  go_wp2_with (at_builtin; refine Lib.wpList_append_own_string _ rfl _ _ 65 9 rfl B U8 i0 Tryd.underlying65 Tryd.underlying9 hi hz0 hz1 hz2 _ _ _ rfl hown (bstr s) rfl ?c3 ?c4 ?c5 ?_)
  case c3 => rw [u8s_length, hsz]; unfold maxLen; omega
  case c4 => rw [u8s_length, hsz]; omega
  case c5 => have := hb1.size; omega
  intro v' w2 hown' hgrow _
  have hlt : b < w1.heap.size := lt_of_heap hbk
  have hb2 : w2.heap[b]? = some (.cells #[.pointer (some ⟨b, 0, none⟩), v, m1, m2] WT (0, 0)) := by
    rw [hgrow.block b hlt (fun e => hne e.symm)]
    exact hbk
  have d0 : w2.cell? ⟨b, 0, none⟩ = some (.pointer (some ⟨b, 0, none⟩)) := by rw [Lib.cell_of_heap hb2]; rfl
  have d1 : w2.cell? ⟨b, 1, none⟩ = some v := by rw [Lib.cell_of_heap hb2]; rfl
  have f1 : w2.frozen? ⟨b, 1, none⟩ = false := Lib.frozen_of_heap hb2 1
  have hK2 : Keeps w1 w2 := by
    intro k o hk ha
    rw [hgrow.block k (lt_of_heap hk) ?_]
    · exact hk
    · intro e
      rcases hown.2 with ⟨rfl, _⟩ | ⟨g, cap, cur, rfl, _, hg, _⟩
      · simp [Value.ownBlock] at e
      · simp only [Value.ownBlock, Option.some.injEq] at e
        subst e
        rw [hg] at hk
        injection hk with hk
        exact (ha _ _ _ hk.symm).2 rfl
  have hK3 : ∀ x, Keeps w2 (w2.setCell ⟨b, 1, none⟩ x) := by
    intro x k o hk ha
    have hkb : k ≠ b := by
      rintro rfl
      rw [hb2] at hk
      injection hk with hk
      exact (ha _ _ _ hk.symm).1 rfl
    rw [show (w2.setCell ⟨b, 1, none⟩ x).heap[k]? = w2.heap[k]? from Below.heap_setCell _ _ _ _ (by exact hkb)]
    exact hk
  have HK := Lib.hid (And.intro hK2 hK3)
  clear hK2 hK3
  obtain ⟨ao, n', cap, rfl⟩ : ∃ ao n' cap, v' = .slice ao n' cap := by
    rcases hown'.2 with ⟨hv, _⟩ | ⟨g, cap, cur, hv, _⟩
    · exact ⟨_, _, _, hv⟩
    · exact ⟨_, _, _, hv⟩
  go_wp2_with fail
  go_returns
  refine ⟨⟨_, rfl⟩, .inr ?_, ?_, (HK1.out.trans HK.out.1).trans (HK.out.2 _)⟩
  · refine BA.put hB hb2 (bs' := u8s (acc ++ s)) ?_ wt_ne
    have e1 : u8s (acc ++ s) = u8s acc ++ Lib.strCells (bstr s) := by rw [u8s_strCells]; simp [u8s]
    rw [e1, List.length_append, Lib.strCells_length]
    rw [hsz]
    exact hown'
  · exact (hb1.grown hgrow (by have := hb1.size; omega) (fun k hk => (hown.lt k hk).1)).setCell (p := ⟨b, 1, none⟩) hB _

theorem flat_snoc (l : List Str) (k : Nat) (hk : k < l.length) : (l.take (k + 1)).flatten = (l.take k).flatten ++ l[k] := by
  rw [List.take_succ_eq_append_getElem hk, List.flatten_append]; simp
theorem flat_take_le (l : List Str) (k : Nat) : (l.take k).flatten.length ≤ l.flatten.length := by
  have : l.flatten = (l.take k).flatten ++ (l.drop k).flatten := by rw [← List.flatten_append, List.take_append_drop]
  rw [this, List.length_append]; omega
set_option maxHeartbeats 1000000 in
set_option maxRecDepth 100000 in
theorem say_any (B b g : Nat) (m1 m2 : Value) (acc : Str) (l : List Str) (fr : Nat × Nat) (w : World) (h : Wd B b m1 m2 acc w) (hlen : acc.length + l.flatten.length ≤ 140737488355328) (hBw : B ≤ w.heap.size) (hl4 : l.length ≤ 100)
    (hg : w.heap[g]? = some (.cells (strs l).toArray 9 fr)) :
    Calls Tryd.prog 38 #[.pointer (some ⟨b, 0, none⟩), .slice (some ⟨g, 0, none⟩) l.length l.length] w fun e w' => e = .returned (.tuple #[]) ∧ Wd B b m1 m2 (acc ++ l.flatten) w' ∧ Below B w w' ∧ Keeps w w' := by
  have H := Lib.hid (And.intro hg (And.intro hlen (And.intro hBw h)))
  clear h hg hBw hlen
  go_enter Tryd.func38, Tryd.ntmps38
  go_wp2_with fail
  go_loopw [8] (fun i wr => ∃ k : Nat, i = .int .i64 k ∧ k ≤ l.length ∧ Wd B b m1 m2 (acc ++ (l.take k).flatten) wr ∧ Below B w wr ∧ Keeps w wr) (fun i _ => l.length - (intOf i).toNat)
  case atStart => exact ⟨0, rfl, Nat.zero_le _, by simpa using H.out.2.2.2, Below.refl _ _, Keeps.refl _⟩
  case round =>
    obtain ⟨k, rfl, hk, hwd, hbr, hkp⟩ := hrel
    have HR := Lib.hid (And.intro hwd (And.intro hbr hkp))
    clear hwd hbr hkp
    by_cases hlt : k < l.length
    · have hgr := HR.out.2.2 g _ H.out.1 (by intro cs T fr e; injection e with _ e _; subst e; exact ⟨by decide, by decide⟩)
      have hc : wr.cell? ⟨g, 0 + k, none⟩ = some (.string (bstr l[k])) := by
        rw [Lib.cell_of_heap hgr, Nat.zero_add]
        simp [strs, hlt]
      rw [Nat.zero_add] at hc
      have HN := Lib.hid (flat_snoc l k hlt)
      have HLE := Lib.hid (flat_take_le l (k + 1))
      obtain ⟨x, hx⟩ : ∃ x, l[k] = x := ⟨_, rfl⟩
      rw [hx] at hc HN
      have HW := Lib.hid (write_any B b m1 m2 (acc ++ (l.take k).flatten) x wr HR.out.1 (by have h1 := HLE.out; have h2 := H.out.2.1; rw [HN.out, List.length_append] at h1; rw [List.length_append]; omega) (Nat.le_trans H.out.2.2.1 HR.out.2.1.size))
      have hki : (k : Int) < (l.length : Int) := by omega
      have hk0 : (0 : Int) ≤ (k : Int) := by omega
      clear hx hgr
      go_wp2_with fail
      refine HW.out.mono ?_
      rintro e w2 ⟨⟨v, rfl⟩, hw2, hb2, hk2⟩
      have H2 := Lib.hid (And.intro hw2 (And.intro (HR.out.2.1.trans hb2) (HR.out.2.2.trans hk2)))
      clear hw2 hb2 hk2 HW hc
      go_wp2_with fail
      go_roundw
      case rel => exact ⟨k + 1, by go_num, hlt, by rw [HN.out, ← List.append_assoc]; exact H2.out.1, H2.out.2.1, H2.out.2.2⟩
      case measure => simp [intOf] <;> omega
    · have hki : ¬ (k : Int) < (l.length : Int) := by omega
      go_wp2_with fail
      go_end0
      exact ⟨rfl, by have := HR.out.1; rwa [List.take_of_length_le (by omega)] at this, HR.out.2.1, HR.out.2.2⟩
/-- A call of 'say' at texts that are laid for it. -/
theorem say_new (B b : Nat) (m1 m2 : Value) (acc : Str) (l : List Str) (w : World) (h : Wd B b m1 m2 acc w) (hlen : acc.length + l.flatten.length ≤ 140737488355328) (hBw : B ≤ w.heap.size) (hl4 : l.length ≤ 100) (n : Nat) (hn : l.length = n) (cs : Array Value) (hcs : (strs l).toArray = cs) :
    Calls Tryd.prog 38 #[.pointer (some ⟨b, 0, none⟩), .slice (some ⟨w.heap.size, 0, none⟩) n n] (w.alloc (.cells cs 9)) fun e w' => e = .returned (.tuple #[]) ∧ Wd B b m1 m2 (acc ++ l.flatten) w' ∧ Below B w w' ∧ Keeps w w' := by
  subst hn
  subst hcs
  have hb : Below w.heap.size w (w.alloc (.cells (strs l).toArray 9)) := (Below.refl _ _).alloc (Nat.le_refl _) _
  refine (say_any B b w.heap.size m1 m2 acc l (0, 0) _ (h.below hb) hlen (Nat.le_trans hBw hb.size) hl4 (Go.heap_alloc_new w _)).mono fun e w' hh => ⟨hh.1, hh.2.1, ?_, ?_⟩
  · exact ((Below.refl _ _).alloc hBw _).trans hh.2.2.1
  · exact (Keeps.of_below hb).trans hh.2.2.2
end Go.Proofs.YtklandpagieapaaDoor

namespace Go.Proofs.YtklandpagieapaaDoor
open Go.ChangeShapes Go.WideShapes Go.ChangeAt Go.RowKit Go.Sort Go.Maps
set_option linter.unusedVariables false
set_option linter.unusedSimpArgs false

theorem lawInt : Keyed Tryd.prog 3 := int_keyed Tryd.underlying3
theorem zeroUnit (w : World) : (zeroValue 77).run Tryd.prog w = .ok (.agg #[]) w := by kernel_rfl

/-- The list's cell lies in the block B, the map in the next, the map's cell in the next. -/
structure MT (w : World) (B : Nat) (l : List Int) (v : Value) : Prop where
  cl : w.cell? ⟨B, 0, none⟩ = some v
  fl : w.frozen? ⟨B, 0, none⟩ = false
  cm : w.cell? ⟨B + 2, 0, none⟩ = some (.map (some (B + 1)))
  own : w.ownsRow (B + 3) 3 1 v l.length (i64s l)
  mp : ∃ D, w.ownsMap (H := Unit) Tryd.prog 3 unitElem (B + 1) l.length D ∧ ∀ x, (Lit.int .i64 x).wf = true → Maps.has D (.int .i64 x) = decide (x ∈ l)
/-- A block that is another's. -/
def OthM (B : Nat) (w : World) (v : Value) (g : Nat) : Prop := g < w.heap.size ∧ g ≠ B ∧ g ≠ B + 1 ∧ g ≠ B + 2 ∧ some g ≠ v.ownBlock
structure WM (B : Nat) (w : World) (v : Value) (w' : World) (v' : Value) : Prop where
  b : Below B w w'
  oth : ∀ g, OthM B w v g → OthM B w' v' g ∧ w'.heap[g]? = w.heap[g]?
  new : ∀ k, v'.ownBlock = some k → v.ownBlock = some k ∨ w.heap.size ≤ k
section
variable {B : Nat} {w w1 w2 : World} {l : List Int} {v v1 v2 : Value}
theorem MT.lt (h : MT w B l v) : B + 2 < w.heap.size := World.block_lt_of_cell? w _ h.cm
theorem MT.below (h : MT w B l v) (hb : Below w.heap.size w w1) : MT w1 B l v := by
  obtain ⟨D, h1, h2⟩ := h.mp
  have hlt := h.lt
  refine ⟨cell_below hb h.cl, (hb.frozen (p := ⟨B, 0, none⟩) (by show B < _; omega)).trans h.fl, cell_below hb h.cm, own_below h.own hb, D, ?_, h2⟩
  have hlt := h1.lt
  obtain ⟨es, clock, hh, F, hs, hD⟩ := h1
  exact ⟨es, clock, (hb.block (B + 1) hlt).trans hh, F, hs, hD⟩
theorem WM.refl : WM B w v w v := ⟨Below.refl _ _, fun g h => ⟨h, rfl⟩, fun k h => .inl h⟩
theorem WM.trans (h : WM B w v w1 v1) (k : WM B w1 v1 w2 v2) : WM B w v w2 v2 :=
  ⟨h.b.trans k.b, fun g hg => ⟨(k.oth g (h.oth g hg).1).1, (k.oth g (h.oth g hg).1).2.trans (h.oth g hg).2⟩, fun g hg => by
    rcases k.new g hg with q | q
    · exact h.new g q
    · exact .inr (Nat.le_trans h.b.size q)⟩
theorem WM.below (hN : B ≤ w.heap.size) (hb : Below w.heap.size w w1) : WM B w v w1 v :=
  ⟨hb.mono hN, fun g h => ⟨⟨Nat.lt_of_lt_of_le h.1 hb.size, h.2⟩, hb.block g h.1⟩, fun k h => .inl h⟩

theorem MT.add (h : MT w B l v) {x : Int} (hx : x ∉ l) (hwf : (Lit.int .i64 x).wf = true) {o1 o2 : Obj} {w1 w6 : World} {v6 : Value} {D : DataW Unit}
    (hD : ∀ y, (Lit.int .i64 y).wf = true → Maps.has D (.int .i64 y) = decide (y ∈ l)) (hmd : Maps.IsMap D)
    (h1 : w1.ownsMap (H := Unit) Tryd.prog 3 unitElem (B + 1) (l.length + 1) (D.put (.int .i64 x) (.agg []))) (hg1 : (w.alloc o1).grownBy w1 (some (B + 1)))
    (h6 : w6.ownsRow (B + 3) 3 1 v6 (l.length + 1) (i64s l ++ [.int .i64 x])) (hg6 : (w1.alloc o2).grownBy w6 v.ownBlock) (hat : v6.ownBlock = v.ownBlock ∨ v6.ownBlock = some (w1.alloc o2).heap.size) :
    MT (w6.setCell ⟨B, 0, none⟩ v6) B (addI l x) v6 ∧ WM B w v (w6.setCell ⟨B, 0, none⟩ v6) v6 := by
  have hlt := h.lt
  have e : addI l x = l ++ [x] := by unfold addI; rw [if_neg hx]
  have s1 : (w.alloc o1).heap.size ≤ w1.heap.size := hg1.size
  have s2 : (w1.alloc o2).heap.size ≤ w6.heap.size := hg6.size
  rw [World.size_alloc] at s1 s2
  have hnv : ∀ k, k < B + 3 → some k ≠ v.ownBlock := fun k hk e => by have := (h.own.lt k e.symm).1; omega
  -- a block of w that is neither the map's nor the row's
  have key : ∀ g, g < w.heap.size → g ≠ B + 1 → some g ≠ v.ownBlock → w6.heap[g]? = w.heap[g]? := by
    intro g hg hg1' hgv
    have a1 : (w.alloc o1).heap[g]? = w.heap[g]? := Below.heap_alloc w o1 g hg
    have a2 : w1.heap[g]? = (w.alloc o1).heap[g]? := hg1.block g (by rw [World.size_alloc]; omega) (by intro h'; injection h' with h'; exact hg1' h')
    have a3 : (w1.alloc o2).heap[g]? = w1.heap[g]? := Below.heap_alloc w1 o2 g (by omega)
    have a4 : w6.heap[g]? = (w1.alloc o2).heap[g]? := hg6.block g (by rw [World.size_alloc]; omega) hgv
    exact a4.trans (a3.trans (a2.trans a1))
  have kB := key B (by omega) (by omega) (hnv B (by omega))
  have kC := key (B + 2) (by omega) (by omega) (hnv (B + 2) (by omega))
  have g0 : (w6.setCell ⟨B, 0, none⟩ v6).cell? ⟨B, 0, none⟩ = some v6 := World.cell?_setCell_same _ _ _ ((World.cell?_of_block (a := ⟨B, 0, none⟩) kB).trans h.cl)
  have g1 : (w6.setCell ⟨B, 0, none⟩ v6).cell? ⟨B + 2, 0, none⟩ = some (.map (some (B + 1))) := by
    rw [World.cell?_setCell_other]
    · exact (World.cell?_of_block (a := ⟨B + 2, 0, none⟩) kC).trans h.cm
    · intro h'; injection h' with h' _ _; omega
  have g2 : (w6.setCell ⟨B, 0, none⟩ v6).frozen? ⟨B, 0, none⟩ = false := by rw [World.frozen?_setCell]; exact (World.frozen?_of_block (a := ⟨B, 0, none⟩) kB).trans h.fl
  have hm6 : w6.heap[B + 1]? = w1.heap[B + 1]? :=
    (hg6.block (B + 1) (by rw [World.size_alloc]; omega) (hnv (B + 1) (by omega))).trans (Below.heap_alloc w1 o2 (B + 1) (by omega))
  refine ⟨⟨g0, g2, g1, ?_, D.put (.int .i64 x) (.agg []), ?_, ?_⟩, ⟨?_, ?_, ?_⟩⟩
  · rw [e, i64s_append, List.length_append]
    exact ownsRow_setCell_below h6 (by show B < _; omega) _
  · rw [e, List.length_append]
    obtain ⟨es, clock, hh, F, hs, hDD⟩ := h1
    exact ⟨es, clock, ((Below.heap_setCell w6 _ _ (B + 1) (by show B + 1 ≠ B; omega)).trans hm6).trans hh, F, hs, hDD⟩
  · intro y hy
    rw [e]
    by_cases hyx : y = x
    · subst hyx
      rw [has_put_same hmd (lawInt.key (keyOf_int_mk Tryd.underlying3 hy))]
      simp
    · rw [has_put_other (by intro h'; injection h' with _ h'; exact hyx h'), hD y hy]
      simp [hyx]
  · refine ⟨hg6.os.trans hg1.os, hg6.tape.trans hg1.tape, hg6.output.trans hg1.output, ?_, fun k hk => ?_⟩
    · rw [World.size_setCell]; omega
    · exact (Below.heap_setCell w6 _ _ k (Nat.ne_of_lt hk)).trans (key k (by omega) (by omega) (hnv k (by omega)))
  · intro g hgo
    obtain ⟨q1, q2, q3, q4, q5⟩ := hgo
    refine ⟨⟨by rw [World.size_setCell]; omega, q2, q3, q4, ?_⟩, (Below.heap_setCell w6 _ _ g q2).trans (key g q1 q3 q5)⟩
    rcases hat with q | q
    · rw [q]; exact q5
    · rw [q, World.size_alloc]; intro e2; injection e2 with e2; omega
  · intro k hk
    rcases hat with q | q
    · exact .inl (q ▸ hk)
    · rw [q, World.size_alloc] at hk; injection hk with hk; right; omega
end

/-- What stands behind the map's store: the list's cell. -/
theorem MT.store {w w1 : World} {B : Nat} {l : List Int} {v : Value} (h : MT w B l v) {o1 : Obj} (hg : (w.alloc o1).grownBy w1 (some (B + 1))) :
    w1.cell? ⟨B, 0, none⟩ = some v ∧ w1.frozen? ⟨B, 0, none⟩ = false ∧ w1.ownsRow (B + 3) 3 1 v l.length (i64s l) ∧ B + 3 ≤ w1.heap.size := by
  have hlt := h.lt
  have s1 : (w.alloc o1).heap.size ≤ w1.heap.size := hg.size
  rw [World.size_alloc] at s1
  have hb : w1.heap[B]? = w.heap[B]? := (hg.block B (by rw [World.size_alloc]; omega) (by intro h'; injection h' with h'; omega)).trans (Below.heap_alloc w o1 B (by omega))
  refine ⟨(World.cell?_of_block (a := ⟨B, 0, none⟩) hb).trans h.cl, (World.frozen?_of_block (a := ⟨B, 0, none⟩) hb).trans h.fl, (h.own.alloc o1).kept hg (.inr ?_), by omega⟩
  intro h'
  have := (h.own.lt _ h').1
  omega
theorem mt_far {w1 w6 : World} {B n : Nat} {v x : Value} {xs : List Value} {o2 : Obj} (hc : w1.cell? ⟨B, 0, none⟩ = some v) (hf : w1.frozen? ⟨B, 0, none⟩ = false) (hr : w1.ownsRow (B + 3) 3 1 x n xs) (hg : (w1.alloc o2).grownBy w6 x.ownBlock) :
    w6.cell? ⟨B, 0, none⟩ = some v ∧ w6.frozen? ⟨B, 0, none⟩ = false := by
  have hlt : B < w1.heap.size := World.block_lt_of_cell? w1 _ hc
  have hb : w6.heap[B]? = w1.heap[B]? := (hg.block B (by rw [World.size_alloc]; omega) (by intro h'; have := (hr.lt _ h'.symm).1; omega)).trans (Below.heap_alloc w1 o2 B hlt)
  exact ⟨(World.cell?_of_block (a := ⟨B, 0, none⟩) hb).trans hc, (World.frozen?_of_block (a := ⟨B, 0, none⟩) hb).trans hf⟩

set_option maxRecDepth 100000 in
set_option maxHeartbeats 1000000 in
theorem meets_any (B : Nat) (l : List Int) (v : Value) (n : Int) (w : World) (h : MT w B l v) (hwf : (Lit.int .i64 n).wf = true) (hl : l.length ≤ 4000000) :
    Calls Tryd.prog 35 #[.int .i64 n, .pointer (some ⟨B + 2, 0, none⟩), .pointer (some ⟨B, 0, none⟩)] w fun e w' => e = .returned (.tuple #[]) ∧ ∃ v', MT w' B (addI l n) v' ∧ WM B w v w' v' := by
  have HM := Lib.hid h
  have hkey : keyOf Tryd.prog 3 (.int .i64 n) = some (.int .i64 n) := keyOf_int_mk Tryd.underlying3 hwf
  obtain ⟨D, hown, hD⟩ := h.mp
  have c2 := h.cm
  have c2b : (w.alloc (.cells #[] 77)).cell? ⟨B + 2, 0, none⟩ = _ := cell_alloc h.cm
  have HO := Lib.hid (And.intro hown hD)
  by_cases hmem : n ∈ l
  · have hh : Maps.has D (.int .i64 n) = true := by rw [hD n hwf]; exact decide_eq_true hmem
    have HE := Lib.hid (show addI l n = l by unfold addI; rw [if_pos hmem])
    clear hown hD hmem h hwf
    go_enter Tryd.func35, Tryd.ntmps35
    go_wp2_with (first
      | (at_lookup; refine wpList_lookup_own_unit _ rfl _ _ 76 rfl 3 77 lawInt Tryd.underlying76 (zeroUnit _) (B + 1) l.length D rfl HO.out.1 _ _ rfl hkey ?_; rw [hh])
      | fail)
    go_returns
    have hb : RowKit.Below w.heap.size w (w.alloc (.cells #[] 77)) := (Below.refl _ _).alloc (Nat.le_refl _) _
    exact ⟨rfl, v, by rw [HE.out]; exact HM.out.below hb, WM.below (by have := HM.out.lt; omega) hb⟩
  · have hh : Maps.has D (.int .i64 n) = false := by rw [hD n hwf]; exact decide_eq_false hmem
    have HX := Lib.hid (And.intro hmem hwf)
    have HS := Lib.hid (And.intro (show (l.length + 1) * 8 ≤ 140737488355328 by omega) (And.intro (show l.length < maxLen by unfold maxLen; omega) h.lt))
    have HIM := Lib.hid (show Maps.IsMap D from hown.isMap)
    have hownA := hown.alloc (.cells #[] 77)
    have HOA := Lib.hid hownA
    obtain ⟨A1, c1, rfl, _⟩ := own_cap h.own
    have HRW := Lib.hid (h.own.alloc (.cells #[] 77))
    have HL0 := Lib.hid (show (w.alloc (.cells #[] 77)).cell? ⟨B, 0, none⟩ = some (.slice A1 l.length c1) from cell_alloc h.cl)
    clear hown hD hmem h hwf hl hownA
    go_enter Tryd.func35, Tryd.ntmps35
    go_wp2_with (first
      | (at_lookup; refine wpList_lookup_own_unit _ rfl _ _ 76 rfl 3 77 lawInt Tryd.underlying76 (zeroUnit _) (B + 1) l.length D rfl HO.out.1 _ _ rfl hkey ?_; rw [hh])
      | (at_mapUpdate; refine wpList_mapUpdate_own _ rfl _ _ _ 76 rfl 3 77 lawInt Tryd.underlying76 (unitElem (H := Unit)) (B + 1) l.length D rfl HOA.out HS.out.2.1 _ _ (.int .i64 n) rfl rfl hkey (.agg []) [] unitElem_mk ?_; intro w1 hown1 hgrow1; obtain ⟨l1, f1, r1, z1⟩ := HM.out.store hgrow1; have HW1 := Lib.hid (And.intro hown1 hgrow1); have HR1 := Lib.hid (And.intro r1 z1); have l1b := cell_alloc (o := .cells #[.int .i64 n] 3) l1; clear hown1 hgrow1 r1 z1)
      | (at_builtin; refine wpList_app elInt _ rfl (.tmp 17) (.tmp 19) rfl (B + 3) (.slice A1 l.length c1) l.length (i64s l) rfl (HR1.out.1.alloc _) (some ⟨w1.heap.size, 0, none⟩) 1 1 _ rfl (Rd.lit w1 _ _ rfl) (one_int _) HS.out.1 (by have := HR1.out.2; rw [World.size_alloc]; omega) ?_; intro v6 w6 hown6 hb6 hg6 ho6; obtain ⟨l6, f6⟩ := mt_far l1 f1 HR1.out.1 hg6; obtain ⟨A6, c6, hv6, _⟩ := own_cap hown6; rw [hv6] at hown6 ho6 ⊢; clear hv6; have H6 := Lib.hid (And.intro hown6 (And.intro hg6 ho6)); clear hown6 hg6 ho6 hb6)
      | fail)
    go_returns
    have h9 := HM.out.add HX.out.1 HX.out.2 HO.out.2 HIM.out HW1.out.1 HW1.out.2 H6.out.1 H6.out.2.1 H6.out.2.2
    exact ⟨rfl, _, h9.1, h9.2⟩
def meetFn (B : Nat) : Value := .func (.func 35) #[] #[.pointer (some ⟨B + 2, 0, none⟩), .pointer (some ⟨B, 0, none⟩)]
def tellFn (B : Nat) : Value := .func (.func 36) #[] #[.pointer (some ⟨B, 0, none⟩)]
theorem tells_any (B : Nat) (l : List Int) (v : Value) (w : World) (h : MT w B l v) :
    Calls Tryd.prog 36 #[.pointer (some ⟨B, 0, none⟩)] w fun e w' => e = .returned v ∧ w' = w := by
  have c := h.cl
  obtain ⟨A1, c1, rfl, _⟩ := own_cap h.own
  clear h
  go_enter Tryd.func36, Tryd.ntmps36
  go_wp2_with fail
  go_returns
  exact ⟨rfl, rfl⟩

theorem mt_new (w : World) : MT (((w.alloc (.cells #[.slice none 0 0] 33)).alloc (.map #[] 0)).alloc (.cells #[.map (some (w.heap.size + 1))] 76)) w.heap.size [] (.slice none 0 0) := by
  refine ⟨cell_alloc (cell_alloc (cell_new w _ _ 0 rfl)), ?_, ?_, World.ownsRow_nil _ _ _ _, .map [], ?_, fun x hx => by simp; rfl⟩
  · have e : (((w.alloc (.cells #[.slice none 0 0] 33)).alloc (.map #[] 0)).alloc (.cells #[.map (some (w.heap.size + 1))] 76)).heap[w.heap.size]? = some (.cells #[.slice none 0 0] 33) :=
      (Below.heap_alloc _ _ _ (by rw [World.size_alloc, World.size_alloc]; omega)).trans ((Below.heap_alloc _ _ _ (by rw [World.size_alloc]; omega)).trans (heap_alloc_new w _))
    unfold World.frozen?
    rw [show (⟨w.heap.size, 0, none⟩ : Addr).block = w.heap.size from rfl, e]
    rfl
  · have := cell_new ((w.alloc (.cells #[.slice none 0 0] 33)).alloc (.map #[] 0)) #[.map (some (w.heap.size + 1))] 76 0 (v := .map (some (w.heap.size + 1))) rfl (fr := (0, 0))
    rw [World.size_alloc, World.size_alloc] at this
    exact this
  · have := (World.ownsMap_made (H := Unit) (w.alloc (.cells #[.slice none 0 0] 33)) Tryd.prog 3 unitElem).alloc (.cells #[.map (some (w.heap.size + 1))] 76)
    rw [World.size_alloc] at this
    exact this

set_option maxRecDepth 100000 in
theorem meeting_any (w : World) :
    Calls Tryd.prog 21 #[] w fun e w' => e = .returned (.tuple #[meetFn w.heap.size, tellFn w.heap.size]) ∧ MT w' w.heap.size [] (.slice none 0 0) ∧ RowKit.Below w.heap.size w w' ∧ w'.heap.size = w.heap.size + 3 := by
  have hmf : ∀ (fn : Fn) (first cap : Array Value) (w : World), (Instr.makeFunc fn first cap).run Tryd.prog w = .ok (.func fn first cap) w := fun _ _ _ _ => rfl
  have hmm := @run_makeMap Tryd.prog
  go_enter Tryd.func21, Tryd.ntmps21
  go_wp2_with fail
  go_returns
  exact ⟨rfl, mt_new w, (((Below.refl _ _).alloc (Nat.le_refl _) _).alloc (by simp) _).alloc (by simp; omega) _, by simp⟩
end Go.Proofs.YtklandpagieapaaDoor

namespace Go.Proofs.YtklandpagieapaaDoor
open Go.ChangeShapes Go.WideShapes Go.ChangeAt Go.RowKit Go.Sort Go.Maps
set_option linter.unusedVariables false
set_option linter.unusedSimpArgs false

theorem zeroInt (w : World) : (zeroValue 3).run Tryd.prog w = .ok (.int .i64 0) w := by kernel_rfl
abbrev IM (w : World) (bk n : Nat) (D : DataW Unit) : Prop := w.ownsMap (H := Unit) Tryd.prog 3 (plainElem Tryd.prog 3) bk n D
/-- A map that tells where numbers stand. -/
def Pl (l : List Int) (m : Value) (w : World) : Prop := ∃ bk D, m = .map (some bk) ∧ IM w bk l.length D ∧ ∀ n ∈ l, D.atKey (.int .i64 n) (.lit (.int .i64 0)) = .lit (.int .i64 (atF l n 0))
theorem Pl.keeps {l : List Int} {m : Value} {w w' : World} (h : Pl l m w) (hk : Keeps w w') : Pl l m w' := by
  obtain ⟨bk, D, rfl, hown, hD⟩ := h
  obtain ⟨es, clock, hh, F, hs, hDD⟩ := hown
  exact ⟨bk, D, rfl, ⟨es, clock, hk bk _ hh (by intro cs T fr e; cases e), F, hs, hDD⟩, hD⟩
theorem Pl.below {l : List Int} {m : Value} {w w' : World} (h : Pl l m w) (hb : Below w.heap.size w w') : Pl l m w' := h.keeps (Keeps.of_below hb)
theorem atF_at {l : List Int} (hd : l.Nodup) {k : Nat} (hk : k < l.length) : atF l l[k] 0 = k := by
  have hn : l[k] ∉ l.take k := by
    intro h
    obtain ⟨j, hj, he⟩ := List.getElem_of_mem h
    rw [List.getElem_take] at he
    rw [List.length_take] at hj
    exact List.pairwise_iff_getElem.1 hd j k (by omega) hk (by omega) he
  rw [atF_drop l l[k] k (by omega) hn, List.drop_eq_getElem_cons hk]
  unfold atF
  rw [if_pos rfl]
theorem addI_nodup {l : List Int} (h : l.Nodup) (x : Int) : (addI l x).Nodup := by
  unfold addI
  split
  · exact h
  · rename_i hx
    exact List.nodup_append.2 ⟨h, by simp, fun a ha b hb e => by rw [List.mem_singleton] at hb; subst hb; subst e; exact hx ha⟩
mutual
theorem meetT_nodup : ∀ (t : Ty) (T R : List Int), T.Nodup → R.Nodup → (meetT t T R).1.Nodup ∧ (meetT t T R).2.Nodup
  | .mk d l, T, R, hT, hR => by
    unfold meetT
    have hT' : (if d.kind = 7 then addI T d.n else T).Nodup := by split; exact addI_nodup hT _; exact hT
    obtain ⟨h1, h2⟩ := meetTs_nodup l _ R hT' hR
    simp only
    split
    · exact ⟨h1, addI_nodup h2 _⟩
    · exact ⟨h1, h2⟩
theorem meetTs_nodup : ∀ (l : List Ty) (T R : List Int), T.Nodup → R.Nodup → (meetTs l T R).1.Nodup ∧ (meetTs l T R).2.Nodup
  | [], T, R, hT, hR => ⟨hT, hR⟩
  | x :: l, T, R, hT, hR => by
    unfold meetTs
    obtain ⟨h1, h2⟩ := meetT_nodup x T R hT hR
    exact meetTs_nodup l _ _ h1 h2
end

set_option maxRecDepth 100000 in
set_option maxHeartbeats 1000000 in
theorem places_any (A : Option Addr) (l : List Int) (n c : Nat) (w : World) (hr : Rd w 1 A n (i64s l)) (hm : n ≤ 4000000) (hd : l.Nodup) (hwf : ∀ x ∈ l, (Lit.int .i64 x).wf = true) :
    Calls Tryd.prog 26 #[.slice A n c] w fun e w' => ∃ m, e = .returned m ∧ Pl l m w' ∧ Below w.heap.size w w' := by
  have hl := hr.ints
  subst hl
  have HR := Lib.hid (And.intro hr (And.intro hd hwf))
  clear hr hd hwf
  have hmm := @run_makeMap Tryd.prog
  have HW1 := Lib.hid (World.ownsMap_made (H := Unit) w Tryd.prog 3 (plainElem Tryd.prog 3))
  go_enter Tryd.func26, Tryd.ntmps26
  go_wp2_with fail
  clear hmm
  go_loopw [9] (fun i wr => ∃ k : Nat, i = .int .i64 k ∧ k ≤ l.length ∧ Below w.heap.size w wr ∧ ∃ D, IM wr w.heap.size k D ∧ ∀ n ∈ l.take k, D.atKey (.int .i64 n) (.lit (.int .i64 0)) = .lit (.int .i64 (atF l n 0))) (fun i _ => l.length - (intOf i).toNat)
  case atStart => exact ⟨0, rfl, Nat.zero_le _, (Below.refl _ _).alloc (Nat.le_refl _) _, .map [], HW1.out, by simp⟩
  case round =>
    clear HW1
    obtain ⟨k, rfl, hk, hb, D, hown, hD⟩ := hrel
    have HK := Lib.hid (And.intro hb (And.intro hown hD))
    by_cases hlt : k < l.length
    · obtain ⟨b, o, rfl, _, hcel⟩ := (HR.out.1.below hb).int (k := k) hlt
      have h1 := hcel k hlt
      have HX := Lib.hid (And.intro (atF_at HR.out.2.1 hlt) (And.intro (HR.out.2.2 _ (List.getElem_mem hlt)) (List.take_succ_eq_append_getElem hlt)))
      obtain ⟨x, hx⟩ : ∃ x, l[k] = x := ⟨_, rfl⟩
      rw [hx] at h1 HX
      have hkey : keyOf Tryd.prog 3 (.int .i64 x) = some (.int .i64 x) := keyOf_int_mk Tryd.underlying3 HX.out.2.1
      have hki : (k : Int) < (l.length : Int) := by omega
      have hk0 : (0 : Int) ≤ (k : Int) := by omega
      have hk4 : (k : Int) ≤ 4000000 := by omega
      have hwk : (Lit.int .i64 (k : Int)).wf = true := by simp [Lit.wf, IntKind.min, IntKind.max, IntKind.signed, IntKind.bits]; omega
      have HV := Lib.hid (show plainElem (H := Unit) Tryd.prog 3 (.int .i64 (k : Int)) = some (.lit (.int .i64 (k : Int)), []) from plainElem_int Tryd.underlying3 hwk)
      have HKL := Lib.hid (show k < maxLen by unfold maxLen; omega)
      clear hcel hb hown hD hx hwk
      go_wp2_with (at_mapUpdate; refine wpList_mapUpdate_own _ rfl _ _ _ 47 rfl 3 3 lawInt Tryd.underlying47 (plainElem (H := Unit) Tryd.prog 3) w.heap.size k D rfl HK.out.2.1 HKL.out _ _ (.int .i64 x) rfl rfl hkey (.lit (.int .i64 (k : Int))) [] HV.out ?_; intro w1 hown1 hgrow1; have H1 := Lib.hid (And.intro hown1 hgrow1); clear hown1 hgrow1)
      go_roundw
      case rel =>
        refine ⟨k + 1, by go_num, hlt, HK.out.1.grown H1.out.2 (by have := HK.out.2.1.lt; omega) (fun q hq => by cases hq; exact Nat.le_refl _), _, H1.out.1, ?_⟩
        intro n hn
        rw [HX.out.2.2] at hn
        by_cases hnx : n = x
        · subst hnx
          rw [atKey_put_same HK.out.2.1.isMap (lawInt.key hkey), HX.out.1]
        · rw [atKey_put_other (by intro h'; injection h' with _ h'; exact hnx h')]
          refine HK.out.2.2 n ?_
          rcases List.mem_append.1 hn with h | h
          · exact h
          · exact absurd (List.mem_singleton.1 h) hnx
      case measure => simp [intOf] <;> omega
    · have hki : ¬ (k : Int) < (l.length : Int) := by omega
      obtain rfl : k = l.length := by omega
      clear hb hown hD
      go_wp2_with fail
      go_returns
      exact ⟨_, rfl, ⟨_, D, rfl, HK.out.2.1, fun n hn => HK.out.2.2 n (by rw [List.take_length]; exact hn)⟩, HK.out.1⟩

set_option maxRecDepth 100000 in
set_option maxHeartbeats 1000000 in
theorem indexI_any (s : Int) (A : Option Addr) (l : List Int) (n c : Nat) (w : World) (hr : Rd w 1 A n (i64s l)) (hm : n ≤ 4000000) :
    Calls Tryd.prog 57 #[.slice A n c, .int .i64 s] w fun e w' => (∃ i : Int, e = .returned (.int .i64 i) ∧ decide (0 ≤ i) = decide (s ∈ l)) ∧ Below w.heap.size w w' := by
  have hlen := hr.ints
  have HR := Lib.hid (And.intro hr hlen)
  clear hr hlen
  go_enter Tryd.func57, Tryd.ntmps57
  go_wp2_with fail
  go_loopw [8] (fun i wr => ∃ k : Nat, i = .int .i64 k ∧ k ≤ n ∧ s ∉ l.take k ∧ Below w.heap.size w wr) (fun i _ => n - (intOf i).toNat)
  case atStart => exact ⟨0, rfl, Nat.zero_le _, by simp, Below.refl _ _⟩
  case round =>
    obtain ⟨k, rfl, hk, hl, hb⟩ := hrel
    have HB := Lib.hid (And.intro hl hb)
    clear hl
    by_cases hlt : k < n
    · have hkl : k < l.length := by rw [HR.out.2]; omega
      obtain ⟨b, o, rfl, _, hcel⟩ := (HR.out.1.below hb).int hkl
      have h1 := hcel k hkl
      have z1 : (0 : Int) ≤ (k : Int) := by omega
      have z2 : (k : Int) < (n : Int) := by omega
      have hk4 : (k : Int) ≤ 9223372036854775806 := by omega
      by_cases he : s = l[k]
      · have q : (s == l[k]) = true := by rw [beq_iff_eq]; exact he
        have HE := Lib.hid (show decide (s ∈ l) = true from decide_eq_true (he ▸ List.getElem_mem hkl))
        obtain ⟨x, hx⟩ : ∃ x, l[k] = x := ⟨_, rfl⟩
        rw [hx] at h1 q
        clear hx he hcel hkl hb
        go_wp2_with fail
        go_returns
        exact ⟨⟨k, rfl, by rw [HE.out]; exact decide_eq_true (by omega)⟩, HB.out.2⟩
      · have q : (s == l[k]) = false := by rw [beq_eq_false_iff_ne]; exact he
        have HN := Lib.hid (show s ∉ l.take (k + 1) by
          rw [List.take_succ_eq_append_getElem hkl, List.mem_append]
          rintro (h | h)
          · exact HB.out.1 h
          · exact he (by simpa using h))
        obtain ⟨x, hx⟩ : ∃ x, l[k] = x := ⟨_, rfl⟩
        rw [hx] at h1 q
        clear hx he hcel hkl hb
        go_wp2_with fail
        go_roundw
        case rel => exact ⟨k + 1, by go_num, hlt, HN.out, HB.out.2⟩
        case measure => simp [intOf] <;> omega
    · have z2 : ¬ (k : Int) < (n : Int) := by omega
      have HE := Lib.hid (show decide (s ∈ l) = false from decide_eq_false (by
        have h5 := HB.out.1
        rwa [List.take_of_length_le (by rw [HR.out.2]; omega)] at h5))
      clear hb
      go_wp2_with fail
      go_returns
      exact ⟨⟨-1, rfl, by first | (rw [HE.out]; rfl) | exact ⟨fun h => absurd h (by omega), fun h => absurd h (of_decide_eq_false HE.out)⟩⟩, HB.out.2⟩

set_option maxRecDepth 100000 in
set_option maxHeartbeats 1000000 in
theorem containsI_any (s : Int) (A : Option Addr) (l : List Int) (n c : Nat) (w : World) (hr : Rd w 1 A n (i64s l)) (hm : n ≤ 4000000) :
    Calls Tryd.prog 51 #[.slice A n c, .int .i64 s] w fun e w' => e = .returned (.bool (decide (s ∈ l))) ∧ Below w.heap.size w w' := by
  have HI := Lib.hid (indexI_any s A l n c w hr hm)
  clear hr hm
  go_enter Tryd.func51, Tryd.ntmps51
  go_wp2_with fail
  refine HI.out.mono ?_
  rintro e w1 ⟨⟨i, rfl, hi⟩, hb⟩
  have HH := Lib.hid (And.intro hi hb)
  clear hi hb HI
  obtain ⟨r, hr⟩ : ∃ r, decide (0 ≤ i) = r := ⟨_, rfl⟩
  have HR := Lib.hid (hr.symm.trans HH.out.1)
  go_wp2_with fail
  go_returns
  exact ⟨by rw [← HR.out]; first | rfl | (rw [← hr]; rfl), HH.out.2⟩
end Go.Proofs.YtklandpagieapaaDoor

namespace Go.Proofs.YtklandpagieapaaDoor
open Go.ChangeShapes Go.WideShapes Go.ChangeAt Go.RowKit Go.Sort Go.Maps
set_option linter.unusedVariables false
set_option linter.unusedSimpArgs false

abbrev CAP : Nat := 140737488355328
/-- What the two maps tell. -/
structure Cx where
  T : List Int
  R : List Int
  m1 : Value
  m2 : Value
/-- Where the writer stands: it holds a text; what lay ahead of it, and what is not its own, is as it was. -/
def St (w0 : World) (c : Cx) (b : Nat) (acc : Str) (wS w : World) : Prop := Wd w0.heap.size b c.m1 c.m2 acc w ∧ Below w0.heap.size w0 wS ∧ Below w0.heap.size wS w ∧ Keeps wS w ∧ Pl c.T c.m1 w ∧ Pl c.R c.m2 w
section
variable {w0 wS w w' : World} {c : Cx} {b : Nat} {acc acc' : Str}
theorem St.all (h : St w0 c b acc wS w) : Below w0.heap.size w0 w := h.2.1.trans h.2.2.1
theorem St.here (h : St w0 c b acc wS w) : St w0 c b acc w w := ⟨h.1, h.all, Below.refl _ _, Keeps.refl _, h.2.2.2.2⟩
theorem St.on (h : St w0 c b acc wS w) (k : St w0 c b acc' w w') : St w0 c b acc' wS w' := ⟨k.1, h.2.1, h.2.2.1.trans k.2.2.1, h.2.2.2.1.trans k.2.2.2.1, k.2.2.2.2⟩
theorem St.below (h : St w0 c b acc wS w) (hb : Below w.heap.size w w') : St w0 c b acc wS w' :=
  ⟨h.1.below hb, h.2.1, h.2.2.1.trans (hb.mono h.all.size), h.2.2.2.1.trans (Keeps.of_below hb), h.2.2.2.2.1.below hb, h.2.2.2.2.2.below hb⟩
theorem St.say (h : St w0 c b acc wS w) (l : List Str) (hl : acc.length + l.flatten.length ≤ CAP) (h4 : l.length ≤ 100) (n : Nat) (hn : l.length = n) (cs : Array Value) (hcs : (strs l).toArray = cs) :
    Calls Tryd.prog 38 #[.pointer (some ⟨b, 0, none⟩), .slice (some ⟨w.heap.size, 0, none⟩) n n] (w.alloc (.cells cs 9)) fun e w' => e = .returned (.tuple #[]) ∧ St w0 c b (acc ++ l.flatten) wS w' :=
  (say_new w0.heap.size b c.m1 c.m2 acc l w h.1 hl h.all.size h4 n hn cs hcs).mono fun e w' hh => ⟨hh.1, hh.2.1, h.2.1, h.2.2.1.trans hh.2.2.1, h.2.2.2.1.trans hh.2.2.2, h.2.2.2.2.1.keeps hh.2.2.2, h.2.2.2.2.2.keeps hh.2.2.2⟩
end
/-- What a function of the writer writes of what lies at a place. -/
def FunAt (F : FuncId) (w0 : World) (c : Cx) (d : TyD) (wt : Nat) (r : Str) : Prop := ∀ (b b' o' : Nat) (acc : Str) (w : World), d.At w0 b' o' → St w0 c b acc w w → acc.length + wt ≤ CAP →
  Calls Tryd.prog F #[.pointer (some ⟨b, 0, none⟩), .pointer (some ⟨b', o', none⟩)] w fun e w' => e = .returned (.tuple #[]) ∧ St w0 c b (acc ++ r) w w'
theorem FunAt.step {F : FuncId} {w0 : World} {c : Cx} {d : TyD} {wt : Nat} {r : Str} (h : FunAt F w0 c d wt r) {b b' o' : Nat} {acc : Str} {wS w : World} (H : St w0 c b acc wS w) (hAt : d.At w0 b' o') (hl : acc.length + wt ≤ CAP) :
    Calls Tryd.prog F #[.pointer (some ⟨b, 0, none⟩), .pointer (some ⟨b', o', none⟩)] w fun e w' => e = .returned (.tuple #[]) ∧ St w0 c b (acc ++ r) wS w' :=
  (h b b' o' acc w hAt H.here hl).mono fun e w' hh => ⟨hh.1, H.on hh.2⟩
abbrev WholeAt (w0 : World) (c : Cx) (x : Ty) : Prop := FunAt 27 w0 c x.d x.wt (x.tx c.T c.R)
abbrev Tab (w : World) : Prop := Lib.TabIs Tryd.prog w "internal/strconv.uint64pow10" .u64 Lib.pow10Tab
theorem gTab : Tryd.prog.globalNamed "internal/strconv.uint64pow10" = some 0 := by kernel_rfl
theorem tab_below {w w' : World} (h : Tab w) (hb : Below w.heap.size w w') : Tab w' := by
  unfold Tab Lib.TabIs World.var? at h ⊢
  rw [gTab] at h ⊢
  simp only [Option.bind_some] at h ⊢
  have hlt : 0 < w.heap.size := by
    rcases Nat.lt_or_ge 0 w.heap.size with h' | h'
    · exact h'
    · rw [Array.getElem?_eq_none h'] at h; cases h
  rw [hb.block _ hlt]
  exact h
theorem below_growN {w : World} (k : Nat) (os : Array Obj) : Below w.heap.size w (grow (w.drewN k) os) := by
  have h := below_regrown w (w.drewN k).drawn os
  exact h
theorem itoa_any (z : Int) (hz : inR z) (w : World) (hT : Tab w) : Calls Tryd.prog 39 #[.int .i64 z] w fun e w' => e = .returned (.string (bstr (Lib.itoa z))) ∧ Below w.heap.size w w' :=
  (Tryd.strconv_Itoa z hz.1 hz.2 w hT).mono fun e w' ⟨he, k, os, hw⟩ => ⟨he, by rw [hw]; exact below_growN k os⟩
theorem below_drew1 (w : World) : Below w.heap.size w w.drew := Below.drew (Below.refl _ _)
theorem ty_one {w0 : World} {d : TyD} {l : List Ty} (h : (Ty.mk d l).In w0) {k : Nat} (hk : k < l.length) : ∃ pb po, d.pA = some ⟨pb, po, none⟩ ∧ ∀ j (hj : j < l.length), (l[j]).d.At w0 pb (po + j * 5) := h.part (k := k) hk

set_option maxRecDepth 100000 in
set_option maxHeartbeats 2000000 in
theorem part_any (w0 : World) (c : Cx) (d : TyD) (wt : Nat) (tx : Str) (Lx : tx.length + 2 ≤ wt) (HW : FunAt 27 w0 c d wt tx) (ks : List Int) (n : Nat) (hn : ks.length = n) (h10 : n ≤ 10)
    (b b' o' g : Nat) (acc : Str) (wS w : World) (hAt : d.At w0 b' o') (hst : St w0 c b acc wS w) (hr : Rd w 1 (some ⟨g, 0, none⟩) n (i64s ks)) (hlen : acc.length + wt + 2 ≤ CAP) :
    Calls Tryd.prog 40 #[.pointer (some ⟨b, 0, none⟩), .pointer (some ⟨b', o', none⟩), .slice (some ⟨g, 0, none⟩) n n] w fun e w' => e = .returned (.tuple #[]) ∧ St w0 c b (acc ++ brkT (decide (d.kind ∈ ks)) tx) wS w' := by
  have H0 := Lib.hid hst
  have HLEN := Lib.hid (And.intro hlen Lx)
  have HA := Lib.hid hAt
  have HC := Lib.hid (containsI_any d.kind (some ⟨g, 0, none⟩) ks n n w hr (by omega))
  obtain ⟨c0, _, _, _, _⟩ := hAt.lower hst.all
  clear hAt hst hlen Lx hr
  obtain ⟨v, hv⟩ : ∃ v, decide (d.kind ∈ ks) = v := ⟨_, rfl⟩
  rw [hv] at HC ⊢
  clear hv
  go_enter Tryd.func40, Tryd.ntmps40
  go_wp2_with fail
  refine HC.out.mono ?_
  rintro e v0 ⟨rfl, hb0⟩
  have H1 := Lib.hid (H0.out.below hb0)
  clear hb0 HC c0
  cases v with
  | false =>
    have HP := Lib.hid (show brkT false tx = tx from rfl)
    go_wp2_with fail
    refine (HW.step H1.out HA.out (by have h := HLEN.out; omega)).mono ?_
    rintro e v1 ⟨rfl, hs1⟩
    have H2 := Lib.hid hs1
    clear hs1
    go_wp2_with fail
    go_returns
    exact ⟨rfl, by rw [HP.out]; exact H2.out⟩
  | true =>
    have HP := Lib.hid (show brkT true tx = [40] ++ tx ++ [41] from rfl)
    go_wp2_with fail
    refine (H1.out.say [[40]] (by have h := HLEN.out; simp; omega) (by simp) 1 rfl _ rfl).mono ?_
    rintro e v1 ⟨rfl, hs1⟩
    have H2 := Lib.hid hs1
    clear hs1
    go_wp2_with fail
    refine (HW.step H2.out HA.out (by have h := HLEN.out; simp; omega)).mono ?_
    rintro e v2 ⟨rfl, hs2⟩
    have H3 := Lib.hid hs2
    clear hs2
    go_wp2_with fail
    refine (H3.out.say [[41]] (by have h := HLEN.out; simp; omega) (by simp) 1 rfl _ rfl).mono ?_
    rintro e v3 ⟨rfl, hs3⟩
    have H4 := Lib.hid hs3
    clear hs3
    go_wp2_with fail
    go_end0
    exact ⟨rfl, by have h := H4.out; rw [HP.out]; simpa [List.append_assoc] using h⟩

set_option maxRecDepth 100000 in
set_option maxHeartbeats 2000000 in
theorem whole_1 (w0 : World) (c : Cx) (d : TyD) (wt : Nat) (hk : d.kind = 1) (hw : 10 ≤ wt) : FunAt 27 w0 c d wt [105, 110, 116] := by
  intro b b' o' acc w hAt hst hlen
  have H0 := Lib.hid hst
  have HE := Lib.hid (fun W (h : Below w0.heap.size w0 W) => hAt.lower h)
  have HLEN := Lib.hid (And.intro hlen hw)
  have q1 : (d.kind == 1) = true := by rw [hk]; rfl
  clear hAt hst hlen hk hw
  obtain ⟨c0, c1, c2, c3, c4⟩ := HE.out _ H0.out.all
  go_enter Tryd.func27, Tryd.ntmps27
  go_wp2_with fail
  refine (H0.out.say [[105, 110, 116]] (by have h := HLEN.out; simp only [List.flatten_cons, List.flatten_nil, List.append_nil, List.length_append, List.length_cons, List.length_nil]; omega) (by simp) 1 rfl _ rfl).mono ?_
  rintro e v1 ⟨rfl, hs1⟩
  have H1 := Lib.hid hs1
  clear hs1 c0 c1 c2 c3 c4
  go_wp2_with fail
  go_end0
  exact ⟨rfl, by have h := H1.out; simpa using h⟩

set_option maxRecDepth 100000 in
set_option maxHeartbeats 2000000 in
theorem whole_2 (w0 : World) (c : Cx) (d : TyD) (wt : Nat) (hk : d.kind = 2) (hw : 10 ≤ wt) : FunAt 27 w0 c d wt [116, 101, 120, 116] := by
  intro b b' o' acc w hAt hst hlen
  have H0 := Lib.hid hst
  have HE := Lib.hid (fun W (h : Below w0.heap.size w0 W) => hAt.lower h)
  have HLEN := Lib.hid (And.intro hlen hw)
  have q1 : (d.kind == 1) = false := by rw [hk]; rfl
  have q2 : (d.kind == 2) = true := by rw [hk]; rfl
  clear hAt hst hlen hk hw
  obtain ⟨c0, c1, c2, c3, c4⟩ := HE.out _ H0.out.all
  go_enter Tryd.func27, Tryd.ntmps27
  go_wp2_with fail
  refine (H0.out.say [[116, 101, 120, 116]] (by have h := HLEN.out; simp only [List.flatten_cons, List.flatten_nil, List.append_nil, List.length_append, List.length_cons, List.length_nil]; omega) (by simp) 1 rfl _ rfl).mono ?_
  rintro e v1 ⟨rfl, hs1⟩
  have H1 := Lib.hid hs1
  clear hs1 c0 c1 c2 c3 c4
  go_wp2_with fail
  go_end0
  exact ⟨rfl, by have h := H1.out; simpa using h⟩

set_option maxRecDepth 100000 in
set_option maxHeartbeats 2000000 in
theorem whole_7 (w0 : World) (c : Cx) (d : TyD) (wt : Nat) (hk : d.kind = 7) (hT : Tab w0) (hn : d.n ∈ c.T) (hwf : (Lit.int .i64 d.n).wf = true) (hl : c.T.length ≤ 4000000) (hw : 40 ≤ wt) : FunAt 27 w0 c d wt ([39] ++ Lib.itoa (atF c.T d.n 0)) := by
  intro b b' o' acc w hAt hst hlen
  have H0 := Lib.hid hst
  have HE := Lib.hid (fun W (h : Below w0.heap.size w0 W) => hAt.lower h)
  have HLEN := Lib.hid (And.intro hlen (And.intro hw (itoa_len _ (atF_inR hl d.n))))
  have HT := Lib.hid (And.intro (tab_below hT (below_then hst.all (below_drew1 w))) (atF_inR hl d.n))
  have q1 : (d.kind == 1) = false := by rw [hk]; rfl
  have q2 : (d.kind == 2) = false := by rw [hk]; rfl
  have q7 : (d.kind == 7) = true := by rw [hk]; rfl
  obtain ⟨bk, D, hm, hown, hD⟩ := hst.2.2.2.2.1
  have g2 := hst.1.maps.1
  rw [hm] at g2
  have hkey : keyOf Tryd.prog 3 (.int .i64 d.n) = some (.int .i64 d.n) := keyOf_int_mk Tryd.underlying3 hwf
  have hat := hD _ hn
  obtain ⟨cv, hlk, hcv, _⟩ := World.ownsMap.lookup_int (World.ownsMap.drew hown) lawInt Tryd.underlying47 Tryd.underlying3 (zeroInt w.drew) hkey
  obtain ⟨z, hz⟩ : ∃ z, atF c.T d.n 0 = z := ⟨_, rfl⟩
  rw [hz] at HT HLEN hat ⊢
  have hcz : cv = z := by rw [hat] at hcv; injection hcv with hcv; injection hcv with _ hcv; exact hcv.symm
  rw [hcz] at hlk
  have HI := Lib.hid (itoa_any z HT.out.2 w.drew HT.out.1)
  obtain ⟨I, hI⟩ : ∃ I, Lib.itoa z = I := ⟨_, rfl⟩
  rw [hI] at HI HLEN ⊢
  have HC := Lib.hid (fun (v : World) (h : Below w.drew.heap.size w.drew v) => (((H0.out.below (below_drew1 w)).below h).say [[39], I] (by have h := HLEN.out; simp only [List.flatten_cons, List.flatten_nil, List.append_nil, List.length_append, List.length_cons, List.length_nil]; omega) (by simp) 2 rfl #[.string ⟨#[39]⟩, .string (bstr I)] rfl))
  clear hst hlen hk hw hT hn hwf hl hm hown hD hat hcv hcz hz hI hkey HT
  obtain ⟨c0, c1, c2, c3, c4⟩ := HE.out _ H0.out.all
  clear c2 c3 c4 hAt
  go_enter Tryd.func27, Tryd.ntmps27
  go_wp2_with fail
  go_region_with (first
    | (go_at_call 39; (with_reducible refine HI.out.mono ?_); rintro e v8 ⟨rfl, hb8⟩)
    | (go_at_call 38; (with_reducible refine (HC.out _ hb8).mono ?_); rintro e v9 ⟨rfl, hs9⟩))
  all_goals
    go_wp2_with fail
    go_end0
    exact ⟨rfl, by have h := hs9; simpa using h⟩

end Go.Proofs.YtklandpagieapaaDoor
