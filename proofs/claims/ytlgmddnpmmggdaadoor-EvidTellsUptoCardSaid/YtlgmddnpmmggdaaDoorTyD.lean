/-
  Whether a type may be, by the code: all of it.
-/
import Derived.Test.YtlgmddnpmmggdaaDoorTyC
namespace Go.Proofs.YtlgmddnpmmggdaaDoor
open Go.ChangeShapes Go.WideShapes Go.ChangeAt Go.RowKit Go.Sort
set_option linter.unusedVariables false
set_option linter.unusedSimpArgs false

mutual
/-- How many nodes are met behind so many, if all may be. -/
def mayF : Ty → Nat → Option Nat
  | .mk d l, k => if 4000 < k + 1 then none else if d.fieldsB = true then mayL l (k + 1) else none
def mayL : List Ty → Nat → Option Nat
  | [], k => some k
  | x :: l, k => match mayF x k with
    | none => none
    | some j => mayL l j
end
theorem mayL_snoc : ∀ (l : List Ty) (x : Ty) (k : Nat), mayL (l ++ [x]) k = (match mayL l k with | none => none | some j => mayF x j)
  | [], x, k => by simp only [List.nil_append, mayL]; cases mayF x k <;> rfl
  | y :: l, x, k => by
    simp only [List.cons_append, mayL]
    cases mayF y k with
    | none => rfl
    | some j => exact mayL_snoc l x j
theorem mayL_none : ∀ (l r : List Ty) (k : Nat), mayL l k = none → mayL (l ++ r) k = none
  | [], r, k, h => by simp [mayL] at h
  | y :: l, r, k, h => by
    simp only [List.cons_append, mayL] at h ⊢
    cases hy : mayF y k with
    | none => rfl
    | some j => rw [hy] at h; exact mayL_none l r j h
theorem mayL_take_none {l : List Ty} {i k : Nat} (h : mayL (l.take i) k = none) : mayL l k = none := by
  rw [← List.take_append_drop i l]; exact mayL_none _ _ _ h
mutual
theorem mayF_le : ∀ (t : Ty) (k j : Nat), mayF t k = some j → k + 1 ≤ j ∧ j ≤ 4000
  | .mk d l, k, j, h => by
    unfold mayF at h
    split at h
    · cases h
    split at h
    · have h1 := mayL_le l (k + 1) j h; omega
    · cases h
theorem mayL_le : ∀ (l : List Ty) (k j : Nat), mayL l k = some j → k ≤ j ∧ (k ≤ 4000 → j ≤ 4000)
  | [], k, j, h => by simp [mayL] at h; omega
  | x :: l, k, j, h => by
    unfold mayL at h
    cases hx : mayF x k with
    | none => rw [hx] at h; cases h
    | some m => rw [hx] at h; have h1 := mayF_le x k m hx; have h2 := mayL_le l m j h; omega
end

set_option maxRecDepth 100000 in
set_option maxHeartbeats 1000000 in
theorem mayBe_any (w0 : World) (t : Ty) (hIn : t.In w0) :
    ∀ (b o : Nat) (q : Addr) (k : Nat) (w : World), t.d.At w0 b o → Below w0.heap.size w0 w → w0.heap.size ≤ q.block → w.cell? q = some (.int .i64 k) → w.frozen? q = false → k ≤ 4000 →
    Calls Tryd.prog 31 #[.pointer (some ⟨b, o, none⟩), .pointer (some q)] w fun e w' => e = .returned (.bool (mayF t k).isSome) ∧ Below w0.heap.size w0 w' ∧ w.heap.size ≤ w'.heap.size ∧ w'.frozen? q = false ∧ ∃ j : Nat, w'.cell? q = some (.int .i64 j) ∧ ∀ m, mayF t k = some m → j = m := by
  induction hIn with
  | mk d l lab par cap sub ih =>
  intro b o q k w hAt0 hb hq hcq hfq hk
  have hAt : d.At w0 b o := hAt0
  have hlen : l.length = d.pn := by have := par.1; rw [flat_len Ty.cells_len] at this; omega
  have hqlt : q.block < w.heap.size := World.block_lt_of_cell? w _ hcq
  have hb1 : Below w0.heap.size w0 (w.setCell q (.int .i64 ((k + 1 : Nat) : Int))) := hb.setCell hq _
  have hc1 : (w.setCell q (.int .i64 ((k + 1 : Nat) : Int))).cell? q = some (.int .i64 ((k + 1 : Nat) : Int)) := World.cell?_setCell_same _ _ _ hcq
  have hf1 : (w.setCell q (.int .i64 ((k + 1 : Nat) : Int))).frozen? q = false := by rw [World.frozen?_setCell]; exact hfq
  have hs1 : (w.setCell q (.int .i64 ((k + 1 : Nat) : Int))).heap.size = w.heap.size := by simp
  have ek : ((k + 1 : Nat) : Int) = (k : Int) + 1 := by omega
  rw [ek] at hb1 hc1 hf1 hs1
  have hki : (k : Int) ≤ 4000 := by omega
  have HAll := Lib.hid (And.intro hb1 (And.intro hc1 (And.intro hf1 (And.intro hs1 (And.intro hAt (And.intro lab (And.intro par (And.intro cap hlen))))))))
  have HIH := Lib.hid (And.intro sub ih)
  have HQ := Lib.hid (And.intro hq hqlt)
  clear hb1 hc1 hf1 hs1 hAt lab par cap hlen sub ih hq hqlt hb hAt0 ek
  by_cases hk4 : 4000 < k + 1
  · obtain rfl : k = 4000 := by omega
    have e : mayF (.mk d l) 4000 = none := by unfold mayF; rw [if_pos (by omega)]
    rw [e]
    clear hk4 e hki hk
    go_enter Tryd.func31, Tryd.ntmps31
    go_wp2_with fail
    go_returns
    exact ⟨rfl, HAll.out.1, by simp, HAll.out.2.2.1, 4001, HAll.out.2.1, fun m hm => by cases hm⟩
  have hki2 : (k : Int) + 1 ≤ 4000 := by omega
  have hki3 : ¬ (4000 : Int) < (k : Int) + 1 := by omega
  have HK := Lib.hid hk4
  clear hk4 hk hki
  have HF := Lib.hid (fieldsMay_any d b o _ (HAll.out.2.2.2.2.1.lower HAll.out.1) (HAll.out.2.2.2.2.2.1.below HAll.out.1) HAll.out.2.2.2.2.2.2.2.1.2.2.2.2.1)
  go_enter Tryd.func31, Tryd.ntmps31
  go_wp2_with fail
  refine HF.out.mono ?_
  rintro e w2 ⟨rfl, hb2⟩
  have HF2 := Lib.hid hb2
  clear HF hb2
  cases hfb : d.fieldsB with
  | false =>
    have e : mayF (.mk d l) k = none := by unfold mayF; rw [if_neg HK.out, if_neg (by rw [hfb]; simp)]
    have HE := Lib.hid e
    clear e hfb
    go_wp2_with fail
    go_returns
    have hq2 : q.block < (w.setCell q (.int .i64 ((k : Int) + 1))).heap.size := by rw [HAll.out.2.2.2.1]; exact HQ.out.2
    refine ⟨by rw [HE.out]; rfl, HAll.out.1.trans (HF2.out.mono (by rw [HAll.out.2.2.2.1]; exact Nat.le_of_lt (Nat.lt_of_le_of_lt HQ.out.1 HQ.out.2))), by have := HF2.out.size; rw [HAll.out.2.2.2.1] at this; exact this, (HF2.out.frozen hq2).trans HAll.out.2.2.1, k + 1, ?_, fun m hm => by rw [HE.out] at hm; cases hm⟩
    rw [HF2.out.cell hq2, HAll.out.2.1]; rfl
  | true =>
    have hq2 : q.block < (w.setCell q (.int .i64 ((k : Int) + 1))).heap.size := by rw [HAll.out.2.2.2.1]; exact HQ.out.2
    have e : mayF (.mk d l) k = mayL l (k + 1) := by unfold mayF; rw [if_neg HK.out, if_pos hfb]
    have hb3 : Below w0.heap.size w0 w2 := HAll.out.1.trans (HF2.out.mono (by rw [HAll.out.2.2.2.1]; exact Nat.le_of_lt (Nat.lt_of_le_of_lt HQ.out.1 HQ.out.2)))
    have hc3 : w2.cell? q = some (.int .i64 ((k + 1 : Nat) : Int)) := by rw [HF2.out.cell hq2, HAll.out.2.1]; rfl
    have hf3 : w2.frozen? q = false := (HF2.out.frozen hq2).trans HAll.out.2.2.1
    have hs3 : w.heap.size ≤ w2.heap.size := by have := HF2.out.size; rw [HAll.out.2.2.2.1] at this; exact this
    have HE := Lib.hid (And.intro e (And.intro hb3 (And.intro hc3 (And.intro hf3 hs3))))
    have c2 := (HAll.out.2.2.2.2.1.lower hb3).c2
    clear e hfb hb3 hc3 hf3 hs3 hq2
    go_wp2_with fail
    clear c2
    go_loopw [25] (fun i wr => ∃ m j : Nat, i = .int .i64 m ∧ m ≤ d.pn ∧ mayL (l.take m) (k + 1) = some j ∧ wr.cell? q = some (.int .i64 j) ∧ wr.frozen? q = false ∧ Below w0.heap.size w0 wr ∧ w.heap.size ≤ wr.heap.size) (fun i _ => d.pn - (intOf i).toNat)
    case atStart => exact ⟨0, k + 1, rfl, Nat.zero_le _, by simp [mayL], HE.out.2.2.1, HE.out.2.2.2.1, HE.out.2.1, HE.out.2.2.2.2⟩
    case round =>
      obtain ⟨m, j, rfl, hm, hL, hcj, hfj, hbj, hsj⟩ := hrel
      have HJ := Lib.hid (And.intro hL (And.intro hcj (And.intro hfj (And.intro hbj hsj))))
      clear hL hcj hfj hbj hsj
      by_cases hlt : m < d.pn
      · have hml : m < l.length := by rw [HAll.out.2.2.2.2.2.2.2.2]; exact hlt
        obtain ⟨pb, po, hpA, hAtP⟩ := (Ty.In.mk d l HAll.out.2.2.2.2.2.1 HAll.out.2.2.2.2.2.2.1 HAll.out.2.2.2.2.2.2.2.1 HIH.out.1).part (k := m) hml
        have hpA' : d.pA = some ⟨pb, po, none⟩ := hpA
        have hAtM : (l[m]).d.At w0 pb (po + m * 5) := hAtP m hml
        have c2 := (HAll.out.2.2.2.2.1.lower HJ.out.2.2.2.1).c2
        rw [hpA'] at c2
        have hlti : (m : Int) < (d.pn : Int) := by omega
        have hmi : (m : Int) ≤ 4000000 := by have := HAll.out.2.2.2.2.2.2.2.1.2.2.2.2.2; omega
        have hk1 : k + 1 ≤ 4000 := by omega
        have hj4 := (mayL_le _ _ _ HJ.out.1).2 hk1
        obtain ⟨x, hx⟩ : ∃ x, l[m] = x := ⟨_, rfl⟩
        rw [hx] at hAtM
        have hxm : x ∈ l := by rw [← hx]; exact List.getElem_mem hml
        have htk : l.take (m + 1) = l.take m ++ [x] := by rw [List.take_succ_eq_append_getElem hml, hx]
        have HM := Lib.hid (HIH.out.2 x hxm pb (po + m * 5) q j wr hAtM HJ.out.2.2.2.1 HQ.out.1 HJ.out.2.1 HJ.out.2.2.1 hj4)
        have HS := Lib.hid htk
        clear hpA hpA' hAtP hAtM hx hxm htk hml hk1 hj4
        go_wp2_with fail
        refine HM.out.mono ?_
        rintro e w3 ⟨rfl, hb3, hs3, hf3, j3, hc3, hj3⟩
        have H3 := Lib.hid (And.intro hb3 (And.intro hs3 (And.intro hf3 (And.intro hc3 hj3))))
        clear HM hb3 hs3 hf3 hc3 hj3
        have hsn : mayL (l.take (m + 1)) (k + 1) = mayF x j := by
          rw [HS.out, mayL_snoc, HJ.out.1]
        have HN := Lib.hid hsn
        clear hsn
        cases hmf : mayF x j with
        | none =>
          have he : mayL l (k + 1) = none := mayL_take_none (i := m + 1) (by rw [HN.out, hmf])
          have HE2 := Lib.hid he
          clear he hmf
          go_wp2_with fail
          go_returns
          exact ⟨by rw [HE.out.1, HE2.out]; rfl, H3.out.1, Nat.le_trans HJ.out.2.2.2.2 H3.out.2.1, H3.out.2.2.1, j3, H3.out.2.2.2.1, fun y hy => by rw [HE.out.1, HE2.out] at hy; cases hy⟩
        | some j4 =>
          have hj34 : j3 = j4 := H3.out.2.2.2.2 j4 hmf
          have HE2 := Lib.hid (And.intro hj34 hmf)
          clear hj34 hmf
          go_wp2_with fail
          go_roundw
          case rel => exact ⟨m + 1, j4, by go_num, hlt, by rw [HN.out, HE2.out.2], by rw [← HE2.out.1]; exact H3.out.2.2.2.1, H3.out.2.2.1, H3.out.1, Nat.le_trans HJ.out.2.2.2.2 H3.out.2.1⟩
          case measure => simp [intOf] <;> omega
      · go_wp2_with fail
        go_returns
        have hmm : l.take m = l := List.take_of_length_le (by rw [HAll.out.2.2.2.2.2.2.2.2]; omega)
        have hL := HJ.out.1
        rw [hmm] at hL
        exact ⟨by rw [HE.out.1, hL]; rfl, HJ.out.2.2.2.1, HJ.out.2.2.2.2, HJ.out.2.2.1, j, HJ.out.2.1, fun x hx => by rw [HE.out.1, hL] at hx; exact Option.some.inj hx⟩

/-- May: whether a type may be. -/
theorem may_any (t : Ty) (w : World) (hIn : t.In w) :
    Calls Tryd.prog 21 #[.agg t.d.arr] w fun e w' => e = .returned (.bool (mayF t 0).isSome) ∧ Below w.heap.size w w' := by
  have hb1 : Below w.heap.size w (w.alloc (.cells t.d.arr 25)) := (Below.refl _ _).alloc (Nat.le_refl _) _
  have hb2 : Below (w.alloc (.cells t.d.arr 25)).heap.size (w.alloc (.cells t.d.arr 25)) ((w.alloc (.cells t.d.arr 25)).alloc (.cells #[.int .i64 0] 3)) := (Below.refl _ _).alloc (Nat.le_refl _) _
  have hAt : t.d.At (w.alloc (.cells t.d.arr 25)) w.heap.size 0 := ⟨cell_new w _ _ 0 rfl, cell_new w _ _ 1 rfl, cell_new w _ _ 2 rfl, cell_new w _ _ 3 rfl, cell_new w _ _ 4 rfl⟩
  have HM := Lib.hid (mayBe_any _ t (hIn.lower hb1) w.heap.size 0 ⟨w.heap.size + 1, 0, none⟩ 0 _ hAt hb2 (by simp) (by simp [World.cell?_alloc_at]) (by simp) (by omega))
  have HB := Lib.hid hb1
  clear hb1 hb2 hAt
  go_enter Tryd.func21, Tryd.ntmps21
  go_wp2_with fail
  refine HM.out.mono ?_
  rintro e w' ⟨rfl, hb, _⟩
  go_wp2_with fail
  go_returns
  exact ⟨rfl, HB.out.trans (hb.mono (by simp))⟩
end Go.Proofs.YtlgmddnpmmggdaaDoor
