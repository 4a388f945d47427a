/-
  An expression with numbers for its binders, by the code.
  The document's numbering at any expression; what its Check tells.
  The document's example, played.
  Unlike expressions have unlike texts: names, numbers, quoted texts, what may follow. About no program.
  Unlike expressions have unlike texts: what a text begins with, what stands behind a part. About no program.
  Unlike expressions have unlike texts: by what a text begins with, its kind is told. About no program.
  Unlike expressions have unlike texts, and alike ones alike ones. About no program.
  Unlike expressions have unlike texts, and alike ones alike ones: whole. About no program.
  Unlike expressions have unlike texts, and alike ones alike ones: whole texts. About no program.
-/
import Derived.Test.YtaglmmcjhlehjaaGreatDoorK23
import Derived.Test.YtaglmmcjhlehjaaGreatDoorK18
import Derived.Test.YtaglmmcjhlehjaaGreatDoorK22
import Derived.Test.YtaglmmcjhlehjaaGreatDoorK13
import Derived.Test.YtaglmmcjhlehjaaGreatDoorK04
namespace Go.Proofs.YtaglmmcjhlehjaaGreatDoor
open Go.ChangeShapes Go.WideShapes Go.ChangeAt Go.RowKit Go.Sort
set_option linter.unusedVariables false
set_option linter.unusedSimpArgs false

theorem bs_le {d : ExD} {l : List Ex} (h : (Ex.mk d l).fineE = true) {w : World} (hI : (Ex.mk d l).In w) : d.bs.length ≤ 2 + l.length := by
  have hF := fields_of (fine_own h)
  have hp := hF.pn
  have hll : d.labels.length = d.ln := hI.labLen
  have hnl : d.names.length = d.nn := hI.namLen
  have hlen : l.length = d.pn := hI.len
  have hln := fine_ln h hI
  unfold ExD.bs
  by_cases h1 : d.kind = 4 ∨ d.kind = 6
  · rw [if_pos h1, List.length_singleton]; omega
  rw [if_neg h1]
  by_cases h7 : d.kind = 7
  · rw [if_pos h7]; show 2 ≤ _; omega
  rw [if_neg h7]
  by_cases k : d.kind = 14
  · rw [if_pos k, List.length_append, hnl]
    have h3 := hF.lists
    unfold ExD.listsB at h3
    rw [if_neg (by omega), if_pos k] at h3
    simp only [Bool.and_eq_true, decide_eq_true_eq] at h3
    have hnn : d.nn = d.ln := h3.1.1.2
    have ht : (if d.t = [] then [] else [d.t] : List Str).length ≤ 1 := by split <;> simp
    unfold partsF at hp
    rw [if_neg (by omega), if_neg (by omega), if_neg (by omega), if_neg (by omega), if_neg (by omega), if_pos k] at hp
    have hw : ∀ z : Int, 0 ≤ z → z ≤ 5000000 → wrap64 z = z := fun z h1 h2 => by unfold wrap64; omega
    rw [hw _ (by omega) (by omega), hw _ (by omega) (by omega)] at hp
    have hp2 : (d.ln : Int) + 1 ≤ (d.pn : Int) := by
      rw [hp]; split <;> omega
    omega
  · rw [if_neg k]; show 0 ≤ _; omega
mutual
theorem bsN_le (w : World) : ∀ e : Ex, e.In w → e.fineE = true → e.bsN + 1 ≤ 3 * e.nodes
  | .mk d l, hI, hf => by
    have h1 := bs_le hf hI
    have h2 := bsNL_le w l (fun x hx => hI.sub x hx) (fun x hx => fine_sub hf x hx)
    simp only [Ex.bsN, Ex.nodes]
    omega
theorem bsNL_le (w : World) : ∀ l : List Ex, (∀ x ∈ l, x.In w) → (∀ x ∈ l, x.fineE = true) → bsNL l + l.length ≤ 3 * enodesL l
  | [], _, _ => by simp [bsNL, enodesL]
  | x :: l, hI, hf => by
    have h1 := bsN_le w x (hI x (List.mem_cons_self ..)) (hf x (List.mem_cons_self ..))
    have h2 := bsNL_le w l (fun y hy => hI y (List.mem_cons_of_mem _ hy)) (fun y hy => hf y (List.mem_cons_of_mem _ hy))
    simp only [bsNL, enodesL, List.length_cons]
    omega
end
theorem may_fine {e : Ex} (h : (mayE e 1 0).isSome = true) : e.fineE = true := by
  rw [mayE_spec] at h
  split at h
  · rename_i hc; exact hc.1
  · cases h
/-! ### What is numbered lies in no block of zeros -/
mutual
def Ex.NeE : Ex → Prop
  | .mk d l => d.kind ≠ 0 ∧ (∀ s ∈ d.labels, s ≠ []) ∧ (∀ s ∈ d.names, s ≠ []) ∧ NeL l
def NeL : List Ex → Prop
  | [] => True
  | x :: l => x.NeE ∧ NeL l
end
theorem NeL_mem : ∀ {l : List Ex}, NeL l → ∀ x ∈ l, x.NeE
  | _ :: _, h, x, hx => by
    rcases List.mem_cons.1 hx with rfl | hx
    · exact h.1
    · exact NeL_mem h.2 x hx
mutual
theorem ne_lk : ∀ {t u : Ex}, t.lk u → u.NeE → t.NeE
  | .mk d l, .mk e m, h, hu => by
    simp only [Ex.lk] at h
    simp only [Ex.NeE] at hu ⊢
    obtain ⟨⟨h1, _, _, _, _, h6, h7⟩, hl⟩ := h
    rw [h1, h6, h7]
    exact ⟨hu.1, hu.2.1, hu.2.2.1, ne_lkL hl hu.2.2.2⟩
theorem ne_lkL : ∀ {l m : List Ex}, lkL l m → NeL m → NeL l
  | [], [], _, _ => trivial
  | x :: l, y :: m, h, hu => by
    simp only [lkL] at h
    exact ⟨ne_lk h.1 hu.1, ne_lkL h.2 hu.2⟩
  | [], _ :: _, h, _ => by simp [lkL] at h
  | _ :: _, [], h, _ => by simp [lkL] at h
end
theorem vNames_ne : ∀ (n k : Nat), ∀ s ∈ vNames n k, s ≠ []
  | n + 1, k, s, hs => by
    rcases List.mem_cons.1 hs with rfl | hs
    · intro e; cases e
    · exact vNames_ne n (k + 1) s hs
theorem fine_own_ne {d : ExD} {l : List Ex} (h : (Ex.mk d l).fineE = true) {w : World} (hI : (Ex.mk d l).In w) : d.kind ≠ 0 ∧ (∀ s ∈ d.labels, s ≠ []) := by
  have hF := fields_of (fine_own h)
  have hp := hF.pn
  have hll : d.labels.length = d.ln := hI.labLen
  have h3 := hF.lists
  refine ⟨fun k => ?_, fun s hs e => ?_⟩
  · unfold partsF at hp
    rw [if_neg (by omega), if_neg (by omega), if_neg (by omega), if_neg (by omega), if_neg (by omega), if_neg (by omega)] at hp
    omega
  · subst e
    unfold ExD.listsB at h3
    have hall : ∀ k, labB d.labels k = true → False := fun k hk => by
      unfold labB at hk
      simp only [Bool.and_eq_true, List.all_eq_true] at hk
      have := hk.2 [] hs
      rw [tokB_nil] at this
      cases this
    split at h3
    · simp only [Bool.and_eq_true] at h3
      exact hall _ h3.1
    split at h3
    · simp only [Bool.and_eq_true] at h3
      exact hall _ h3.1.1.1
    · simp only [Bool.and_eq_true, decide_eq_true_eq] at h3
      rw [h3.1] at hll
      rw [List.eq_nil_of_length_eq_zero hll] at hs
      cases hs
mutual
theorem ne_num (w : World) : ∀ (t : Ex), t.In w → t.fineE = true → ∀ (env : List Bd) (ol : List Str), (t.num env ol).1.NeE
  | .mk d l, hI, hf, env, ol => by
    have h1 := fine_own_ne hf hI
    have h2 := ne_numL w d (d.numD ol.length) l (fun x hx => hI.sub x hx) (fun x hx => fine_sub hf x hx) 0 env (ol ++ d.bs)
    have hk : (d.numV ol.length env).kind = d.kind ∧ (d.numV ol.length env).labels = d.labels ∧ (d.numV ol.length env).names = if d.kind = 14 then vNames d.names.length ol.length else [] := by
      unfold ExD.numV; split <;> exact ⟨rfl, rfl, rfl⟩
    simp only [Ex.num, Ex.NeE]
    rw [hk.1, hk.2.1, hk.2.2]
    refine ⟨h1.1, h1.2, fun s hs => ?_, h2⟩
    split at hs
    · exact vNames_ne _ _ s hs
    · cases hs
theorem ne_numL (w : World) (d d1 : ExD) : ∀ (l : List Ex), (∀ x ∈ l, x.In w) → (∀ x ∈ l, x.fineE = true) → ∀ (i : Nat) (env : List Bd) (ol : List Str), NeL (numL d d1 l i env ol).1
  | [], _, _, i, env, ol => trivial
  | x :: l, hI, hf, i, env, ol => by
    simp only [numL]
    exact ⟨ne_num w x (hI x (List.mem_cons_self ..)) (hf x (List.mem_cons_self ..)) _ _, ne_numL w d d1 l (fun y hy => hI y (List.mem_cons_of_mem _ hy)) (fun y hy => hf y (List.mem_cons_of_mem _ hy)) _ _ _⟩
end
theorem zero_cell {w : World} {r o : Nat} {x : Value} {fr : Nat × Nat} (h : w.heap[r]? = some (.cells #[.int .i64 0, .int .i64 0, .int .i64 0, .string ⟨#[]⟩, .string ⟨#[]⟩, .slice none 0 0, .slice none 0 0, .slice none 0 0] 25 fr)) (hc : w.cell? ⟨r, o, none⟩ = some x) : x = .int .i64 0 ∨ x = .string ⟨#[]⟩ ∨ x = .slice none 0 0 := by
  unfold World.cell? at hc
  rw [show (⟨r, o, none⟩ : Addr).block = r from rfl, h] at hc
  simp only [Option.isSome_none, Bool.false_eq_true, if_false] at hc
  have hm : x ∈ ([.int .i64 0, .int .i64 0, .int .i64 0, .string ⟨#[]⟩, .string ⟨#[]⟩, .slice none 0 0, .slice none 0 0, .slice none 0 0] : List Value) := by
    have := Array.mem_of_getElem? hc
    simpa using this
  simp only [List.mem_cons, List.not_mem_nil, or_false] at hm
  rcases hm with h | h | h | h | h | h | h | h <;> simp [h]
theorem ne_str {w : World} {r n : Nat} {A : Option Addr} {l : List Str} {fr : Nat × Nat} (h : w.heap[r]? = some (.cells #[.int .i64 0, .int .i64 0, .int .i64 0, .string ⟨#[]⟩, .string ⟨#[]⟩, .slice none 0 0, .slice none 0 0, .slice none 0 0] 25 fr)) (hr : Rd w 1 A n (strs l)) (hl : ∀ s ∈ l, s ≠ []) (h0 : 0 < n) (a : Addr) (ha : A = some a) : a.block ≠ r := by
  have hlen := rd_len hr
  have h0' : 0 < l.length := by omega
  obtain ⟨b, o, e, hc⟩ := hr.str h0'
  rw [ha] at e
  injection e with e
  subst e
  intro e
  have e' : b = r := e
  subst e'
  have h1 := hc 0 h0'
  rcases zero_cell h h1 with q | q | q
  · cases q
  · injection q with q
    have h2 := bstr_toList l[0]
    rw [q] at h2
    have h3 : (⟨#[]⟩ : ByteArray).toList = [] := bstr_toList []
    exact hl _ (List.getElem_mem h0') (h2.symm.trans h3)
  · cases q
theorem ne_bl {w : World} {r : Nat} {fr : Nat × Nat} {t : Ex} (h : w.heap[r]? = some (.cells #[.int .i64 0, .int .i64 0, .int .i64 0, .string ⟨#[]⟩, .string ⟨#[]⟩, .slice none 0 0, .slice none 0 0, .slice none 0 0] 25 fr)) (hI : t.In w) : t.NeE → t.Bl (fun b => b ≠ r) := by
  induction hI with
  | mk d l lab nam par cap sub ih =>
    intro hn
    simp only [Ex.NeE] at hn
    refine .mk d l (fun h0 a ha => ne_str h lab hn.2.1 h0 a ha) (fun h0 a ha => ne_str h nam hn.2.2.1 h0 a ha) (fun h0 a ha e => ?_) (fun x hx => ih x hx (NeL_mem hn.2.2.2 x hx))
    have hI2 : (Ex.mk d l).In w := .mk d l lab nam par cap sub
    have hlen : l.length = d.pn := hI2.len
    have hk : 0 < l.length := by omega
    obtain ⟨b, o, e2, hAt⟩ := hI2.part (k := 0) hk
    have e3 : d.pA = some ⟨b, o, none⟩ := e2
    rw [ha] at e3
    injection e3 with e3
    subst e3
    have e' : b = r := e
    subst e'
    have h1 := (hAt 0 hk).c0
    rcases zero_cell h h1 with q | q | q
    · injection q with _ q
      have hx : (l[0]'hk).NeE := NeL_mem hn.2.2.2 _ (List.getElem_mem hk)
      have q' : (l[0]'hk).d.kind = 0 := q
      revert hx q'
      cases l[0]'hk with
      | mk d0 l0 =>
        intro hx q'
        exact hx.1 q'
    · cases q
    · cases q
/-- What Number tells. -/
def NumR (t : Ex) (w : World) (e : Ending) (w' : World) : Prop :=
  Below w.heap.size w w' ∧ if (mayE t 1 0).isSome = true then ∃ (t' : Ex) (A : Option Addr) (n c : Nat), e = .returned (.tuple #[.agg t'.d.arr, .slice A n c, .nilIface]) ∧ n = (t.num [] []).2.length ∧ t'.lk (t.num [] []).1 ∧ t'.In w' ∧ Rd w' 1 A n (strs (t.num [] []).2)
    else e = .returned (.tuple #[.agg dZ.arr, .slice none 0 0, .iface 34 (.int .i64 1)])
theorem tab_lt {w : World} (h : Tab w) : 1 < w.heap.size := by
  unfold Tab Lib.TabIs World.var? at h
  rw [gTab] at h
  simp only [Option.bind_some] at h
  rcases Nat.lt_or_ge 1 w.heap.size with q | q
  · exact q
  · rw [Array.getElem?_eq_none q] at h
    simp at h

set_option maxRecDepth 100000 in
set_option maxHeartbeats 2000000 in
theorem scNumber_any (t : Ex) (w : World) (hL : Lay w) (hT : Tab w) (hIn : t.In w) :
    Calls Tryz.prog 21 #[.agg t.d.arr] w fun e w' => NumR t w e w' := by
  have hb1 : Below w.heap.size w (w.alloc (.cells t.d.arr 25)) := (Below.refl _ _).alloc (Nat.le_refl _) _
  have hs1 : (w.alloc (.cells t.d.arr 25)).heap.size = w.heap.size + 1 := World.size_alloc _ _
  have hb2 : Below (w.alloc (.cells t.d.arr 25)).heap.size (w.alloc (.cells t.d.arr 25)) ((w.alloc (.cells t.d.arr 25)).alloc (.cells #[.int .i64 0, .int .i64 0, .int .i64 0, .string ⟨#[]⟩, .string ⟨#[]⟩, .slice none 0 0, .slice none 0 0, .slice none 0 0] 25)) := (Below.refl _ _).alloc (Nat.le_refl _) _
  have hE := (ex_box w t.d).lower hb2
  have hrz : Cl ((w.alloc (.cells t.d.arr 25)).alloc (.cells #[.int .i64 0, .int .i64 0, .int .i64 0, .string ⟨#[]⟩, .string ⟨#[]⟩, .slice none 0 0, .slice none 0 0, .slice none 0 0] 25)) (w.heap.size + 1) dZ := by
    have := Cl.new (w.alloc (.cells t.d.arr 25)) dZ
    rwa [hs1] at this
  have hzr : ∃ fr, ((w.alloc (.cells t.d.arr 25)).alloc (.cells #[.int .i64 0, .int .i64 0, .int .i64 0, .string ⟨#[]⟩, .string ⟨#[]⟩, .slice none 0 0, .slice none 0 0, .slice none 0 0] 25)).heap[w.heap.size + 1]? = some (.cells #[.int .i64 0, .int .i64 0, .int .i64 0, .string ⟨#[]⟩, .string ⟨#[]⟩, .slice none 0 0, .slice none 0 0, .slice none 0 0] 25 fr) := by
    have := heap_alloc_new (w.alloc (.cells t.d.arr 25)) (.cells #[.int .i64 0, .int .i64 0, .int .i64 0, .string ⟨#[]⟩, .string ⟨#[]⟩, .slice none 0 0, .slice none 0 0, .slice none 0 0] 25)
    rw [hs1] at this
    exact ⟨_, this⟩
  have HZR := Lib.hid hzr
  have HW := Lib.hid (And.intro hL (And.intro hT hIn))
  have HB := Lib.hid (below_then hb1 hb2)
  have HE := Lib.hid hE
  have HZ := Lib.hid hrz
  clear hL hT hIn hb1 hb2 hrz hE hzr
  go_enter Tryz.func21, Tryz.ntmps21
  go_upto_region 1 with fail
  generalize (w.alloc (.cells t.d.arr 25)).alloc (.cells #[.int .i64 0, .int .i64 0, .int .i64 0, .string ⟨#[]⟩, .string ⟨#[]⟩, .slice none 0 0, .slice none 0 0, .slice none 0 0] 25) = w2 at *
  clear hs1
  have HM := Lib.hid (may_any t w2 (HW.out.1.below HB.out) (HW.out.2.2.lower HB.out))
  obtain ⟨E, hEE⟩ : ∃ E, w.heap.size = E := ⟨_, rfl⟩
  obtain ⟨r, hr⟩ : ∃ r, E + 1 = r := ⟨_, rfl⟩
  have HEr := Lib.hid (And.intro hEE hr)
  rw [hEE] at HE HZ ⊢
  rw [hEE] at HZR
  rw [hr] at HZ HZR ⊢
  clear hEE hr
  obtain ⟨c0, c1, c2, c3, c4, c5, c6, c7⟩ := HE.out
  go_wp2_with fail
  refine HM.out.mono ?_
  rintro e w3 ⟨rfl, hb3⟩
  have HB3 := Lib.hid hb3
  clear hb3 c0 c1 c2 c3 c4 c5 c6 c7 HM
  have hz3 := HZ.out.below HB3.out
  have HZ3 := Lib.hid hz3
  have hrl : w.heap.size ≤ r := by have := HEr.out; omega
  have HRL := Lib.hid hrl
  clear hrl hz3
  by_cases hm : (mayE t 1 0).isSome = true
  · have HMY := Lib.hid hm
    rw [hm]
    clear hm
    go_upto_region 4 with fail
    have hbN : Below w3.heap.size w3 (w3.alloc (.cells #[.slice none 0 0] 81)) := (Below.refl _ _).alloc (Nat.le_refl _) _
    have hNO : NO (w3.alloc (.cells #[.slice none 0 0] 81)) w3.heap.size [] (.slice none 0 0) := ⟨cell_new w3 _ _ 0 rfl, frozen_new w3 _ _ 0, World.ownsRow_nil _ _ _ _⟩
    have hT3 : Tab w3 := tab_below HW.out.2.1 (below_then HB.out HB3.out)
    have hI3 : t.In w3 := HW.out.2.2.lower (below_then HB.out HB3.out)
    have hE3 : t.d.At w3 E 0 := HE.out.lower HB3.out
    have hml := may_le HMY.out
    have hfn := may_fine HMY.out
    have hbs := bsN_le w3 t hI3 hfn
    have HOF := Lib.hid (numOf_any w3 t hI3 w3.heap.size (Nat.le_refl _) [] (.slice none 0 0) [] (.slice none 0 0) (w3.alloc (.cells #[.slice none 0 0] 81)) E 0 hbN hNO ⟨tab_below hT3 hbN, tab_lt hT3⟩ (World.ownsRow_nil _ _ _ _) (fun k hk => by cases hk) (fun p hp => by cases hp) hE3 hfn (by simp only [List.length_nil]; omega) (by simp only [List.length_nil]; omega))
    have HZ4 := Lib.hid (HZ3.out.below hbN)
    have HBN := Lib.hid hbN
    have HSN := Lib.hid (show (w3.alloc (.cells #[.slice none 0 0] 81)).heap.size = w3.heap.size + 1 by simp)
    have HRN := Lib.hid (show r < w3.heap.size from HZ3.out.lt)
    clear hbN hNO hT3 hI3 hE3 hml hfn hbs
    generalize (w3.alloc (.cells #[.slice none 0 0] 81)) = w4 at *
    obtain ⟨N, hN⟩ : ∃ N, w3.heap.size = N := ⟨_, rfl⟩
    have HNN := Lib.hid hN
    rw [hN] at HOF HSN HRN ⊢
    clear hN
    go_wp2_with fail
    refine HOF.out.mono ?_
    rintro e w5 ⟨t', v5, rfl, hlk, hin, hbl, hno, hfe, hnew⟩
    obtain ⟨A5, c5, rfl, _⟩ := own_cap hno.own
    have HNO := Lib.hid hno
    have HRR := Lib.hid (And.intro hlk hin)
    have hkr : w5.heap[r]? = w4.heap[r]? := hfe.oth r HZ4.out.lt (fun q => by rcases q with q | q; (have := HRN.out; omega); (cases q)) (by intro q; cases q)
    have HZ5 := Lib.hid (HZ4.out.kept hkr)
    have HH5 := Lib.hid (show w5.heap[r]? = w2.heap[r]? from hkr.trans ((HBN.out.block r HZ3.out.lt).trans (HB3.out.block r HZ.out.lt)))
    have HFE := Lib.hid hfe.b
    clear hlk hin hbl hno hfe hnew hkr HOF
    go_upto_region 5 with fail
    have hb6 : Below w5.heap.size w5 (w5.alloc (.cells #[.int .i64 t'.d.kind, .int .i64 t'.d.at_, .int .i64 t'.d.n, .string (bstr t'.d.s), .string (bstr t'.d.t), .slice t'.d.lA t'.d.ln t'.d.lc, .slice t'.d.nA t'.d.nn t'.d.nc, .slice t'.d.pA t'.d.pn t'.d.pc] 25)) := (Below.refl _ _).alloc (Nat.le_refl _) _
    obtain ⟨a0, a1, a2, a3, a4, a5, a6, a7⟩ := (ex_box w5 t'.d)
    have n0 := (HNO.out.below hb6).c
    have hdr := HZ5.out.below hb6
    obtain ⟨y0, y1, y2, y3, y4, y5, y6, y7⟩ := hdr.load
    obtain ⟨f0, f1, f2, f3, f4, f5, f6, f7⟩ := hdr.free
    have HDR := Lib.hid hdr
    have HB6 := Lib.hid hb6
    have HPB := Lib.hid (show r < w5.heap.size from HZ5.out.lt)
    clear hdr hb6
    generalize w5.alloc (.cells #[.int .i64 t'.d.kind, .int .i64 t'.d.at_, .int .i64 t'.d.n, .string (bstr t'.d.s), .string (bstr t'.d.t), .slice t'.d.lA t'.d.ln t'.d.lc, .slice t'.d.nA t'.d.nn t'.d.nc, .slice t'.d.pA t'.d.pn t'.d.pc] 25) = w6 at *
    obtain ⟨pb, hpb⟩ : ∃ pb, w5.heap.size = pb := ⟨_, rfl⟩
    rw [hpb] at a0 a1 a2 a3 a4 a5 a6 a7 HPB ⊢
    have HPE := Lib.hid hpb
    clear hpb
    have HRP := Lib.hid (show r ≠ pb by have := HPB.out; omega)
    have n8 : (w6.setCell ⟨r, 0, none⟩ (.int .i64 t'.d.kind)).cell? ⟨N, 0, none⟩ = some (.slice A5 (t.num [] []).2.length c5) := (World.cell?_of_block (a := ⟨N, 0, none⟩) (heap_set_ne w6 _ (show N ≠ r by have := HRN.out; omega))).trans n0
    go_region
    obtain ⟨w9, hw9, hcl9, hk9, _, hb9⟩ := set8 HDR.out t'.d
    rw [hw9]
    obtain ⟨x0, x1, x2, x3, x4, x5, x6, x7⟩ := (hcl9.below ((Below.refl _ _).drew)).load
    clear a0 a1 a2 a3 a4 a5 a6 a7 n0 n8 y0 y1 y2 y3 y4 y5 y6 y7 f0 f1 f2 f3 f4 f5 f6 f7 hw9 hcl9
    go_wp2_with fail
    refine bodyPost_ret (v := .tuple #[.agg t'.d.arr, .slice A5 (t.num [] []).2.length c5, .nilIface]) (by simp [results, Tryz.results21, go_sem, x0, x1, x2, x3, x4, x5, x6, x7]) rfl ?_
    have hb69 : Below w.heap.size w6 w9.drew := (hb9 _ HRL.out).drew
    have hsz : w.heap.size ≤ w3.heap.size := Nat.le_trans HB.out.size HB3.out.size
    have hsz4 : w3.heap.size ≤ w4.heap.size := HBN.out.size
    have hb46 : Below w.heap.size w4 w6 := (HFE.out.mono (by have := HNN.out; omega)).trans (HB6.out.mono (by have := HFE.out.size; omega))
    have hall : Below w.heap.size w w9.drew := ((below_then HB.out HB3.out).trans (HBN.out.mono hsz)).trans (hb46.trans hb69)
    have hI3 : t.In w3 := HW.out.2.2.lower (below_then HB.out HB3.out)
    obtain ⟨fr, hzr⟩ := HZR.out
    have hbl5 := ne_bl (HH5.out.trans hzr) HRR.out.2 (ne_lk HRR.out.1 (ne_num w3 t hI3 (may_fine HMY.out) [] []))
    have hI9 : t'.In w9.drew := HRR.out.2.keepP hbl5 (fun b hbr hb => (hk9 b hbr).trans (HB6.out.block b hb))
    have hR9 : Rd w9.drew 1 A5 (t.num [] []).2.length (strs (t.num [] []).2) := by
      refine rd_keepP (P := fun b => b ≠ r) (Rd.of_own HNO.out.own) (fun _ a ha => ?_) (fun b hbr hb => (hk9 b hbr).trans (HB6.out.block b hb))
      have := (HNO.out.own.lt a.block (by rw [ha]; rfl)).1
      have := HRN.out
      omega
    exact ⟨hall, by rw [if_pos HMY.out]; exact ⟨t', A5, _, c5, rfl, rfl, HRR.out.1, hI9, hR9⟩⟩
  · have HMY := Lib.hid hm
    have hm' : (mayE t 1 0).isSome = false := by simpa using hm
    rw [hm']
    obtain ⟨y0, y1, y2, y3, y4, y5, y6, y7⟩ := HZ3.out.load
    obtain ⟨f0, f1, f2, f3, f4, f5, f6, f7⟩ := HZ3.out.free
    clear hm hm'
    go_wp2_with fail
    obtain ⟨w9, hw9, hcl9, hk9, _, hb9⟩ := set8 HZ3.out dZ
    have hw9' : (((((((w3.setCell ⟨r, 0, none⟩ (.int .i64 0)).setCell ⟨r, 1, none⟩ (.int .i64 0)).setCell ⟨r, 2, none⟩ (.int .i64 0)).setCell ⟨r, 3, none⟩ (.string ⟨#[]⟩)).setCell ⟨r, 4, none⟩ (.string ⟨#[]⟩)).setCell ⟨r, 5, none⟩ (.slice none 0 0)).setCell ⟨r, 6, none⟩ (.slice none 0 0)).setCell ⟨r, 7, none⟩ (.slice none 0 0) = w9 := hw9
    rw [hw9']
    obtain ⟨x0, x1, x2, x3, x4, x5, x6, x7⟩ := hcl9.load
    refine bodyPost_ret (v := .tuple #[.agg dZ.arr, .slice none 0 0, .iface 34 (.int .i64 1)]) (by simp [results, Tryz.results21, go_sem, x0, x1, x2, x3, x4, x5, x6, x7]) rfl ?_
    exact ⟨(below_then HB.out HB3.out).trans (hb9 _ HRL.out), by rw [if_neg HMY.out]⟩
end Go.Proofs.YtaglmmcjhlehjaaGreatDoor

namespace Go.Proofs.YtaglmmcjhlehjaaGreatDoor
open Go.ChangeShapes Go.WideShapes Go.ChangeAt Go.RowKit Go.Sort
set_option linter.unusedVariables false
set_option linter.unusedSimpArgs false

/-- Numbers for the binders of an expression and its parts, by the document's answer. -/
theorem do_any (w0 : World) (N : Nat) (hN : w0.heap.size ≤ N) (t : Ex) (hI : t.In w0) : ∀ (env : List Bd) (A : Option Addr) (c : Nat) (ol : List Str) (s : Int × Bool) (v : Value) (W : World), Below w0.heap.size w0 W → NR W N ol s.1 s.2 v → TB N W → Rd W 2 A env.length (bds env) → (0 < env.length → ∀ a, A = some a → a.block ≠ N ∧ some a.block ≠ v.ownBlock) → (∀ p ∈ env, p.2.length ≤ 9223372036854775807) → t.fineE = true → ol.length + t.bsN ≤ 4000000 → env.length + 2 * t.depth ≤ 4000000 →
    Calls Tryz.prog 22 #[.pointer (some ⟨N, 0, none⟩), .agg t.d.arr, .slice A env.length c] W fun e w' => DoR N ol s v env t W e w' := by
  have key : ∀ (t : Ex), t.In w0 → ∀ (env : List Bd) (A : Option Addr) (c : Nat) (ol : List Str) (s : Int × Bool) (v : Value) (W : World), Below w0.heap.size w0 W → NR W N ol s.1 s.2 v → TB N W → Rd W 2 A env.length (bds env) → (0 < env.length → ∀ a, A = some a → a.block ≠ N ∧ some a.block ≠ v.ownBlock) → (∀ p ∈ env, p.2.length ≤ 9223372036854775807) → t.fineE = true → ol.length + t.bsN ≤ 4000000 → env.length + 2 * t.depth ≤ 4000000 →
      Calls Tryz.prog 22 #[.pointer (some ⟨N, 0, none⟩), .agg t.d.arr, .slice A env.length c] W fun e w' => DoR N ol s v env t W e w' := by
    intro t ht
    induction ht with
    | mk d l lab nam par cap sub ih =>
      intro env A c ol s v W hb hn hT hE hEB hEL hf hm hd
      have hI : (Ex.mk d l).In w0 := .mk d l lab nam par cap sub
      have hd' : env.length + 2 * (depthL l + 1) ≤ 4000000 := hd
      by_cases h3 : d.kind = 3
      · exact do_var w0 d l hI N hN env A c ol s v W hb hn hE hEB hEL ((fine_parts hf hI).1 h3) (by omega) h3
      · exact do_rest w0 d l hI N hN (fun x hx => ih x hx) env A c ol s v W hb hn hT hE hEB hEL hf hm hd' h3
  exact key t hI
/-- The document's numbers, new. -/
theorem NR.new (w : World) : NR (w.alloc (.cells #[.slice none 0 0, .int .i64 0, .bool false] 44)) w.heap.size [] 0 false (.slice none 0 0) :=
  ⟨⟨cell_new w _ _ 0 rfl, frozen_new w _ _ 0, World.ownsRow_nil _ _ _ _⟩, cell_new w _ _ 1 rfl, cell_new w _ _ 2 rfl, frozen_new w _ _ 1, frozen_new w _ _ 2⟩
/-- From new numbers on. -/
theorem do_new (t : Ex) (w : World) (hT : Tab w) (hI : t.In w) (hm : (mayE t 1 0).isSome = true) : Calls Tryz.prog 22 #[.pointer (some ⟨w.heap.size, 0, none⟩), .agg t.d.arr, .slice none 0 0] (w.alloc (.cells #[.slice none 0 0, .int .i64 0, .bool false] 44)) fun e w' => DoR w.heap.size [] (0, false) (.slice none 0 0) [] t (w.alloc (.cells #[.slice none 0 0, .int .i64 0, .bool false] 44)) e w' := by
  have hb : Below w.heap.size w (w.alloc (.cells #[.slice none 0 0, .int .i64 0, .bool false] 44)) := (Below.refl _ _).alloc (Nat.le_refl _) _
  have hml := may_le hm
  have hfn := may_fine hm
  have hbs := bsN_le w t hI hfn
  exact do_any w w.heap.size (Nat.le_refl _) t hI [] none 0 [] (0, false) (.slice none 0 0) _ hb (NR.new w) ⟨tab_below hT hb, tab_lt hT⟩ (Rd.nil _ _ _) (fun h => by cases h) (fun p hp => by cases hp) hfn (by simp only [List.length_nil]; omega) (by simp only [List.length_nil]; omega)

set_option maxRecDepth 100000 in
set_option maxHeartbeats 2000000 in
theorem refCheck_any (t : Ex) (w : World) (hT : Tab w) (hIn : t.In w) (hn : t.nodes ≤ 3000000) (hm : t.Sm) :
    Calls Tryz.prog 18 #[.agg t.d.arr] w fun e w' => e = .returned (.tuple #[.int .i64 t.chk.1, .int .i64 t.chk.2]) ∧ Below w.heap.size w w' := by
  have hb1 : Below w.heap.size w (w.alloc (.cells t.d.arr 25)) := (Below.refl _ _).alloc (Nat.le_refl _) _
  have hE := ex_box w t.d
  have HW := Lib.hid (And.intro hT (And.intro hIn (And.intro hn hm)))
  have HB := Lib.hid hb1
  have HE := Lib.hid hE
  clear hT hIn hn hm hb1 hE
  go_enter Tryz.func18, Tryz.ntmps18
  go_upto_region 1 with fail
  generalize w.alloc (.cells t.d.arr 25) = w1 at *
  have HM := Lib.hid (refMay_any t w1 (HW.out.2.1.lower HB.out) HW.out.2.2.1 HW.out.2.2.2)
  obtain ⟨E, hEE⟩ : ∃ E, w.heap.size = E := ⟨_, rfl⟩
  rw [hEE] at HE ⊢
  clear hEE
  obtain ⟨c0, c1, c2, c3, c4, c5, c6, c7⟩ := HE.out
  go_wp2_with fail
  refine HM.out.mono ?_
  rintro e w3 ⟨rfl, hb3⟩
  have HB3 := Lib.hid hb3
  clear hb3 c0 c1 c2 c3 c4 c5 c6 c7 HM
  have HB03 := Lib.hid (below_then HB.out HB3.out)
  by_cases hm : (mayE t 1 0).isSome = true
  · have HMY := Lib.hid hm
    have HCH := Lib.hid (show t.chk = (match t.firstF [] with | some a => ((4 : Int), a) | none => (0, -1)) by unfold Ex.chk; rw [if_pos hm]; cases t.firstF [] <;> rfl)
    rw [hm]
    clear hm
    go_upto_region 5 with fail
    have HDO := Lib.hid (do_new t w3 (tab_below HW.out.1 HB03.out) (HW.out.2.1.lower HB03.out) HMY.out)
    have HBN := Lib.hid (show Below w3.heap.size w3 (w3.alloc (.cells #[.slice none 0 0, .int .i64 0, .bool false] 44)) from (Below.refl _ _).alloc (Nat.le_refl _) _)
    obtain ⟨c0, c1, c2, c3, c4, c5, c6, c7⟩ := HE.out.lower (below_then HB3.out HBN.out)
    generalize w3.alloc (.cells #[.slice none 0 0, .int .i64 0, .bool false] 44) = w4 at *
    obtain ⟨N, hN⟩ : ∃ N, w3.heap.size = N := ⟨_, rfl⟩
    have HNE := Lib.hid hN
    rw [hN] at HDO ⊢
    clear hN
    go_wp2_with fail
    refine HDO.out.mono ?_
    rintro e w5 ⟨t', v5, rfl, _, _, _, hnr, hfd, _⟩
    have HNR := Lib.hid hnr
    have n1 := hnr.c1
    have n2 := hnr.c2
    have HB5 := Lib.hid (show Below w.heap.size w w5 from HB03.out.trans ((HBN.out.mono HB03.out.size).trans (hfd.b.mono (by have := HNE.out; have := HB03.out.size; omega))))
    clear c0 c1 c2 c3 c4 c5 c6 c7 hnr hfd HDO
    rw [List.map_nil] at n1 n2
    cases hr : t.firstF [] with
    | none =>
      rw [hr, ffU_none] at n1 n2
      rw [hr] at HCH
      clear hr
      go_wp2_with fail
      go_returns
      exact ⟨by rw [HCH.out]; rfl, HB5.out⟩
    | some a =>
      rw [hr] at HCH n1 n2
      have n1' : w5.cell? ⟨N, 1, none⟩ = some (.int .i64 a) := n1
      have n2' : w5.cell? ⟨N, 2, none⟩ = some (.bool true) := n2
      clear hr n1 n2
      go_wp2_with fail
      go_quiet (fail)
      go_wp2_with fail
      go_returns
      exact ⟨by rw [HCH.out]; rfl, below_drewN HB5.out _⟩
  · have hm' : (mayE t 1 0).isSome = false := by simpa using hm
    have HCH := Lib.hid (show t.chk = (1, -1) by unfold Ex.chk; rw [if_neg hm])
    rw [hm']
    clear hm hm'
    go_wp2_with fail
    go_returns
    exact ⟨by rw [HCH.out]; rfl, HB03.out⟩
end Go.Proofs.YtaglmmcjhlehjaaGreatDoor

namespace Go.Proofs.YtaglmmcjhlehjaaGreatDoor
open Go.ChangeShapes Go.WideShapes Go.ChangeAt Go.RowKit Go.Sort
set_option linter.unusedVariables false
set_option linter.unusedSimpArgs false

abbrev eVa (p : Int) : ExD := ⟨3, p, 0, [97], [], none, 0, 0, [], none, 0, 0, [], none, 0, 0⟩
abbrev eFa (B : Nat) : ExD := ⟨4, 0, 0, [97], [], none, 0, 0, [], none, 0, 0, [], some ⟨B, 0, none⟩, 1, 1⟩
abbrev tSc (B C : Nat) : Ex := .mk (eFa C) [.mk (eFa B) [.mk (eVa 0) []]]
theorem maySc (B C : Nat) : (mayE (tSc B C) 1 0).isSome = true := by first | rfl | kernel_rfl
theorem chkSc : (Ex.mk (eVa 3) []).chk = (4, 3) := by first | rfl | kernel_rfl
theorem numSc (B C : Nat) : ((tSc B C).num [] []).1 = .mk ((eFa C).numV 0 []) [.mk ((eFa B).numV 1 [([97], vName 0)]) [.mk ((eVa 0).numV 2 [([97], vName 0), ([97], vName 1)]) []]] := by first | rfl | kernel_rfl
theorem oldSc (B C : Nat) : ((tSc B C).num [] []).2 = [[97], [97]] := by first | rfl | kernel_rfl
theorem s1Sc (C : Nat) : ((eFa C).numV 0 []).s = [118, 48] := by first | rfl | kernel_rfl
theorem s3Sc : ((eVa 0).numV 2 [([97], vName 0), ([97], vName 1)]).s = [118, 49] := by first | rfl | kernel_rfl
theorem shapeSc {B C : Nat} {t : Ex} (h : t.lk ((tSc B C).num [] []).1) : ∃ d1 d2 d3, t = .mk d1 [.mk d2 [.mk d3 []]] ∧ d1.s = [118, 48] ∧ d3.s = [118, 49] := by
  rw [numSc] at h
  obtain ⟨d1, l1⟩ := t
  simp only [Ex.lk] at h
  obtain ⟨h1, h⟩ := h
  match l1, h with
  | [.mk d2 l2], h =>
    simp only [lkL, Ex.lk] at h
    obtain ⟨⟨h2, h⟩, _⟩ := h
    match l2, h with
    | [.mk d3 l3], h =>
      simp only [lkL, Ex.lk] at h
      obtain ⟨⟨h3, h⟩, _⟩ := h
      match l3, h with
      | [], _ => exact ⟨d1, d2, d3, rfl, h1.2.2.2.1.trans (s1Sc C), h3.2.2.2.1.trans s3Sc⟩
      | _ :: _, h => simp [lkL] at h
    | [], h => simp [lkL] at h
    | _ :: _ :: _, h => simp [lkL] at h
  | [], h => simp [lkL] at h
  | _ :: _ :: _, h => simp [lkL] at h
theorem leafS {d : ExD} {w : World} (h1 : d.lA = none ∧ d.ln = 0 ∧ d.labels = [] ∧ d.nA = none ∧ d.nn = 0 ∧ d.names = []) (hp : d.pn = 0) (h : (d.ln ≤ d.lc ∧ d.lc ≤ maxLen ∧ d.ln ≤ 9223372036854775807) ∧ (d.nn ≤ d.nc ∧ d.nc ≤ maxLen ∧ d.nn ≤ 9223372036854775807) ∧ (d.pn ≤ d.pc ∧ d.pc ≤ maxLen ∧ d.pn ≤ 9223372036854775807) ∧ d.s.length ≤ 9223372036854775807 ∧ d.t.length ≤ 9223372036854775807) : (Ex.mk d []).In w := by
  obtain ⟨a, b, c, e, f, g⟩ := h1
  exact .mk d [] (by rw [b, c]; exact Rd.nil _ _ _) (by rw [f, g]; exact Rd.nil _ _ _) (by rw [hp]; exact Rd.nil _ _ _) ⟨h.1, h.2.1, h.2.2.1, h.2.2.2.1, h.2.2.2.2, by rw [c]; simp, by rw [g]; simp⟩ (by simp)
abbrev v1Sc (w : World) : World := w.alloc (.cells (eVa 0).arr 25)
abbrev v2Sc (w : World) : World := (v1Sc w).alloc (.cells (eFa w.heap.size).arr 25)
theorem belowSc (w : World) : Below w.heap.size w (v2Sc w) := ((Below.refl _ _).alloc (Nat.le_refl _) _).alloc (by simp [v1Sc]) _
theorem inSc (w : World) : (tSc w.heap.size (w.heap.size + 1)).In (v2Sc w) := by
  have r1 : Rd (v2Sc w) 8 (some ⟨w.heap.size, 0, none⟩) 1 (Ex.cells (.mk (eVa 0) [])) :=
    (Rd.lit (size := 8) (n := 1) w (eVa 0).arr 25 rfl (fr := (0, 0))).alloc (.cells (eFa w.heap.size).arr 25)
  have r2 : Rd (v2Sc w) 8 (some ⟨w.heap.size + 1, 0, none⟩) 1 (Ex.cells (.mk (eFa w.heap.size) [])) := by
    have h := Rd.lit (size := 8) (n := 1) (v1Sc w) (eFa w.heap.size).arr 25 rfl (fr := (0, 0))
    rw [show (v1Sc w).heap.size = w.heap.size + 1 from by simp [v1Sc]] at h
    exact h
  have m4 : (1 : Nat) ≤ maxLen := by decide
  refine .mk _ _ (Rd.nil _ _ _) (Rd.nil _ _ _) (by rw [List.flatMap_cons, List.flatMap_nil, List.append_nil]; exact r2) ⟨by simp, by simp, ⟨by simp, by simp; omega, by simp⟩, by simp, by simp, by simp, by simp⟩ (fun x hx => ?_)
  obtain rfl := List.mem_singleton.1 hx
  refine .mk _ _ (Rd.nil _ _ _) (Rd.nil _ _ _) (by rw [List.flatMap_cons, List.flatMap_nil, List.append_nil]; exact r1) ⟨by simp, by simp, ⟨by simp, by simp; omega, by simp⟩, by simp, by simp, by simp, by simp⟩ (fun x hx => ?_)
  obtain rfl := List.mem_singleton.1 hx
  exact leafS ⟨rfl, rfl, rfl, rfl, rfl, rfl⟩ rfl (by simp)

set_option maxRecDepth 100000 in
set_option maxHeartbeats 2000000 in
theorem up8_any (w : World) (hL : Lay w) (hT : Tab w) (hE : ET w) : Calls Tryz.prog 17 #[] w fun e w' => e = .returned (.bool true) ∧ Below w.heap.size w w' := by
  have HB := Lib.hid (belowSc w)
  have HX := Lib.hid (scNumber_any (tSc w.heap.size (w.heap.size + 1)) (v2Sc w) (hL.below (belowSc w)) (tab_below hT (belowSc w)) (inSc w))
  have HL := Lib.hid (And.intro hL (And.intro hT hE))
  have g1 : ((bstr [118, 48]).toList == [118, 48]) = true := by rw [bstr_toList]; decide
  have g2 : ((bstr [118, 49]).toList == [118, 49]) = true := by rw [bstr_toList]; decide
  clear hL hT hE
  go_enter Tryz.func17, Tryz.ntmps17
  go_wp2_with fail
  refine HX.out.mono ?_
  rintro r w5 ⟨hb5, hr⟩
  rw [if_pos (maySc _ _)] at hr
  obtain ⟨t', A, n, c, rfl, hn, hlk, hin, hrd⟩ := hr
  obtain ⟨d1, d2, d3, ht, e1, e3⟩ := shapeSc hlk
  have hd : t'.d = d1 := by rw [ht]; rfl
  rw [hd]
  rw [ht] at hin
  clear hd ht
  rw [oldSc] at hn
  have hn2 : n = 2 := hn
  subst hn2
  have HB5 := Lib.hid (below_then HB.out hb5)
  have HIN := Lib.hid hin
  have HS := Lib.hid (And.intro e1 e3)
  clear hlk hin hrd hb5 HX e1 e3
  go_upto_region 2 with fail
  have hb6 : Below w5.heap.size w5 (w5.alloc (.cells #[.int .i64 d1.kind, .int .i64 d1.at_, .int .i64 d1.n, .string (bstr d1.s), .string (bstr d1.t), .slice d1.lA d1.ln d1.lc, .slice d1.nA d1.nn d1.nc, .slice d1.pA d1.pn d1.pc] 25)) := (Below.refl _ _).alloc (Nat.le_refl _) _
  have HAT := Lib.hid (show d1.At (w5.alloc (.cells #[.int .i64 d1.kind, .int .i64 d1.at_, .int .i64 d1.n, .string (bstr d1.s), .string (bstr d1.t), .slice d1.lA d1.ln d1.lc, .slice d1.nA d1.nn d1.nc, .slice d1.pA d1.pn d1.pc] 25)) w5.heap.size 0 from ex_box w5 d1)
  have HI6 := Lib.hid (HIN.out.lower hb6)
  have HB6 := Lib.hid (below_then HB5.out hb6)
  clear hb6
  generalize w5.alloc (.cells #[.int .i64 d1.kind, .int .i64 d1.at_, .int .i64 d1.n, .string (bstr d1.s), .string (bstr d1.t), .slice d1.lA d1.ln d1.lc, .slice d1.nA d1.nn d1.nc, .slice d1.pA d1.pn d1.pc] 25) = w6 at *
  obtain ⟨pb, hpb⟩ : ∃ pb, w5.heap.size = pb := ⟨_, rfl⟩
  rw [hpb] at HAT ⊢
  clear hpb
  have HC := Lib.hid (check_any (.mk (eVa 3) []) w6 (HL.out.1.below HB6.out) (leafS ⟨rfl, rfl, rfl, rfl, rfl, rfl⟩ rfl (by simp)))
  go_wp2_with fail
  refine HC.out.mono ?_
  rintro r w7 ⟨v, rfl, herr, hb7⟩
  rw [chkSc] at herr
  have HB7 := Lib.hid (below_then HB6.out hb7)
  have HAT7 := Lib.hid (HAT.out.lower hb7)
  have HI7 := Lib.hid (HI6.out.lower hb7)
  have HO := Lib.hid (of_any v 4 3 w7 (HL.out.2.2.below HB7.out) herr)
  clear herr hb7 HC
  go_wp2_with fail
  refine HO.out.mono ?_
  rintro r w8 ⟨rfl, hb8⟩
  have HB8 := Lib.hid (below_then HB7.out hb8)
  have hI8 := HI7.out.lower hb8
  obtain ⟨c0, c1, c2, c3, c4, c5, c6, c7⟩ := HAT7.out.lower hb8
  have hp1 : 1 = d1.pn := hI8.len
  have hp2 : 1 = d2.pn := (hI8.sub _ (List.mem_singleton.2 rfl)).len
  obtain ⟨b1, o1, hA1, hP1⟩ := hI8.part (k := 0) (show 0 < 1 by decide)
  obtain ⟨k0, k1, k2, k3, k4, k5, k6, k7⟩ := (show d2.At w8 b1 (o1 + 0 * 8) from hP1 0 (show 0 < 1 by decide))
  obtain ⟨b2, o2, hA2, hP2⟩ := (hI8.sub _ (List.mem_singleton.2 rfl)).part (k := 0) (show 0 < 1 by decide)
  obtain ⟨m0, m1, m2, m3, m4, m5, m6, m7⟩ := (show d3.At w8 b2 (o2 + 0 * 8) from hP2 0 (show 0 < 1 by decide))
  have hA1' : d1.pA = some ⟨b1, o1, none⟩ := hA1
  have hA2' : d2.pA = some ⟨b2, o2, none⟩ := hA2
  have c3' : w8.cell? ⟨pb, 3, none⟩ = some (.string (bstr [118, 48])) := by rw [← HS.out.1]; simpa using c3
  have c7' : w8.cell? ⟨pb, 7, none⟩ = some (.slice (some ⟨b1, o1, none⟩) 1 d1.pc) := by rw [← hA1', hp1]; simpa using c7
  have k7' : w8.cell? ⟨b1, o1 + 7, none⟩ = some (.slice (some ⟨b2, o2, none⟩) 1 d2.pc) := by rw [← hA2', hp2]; simpa using k7
  have m3' : w8.cell? ⟨b2, o2 + 3, none⟩ = some (.string (bstr [118, 49])) := by rw [← HS.out.2]; simpa using m3
  clear c0 c1 c2 c3 c4 c5 c6 c7 k0 k1 k2 k3 k4 k5 k6 k7 m0 m1 m2 m3 m4 m5 m6 m7 hI8 hA1 hA2 hA1' hA2' hP1 hP2 hp1 hp2 hb8
  go_wp2_with fail
  go_returns
  exact ⟨rfl, HB8.out⟩
end Go.Proofs.YtaglmmcjhlehjaaGreatDoor

namespace Go.Proofs.YtaglmmcjhlehjaaGreatDoor
open Go.RowKit
set_option linter.unusedVariables false
set_option linter.unusedSimpArgs false

/-- What follows goes on with no letter and no digit. -/
def FolP (u : Str) : Prop := ∀ c r, u = c :: r → tagB c = false
theorem folP_nil : FolP [] := fun c r h => by cases h
theorem folP_cons {c : UInt8} {r : Str} (h : tagB c = false) : FolP (c :: r) := fun c' r' e => by cases e; exact h
def AllT (s : Str) : Prop := ∀ c ∈ s, tagB c = true
theorem run_eq : ∀ {s t u v : Str}, AllT s → AllT t → FolP u → FolP v → s ++ u = t ++ v → s = t ∧ u = v
  | [], [], u, v, _, _, _, _, h => ⟨rfl, h⟩
  | [], d :: t, u, v, _, ht, hu, _, h => by
    have h1 := hu d (t ++ v) h
    rw [ht d (by simp)] at h1; cases h1
  | c :: s, [], u, v, hs, _, _, hv, h => by
    have h1 := hv c (s ++ u) h.symm
    rw [hs c (by simp)] at h1; cases h1
  | c :: s, d :: t, u, v, hs, ht, hu, hv, h => by
    simp only [List.cons_append, List.cons.injEq] at h
    obtain ⟨h1, h2⟩ := run_eq (fun x hx => hs x (by simp [hx])) (fun x hx => ht x (by simp [hx])) hu hv h.2
    exact ⟨by rw [h.1, h1], h2⟩
theorem low_tag {c : UInt8} (h : lowB c = true) : tagB c = true := by unfold tagB; rw [h]; rfl
theorem dig_tag {c : UInt8} (h : digB c = true) : tagB c = true := by unfold tagB; rw [h]; simp
theorem name_tag {c : UInt8} (h : nameB c = true) : tagB c = true := by
  unfold nameB at h; unfold tagB
  cases h1 : lowB c
  · rw [h1] at h; simp at h; rw [h]; simp
  · rfl

theorem tw_allV {p : UInt8 → Bool} : ∀ (l : Str), (l.takeWhile p).length = l.length → ∀ c ∈ l, p c = true
  | [], _, c, h => by cases h
  | a :: l, e, c, h => by
    cases ha : p a with
    | false => rw [List.takeWhile_cons, ha] at e; simp at e
    | true =>
      rw [List.takeWhile_cons, ha] at e
      simp only [if_true, List.length_cons, Nat.add_right_cancel_iff] at e
      rcases List.mem_cons.1 h with rfl | h
      · exact ha
      · exact tw_allV l e c h
theorem one_nameV {c : UInt8} {r : Str} {t : Tk} {n : Nat} (h : one (c :: r) = .ok t n) (hk : t.kind = 1 ∨ t.kind = 3) : spcB c = false ∧ t.s = (c :: r).take n := by
  rw [one_cons] at h
  by_cases h1 : lowB c = true
  · rw [if_pos h1] at h
    unfold nameR at h
    split at h
    · cases h
    · injection h with e1 e2
      refine ⟨?_, by rw [← e1, ← e2]; exact (tw_take _).symm⟩
      unfold lowB at h1
      have := of_decide_eq_true h1
      unfold spcB
      exact decide_eq_false (by omega)
  rw [if_neg h1] at h
  by_cases h2 : highB c = true
  · rw [if_pos h2] at h
    unfold nameR at h
    split at h
    · cases h
    · injection h with e1 e2
      refine ⟨?_, by rw [← e1, ← e2]; exact (tw_take _).symm⟩
      unfold highB at h2
      have := of_decide_eq_true h2
      unfold spcB
      exact decide_eq_false (by omega)
  rw [if_neg h2] at h
  by_cases h3 : digB c = true
  · rw [if_pos h3] at h
    unfold numR at h
    split at h
    · split at h
      · cases h
      · injection h with e1 e2
        subst e1
        simp at hk
    · cases h
  rw [if_neg h3] at h
  by_cases h4 : c.toNat = 34
  · rw [if_pos h4] at h
    unfold textR at h
    split at h
    · split at h
      · cases h
      · injection h with e1 e2
        subst e1
        simp at hk
    · cases h
  rw [if_neg h4] at h
  unfold signR at h
  split at h
  · injection h with e1 e2
    subst e1
    simp at hk
  · split at h
    · injection h with e1 e2
      subst e1
      simp at hk
    · cases h
theorem cut_nameV : ∀ (f : Nat) (l : Str) (p : Nat) (ts : List Tok), l.length ≤ f → cutS l p = .ok ts → ∀ t ∈ ts, (t.kind = 1 ∨ t.kind = 3) → t.s.length ≤ l.length
  | f, [], p, ts, _, h, t, ht, _ => by
    rw [cutS_nil] at h
    injection h with h
    subst h
    cases ht
  | 0, c :: r, p, ts, hf, h, t, ht, _ => by simp at hf
  | f + 1, c :: r, p, ts, hf, h, t, ht, hk => by
    cases hs : spcB c with
    | true =>
      rw [cutS_spc c r p hs] at h
      have := cut_nameV f r (p + 1) ts (by simp at hf; omega) h t ht hk
      simp; omega
    | false =>
      cases ho : one (c :: r) with
      | bad o => rw [cutS_bad c r p o hs ho] at h; cases h
      | ok t1 n =>
        obtain ⟨n0, n1, _⟩ := one_front _ _ _ ho
        rw [cutS_ok c r p n t1 hs ho] at h
        obtain ⟨l', hl', rfl⟩ := pre_ok h
        simp only [List.singleton_append, List.mem_cons] at ht
        rcases ht with rfl | ht
        · have := (one_nameV ho hk).2
          have e : (t1.put p).s = t1.s := rfl
          rw [e, this, List.length_take]
          exact Nat.min_le_right _ _
        · have := cut_nameV f _ _ l' (by rw [List.length_drop]; simp at hf ⊢; omega) hl' t ht hk
          rw [List.length_drop] at this
          omega
theorem tok_isR {s : Str} {k : Int} (hk : k = 1 ∨ k = 3) (h : tokB s k = true) : ∃ c r t n, s = c :: r ∧ one s = .ok t n ∧ n = s.length ∧ t.kind = k := by
  have h0 : s ≠ [] := by rintro rfl; cases h
  have h20 : ¬ 20 < s.length := by intro h2; unfold tokB at h; rw [if_pos h2] at h; cases h
  unfold tokB at h
  rw [if_neg h20] at h
  cases s with
  | nil => exact absurd rfl h0
  | cons c r =>
    cases hs : spcB c with
    | true =>
      exfalso
      rw [cutS_spc c r 0 hs] at h
      cases hc : cutS r (0 + 1) with
      | bad p => rw [hc] at h; cases h
      | ok ts =>
        rw [hc] at h
        rcases ts with _ | ⟨t, _ | ⟨t2, q⟩⟩
        · cases h
        · have h1 : (decide (t.kind = k) && decide (t.s = c :: r)) = true := h
          simp only [Bool.and_eq_true, decide_eq_true_eq] at h1
          have h2 := cut_nameV r.length r (0 + 1) [t] (Nat.le_refl _) hc t (by simp) (by rw [h1.1]; exact hk)
          rw [h1.2] at h2; simp at h2; omega
        · cases h
    | false =>
      cases ho : one (c :: r) with
      | bad o => rw [cutS_bad c r 0 o hs ho] at h; cases h
      | ok t n =>
        obtain ⟨n0, n1, _⟩ := one_front _ _ _ ho
        rw [cutS_ok c r 0 n t hs ho] at h
        cases hc : cutS ((c :: r).drop n) (0 + n) with
        | bad p => rw [hc] at h; cases h
        | ok ts =>
          rw [hc] at h
          rcases ts with _ | ⟨t2, q⟩
          · have h1 : (decide (t.kind = k) && decide (t.s = c :: r)) = true := h
            simp only [Bool.and_eq_true, decide_eq_true_eq] at h1
            have h2 := (one_nameV ho (by rw [h1.1]; exact hk)).2
            rw [h1.2] at h2
            have h3 := congrArg List.length h2
            rw [List.length_take] at h3
            exact ⟨c, r, t, n, rfl, rfl, by omega, h1.1⟩
          · cases h
theorem tok1 {s : Str} (h : tokB s 1 = true) : (∃ c r, s = c :: r ∧ lowB c = true) ∧ AllT s ∧ s ∉ wordsL := by
  obtain ⟨c, r, t, n, rfl, ho, hn, hk⟩ := tok_isR (.inl rfl) h
  rw [one_cons] at ho
  by_cases h1 : lowB c = true
  · rw [if_pos h1] at ho
    unfold nameR at ho
    split at ho
    · cases ho
    · injection ho with e1 e2
      rw [← e2] at hn
      have hall := tw_allV _ hn
      have hs : (c :: r).takeWhile nameB = c :: r := by
        have := tw_take (p := nameB) (c :: r)
        rw [hn, List.take_length] at this; exact this.symm
      refine ⟨⟨c, r, rfl, h1⟩, fun x hx => name_tag (hall x hx), ?_⟩
      intro hw
      rw [hs] at e1
      have : isWordB (c :: r) = true := decide_eq_true hw
      rw [← e1, this] at hk
      simp at hk
  · exfalso
    rw [if_neg h1] at ho
    by_cases h2 : highB c = true
    · rw [if_pos h2] at ho
      unfold nameR at ho
      split at ho
      · cases ho
      · injection ho with e1 e2; rw [← e1] at hk; simp at hk
    · rw [if_neg h2] at ho
      by_cases h3 : digB c = true
      · rw [if_pos h3] at ho
        unfold numR at ho
        split at ho
        · split at ho
          · cases ho
          · injection ho with e1 e2; rw [← e1] at hk; simp at hk
        · cases ho
      · rw [if_neg h3] at ho
        by_cases h4 : c.toNat = 34
        · rw [if_pos h4] at ho
          unfold textR at ho
          split at ho
          · split at ho
            · cases ho
            · injection ho with e1 e2; rw [← e1] at hk; simp at hk
          · cases ho
        · rw [if_neg h4] at ho
          unfold signR at ho
          split at ho
          · injection ho with e1 e2; rw [← e1] at hk; simp at hk
          · split at ho
            · injection ho with e1 e2; rw [← e1] at hk; simp at hk
            · cases ho
theorem tok3 {s : Str} (h : tokB s 3 = true) : (∃ c r, s = c :: r ∧ highB c = true) ∧ AllT s := by
  obtain ⟨c, r, t, n, rfl, ho, hn, hk⟩ := tok_isR (.inr rfl) h
  rw [one_cons] at ho
  by_cases h1 : lowB c = true
  · rw [if_pos h1] at ho
    unfold nameR at ho
    split at ho
    · cases ho
    · injection ho with e1 e2
      rw [← e1] at hk
      split at hk <;> simp at hk
  · rw [if_neg h1] at ho
    by_cases h2 : highB c = true
    · rw [if_pos h2] at ho
      unfold nameR at ho
      split at ho
      · cases ho
      · injection ho with e1 e2
        rw [← e2] at hn
        exact ⟨⟨c, r, rfl, h2⟩, tw_allV _ hn⟩
    · exfalso
      rw [if_neg h2] at ho
      by_cases h3 : digB c = true
      · rw [if_pos h3] at ho
        unfold numR at ho
        split at ho
        · split at ho
          · cases ho
          · injection ho with e1 e2; rw [← e1] at hk; simp at hk
        · cases ho
      · rw [if_neg h3] at ho
        by_cases h4 : c.toNat = 34
        · rw [if_pos h4] at ho
          unfold textR at ho
          split at ho
          · split at ho
            · cases ho
            · injection ho with e1 e2; rw [← e1] at hk; simp at hk
          · cases ho
        · rw [if_neg h4] at ho
          unfold signR at ho
          split at ho
          · injection ho with e1 e2; rw [← e1] at hk; simp at hk
          · split at ho
            · injection ho with e1 e2; rw [← e1] at hk; simp at hk
            · cases ho

/-! ### Numbers -/
def dval (l : Str) : Nat := l.foldl (fun a c => a * 10 + (c.toNat - 48)) 0
theorem dval_digits : ∀ u : Nat, dval (Lib.decDigits u) = u := by
  intro u
  induction u using Nat.strongRecOn with
  | ind u ih =>
    unfold Lib.decDigits
    split
    · rename_i h
      show (0 * 10 + ((UInt8.ofNat (48 + u)).toNat - 48)) = u
      rw [UInt8.toNat_ofNat']
      omega
    · rename_i h
      unfold dval at ih ⊢
      rw [List.foldl_append, ih (u / 10) (by omega)]
      show u / 10 * 10 + ((UInt8.ofNat (48 + u % 10)).toNat - 48) = u
      rw [UInt8.toNat_ofNat']
      omega
theorem digits_all : ∀ u : Nat, ∀ c ∈ Lib.decDigits u, digB c = true := by
  intro u
  induction u using Nat.strongRecOn with
  | ind u ih =>
    intro c hc
    unfold Lib.decDigits at hc
    split at hc
    · rename_i h
      simp only [List.mem_singleton] at hc
      subst hc
      unfold digB
      rw [UInt8.toNat_ofNat']
      exact decide_eq_true (by omega)
    · rename_i h
      rcases List.mem_append.1 hc with hc | hc
      · exact ih (u / 10) (by omega) c hc
      · simp only [List.mem_singleton] at hc
        subst hc
        unfold digB
        rw [UInt8.toNat_ofNat']
        exact decide_eq_true (by omega)
theorem itoa_digits {n : Int} (h : 0 ≤ n) : Lib.itoa n = Lib.decDigits n.toNat := by unfold Lib.itoa; rw [if_neg (by omega)]
theorem itoa_inj {n m : Int} (hn : 0 ≤ n) (hm : 0 ≤ m) (h : Lib.itoa n = Lib.itoa m) : n = m := by
  rw [itoa_digits hn, itoa_digits hm] at h
  have := congrArg dval h
  rw [dval_digits, dval_digits] at this
  omega
theorem itoa_all {n : Int} (h : 0 ≤ n) : ∀ c ∈ Lib.itoa n, digB c = true := by rw [itoa_digits h]; exact digits_all _

/-! ### Quoted texts -/
theorem qch_first {c : UInt8} {a : Str} (h : qch c = some a) : ∃ x r, a = x :: r ∧ x.toNat ≠ 34 := by
  unfold qch at h
  split at h
  · injection h with h; exact ⟨92, [110], h.symm, by decide⟩
  · split at h
    · split at h
      · rename_i h1 h2 h3
        injection h with h; exact ⟨92, [c], h.symm, by decide⟩
      · rename_i h1 h2 h3
        injection h with h; exact ⟨c, [], h.symm, by omega⟩
    · cases h
theorem qch_pre {c d : UInt8} {a b : Str} (ha : qch c = some a) (hb : qch d = some b) {u v : Str} (h : a ++ u = b ++ v) : c = d ∧ u = v := by
  unfold qch at ha hb
  split at ha
  · rename_i hc
    injection ha with ha
    subst ha
    split at hb
    · rename_i hd
      injection hb with hb
      subst hb
      simp at h
      exact ⟨nat_u8 (by omega), h⟩
    · split at hb
      · split at hb
        · rename_i h1 h2 h3
          injection hb with hb
          subst hb
          simp at h
          have := congrArg UInt8.toNat h.1
          simp at this
          omega
        · rename_i h1 h2 h3
          injection hb with hb
          subst hb
          simp at h
          have := congrArg UInt8.toNat h.1
          simp at this
          omega
      · cases hb
  · split at ha
    · split at ha
      · rename_i g1 g2 g3
        injection ha with ha
        subst ha
        split at hb
        · injection hb with hb
          subst hb
          simp at h
          have := congrArg UInt8.toNat h.1
          simp at this
          omega
        · split at hb
          · split at hb
            · injection hb with hb
              subst hb
              simp at h
              exact h
            · rename_i h1 h2 h3
              injection hb with hb
              subst hb
              simp at h
              have := congrArg UInt8.toNat h.1
              simp at this
              omega
          · cases hb
      · rename_i g1 g2 g3
        injection ha with ha
        subst ha
        split at hb
        · injection hb with hb
          subst hb
          simp at h
          have := congrArg UInt8.toNat h.1
          simp at this
          omega
        · split at hb
          · split at hb
            · injection hb with hb
              subst hb
              simp at h
              have := congrArg UInt8.toNat h.1
              simp at this
              omega
            · injection hb with hb
              subst hb
              simp at h
              exact h
          · cases hb
    · cases ha
theorem qbody_pre : ∀ {s t a b u v : Str}, qbody s = some a → qbody t = some b → a ++ 34 :: u = b ++ 34 :: v → s = t ∧ u = v
  | [], [], a, b, u, v, ha, hb, h => by
    injection ha with ha; injection hb with hb
    subst ha; subst hb
    simp at h
    exact ⟨rfl, h⟩
  | [], d :: t, a, b, u, v, ha, hb, h => by
    exfalso
    injection ha with ha
    subst ha
    rw [qbody_cons] at hb
    split at hb
    · rename_i x y hx hy
      injection hb with hb
      subst hb
      obtain ⟨c, r, rfl, hc⟩ := qch_first hx
      simp at h
      rw [← h.1] at hc
      simp at hc
    · cases hb
  | c :: s, [], a, b, u, v, ha, hb, h => by
    exfalso
    injection hb with hb
    subst hb
    rw [qbody_cons] at ha
    split at ha
    · rename_i x y hx hy
      injection ha with ha
      subst ha
      obtain ⟨c, r, rfl, hc⟩ := qch_first hx
      simp at h
      rw [h.1] at hc
      simp at hc
    · cases ha
  | c :: s, d :: t, a, b, u, v, ha, hb, h => by
    rw [qbody_cons] at ha hb
    split at ha
    · rename_i x y hx hy
      split at hb
      · rename_i x' y' hx' hy'
        injection ha with ha
        injection hb with hb
        subst ha
        subst hb
        rw [List.append_assoc, List.append_assoc] at h
        obtain ⟨e1, e2⟩ := qch_pre hx hx' h
        obtain ⟨e3, e4⟩ := qbody_pre hy hy' e2
        exact ⟨by rw [e1, e3], e4⟩
      · cases hb
    · cases ha
theorem quote_pre {s t a b u v : Str} (ha : quoteS s = some a) (hb : quoteS t = some b) (h : a ++ u = b ++ v) : s = t ∧ u = v := by
  unfold quoteS at ha hb
  split at ha
  · cases ha
  split at hb
  · cases hb
  cases h1 : qbody s with
  | none => rw [h1] at ha; cases ha
  | some p =>
    cases h2 : qbody t with
    | none => rw [h2] at hb; cases hb
    | some q =>
      rw [h1] at ha
      rw [h2] at hb
      simp at ha hb
      subst ha
      subst hb
      simp at h
      exact qbody_pre h1 h2 h
end Go.Proofs.YtaglmmcjhlehjaaGreatDoor

namespace Go.Proofs.YtaglmmcjhlehjaaGreatDoor
open Go.RowKit
set_option linter.unusedVariables false
set_option linter.unusedSimpArgs false

/-- What an expression that may be has, in itself. -/
inductive Ex.Ok : Ex → Prop
  | mk (d : ExD) (l : List Ex) (f : Fld d) (z : d.kind ≠ 1 → d.n = 0) (ll : d.labels.length = d.ln) (nl : d.names.length = d.nn) (pl : l.length = d.pn) (sub : ∀ x ∈ l, Ex.Ok x) : Ex.Ok (.mk d l)
theorem ok_of (w : World) : ∀ (e : Ex), e.In w → e.fineE = true → e.Ok
  | .mk d l, hI, hf => by
    refine .mk d l (fields_of (fine_own hf)) ?_ hI.labLen hI.namLen hI.len (fun x hx => ok_of w x (hI.sub x hx) (fine_sub hf x hx))
    intro hk
    have h := fine_own hf
    unfold ExD.fieldsB at h
    simp only [Bool.and_eq_true, decide_eq_true_eq, Bool.or_eq_true] at h
    rcases h.1.1.1.2 with h | h
    · exact h
    · exact absurd h.1 hk
theorem Ex.Ok.fld {d : ExD} {l : List Ex} (h : (Ex.mk d l).Ok) : Fld d := by cases h; assumption
theorem Ex.Ok.z {d : ExD} {l : List Ex} (h : (Ex.mk d l).Ok) : d.kind ≠ 1 → d.n = 0 := by cases h; assumption
theorem Ex.Ok.ll {d : ExD} {l : List Ex} (h : (Ex.mk d l).Ok) : d.labels.length = d.ln := by cases h; assumption
theorem Ex.Ok.nl {d : ExD} {l : List Ex} (h : (Ex.mk d l).Ok) : d.names.length = d.nn := by cases h; assumption
theorem Ex.Ok.pl {d : ExD} {l : List Ex} (h : (Ex.mk d l).Ok) : l.length = d.pn := by cases h; assumption
theorem Ex.Ok.sub {d : ExD} {l : List Ex} (h : (Ex.mk d l).Ok) : ∀ x ∈ l, x.Ok := by cases h; assumption
theorem Fld.s0 {d : ExD} (h : Fld d) (hk : ¬ (d.kind = 2 ∨ d.kind = 3 ∨ d.kind = 4 ∨ d.kind = 6 ∨ d.kind = 7 ∨ d.kind = 9 ∨ d.kind = 10 ∨ d.kind = 11 ∨ d.kind = 12 ∨ d.kind = 13 ∨ d.kind = 16)) : d.s = [] := by
  have h1 := h.s
  unfold ExD.sB at h1
  rw [if_neg (by omega), if_neg (by omega), if_neg (by omega), if_neg (by omega)] at h1
  exact of_decide_eq_true h1
theorem Fld.name {d : ExD} (h : Fld d) (hk : d.kind = 3 ∨ d.kind = 4 ∨ d.kind = 6 ∨ d.kind = 7 ∨ d.kind = 9 ∨ d.kind = 10 ∨ d.kind = 11 ∨ d.kind = 12) : tokB d.s 1 = true := by
  have h1 := h.s
  unfold ExD.sB at h1
  rw [if_pos hk] at h1
  exact h1
theorem Fld.tag {d : ExD} (h : Fld d) (hk : d.kind = 13) : tokB d.s 3 = true := by
  have h1 := h.s
  unfold ExD.sB at h1
  rw [if_neg (by omega), if_pos hk] at h1
  exact h1
theorem Fld.op {d : ExD} (h : Fld d) (hk : d.kind = 16) : d.s ∈ opsL := by
  have h1 := h.s
  unfold ExD.sB at h1
  rw [if_neg (by omega), if_neg (by omega), if_neg (by omega), if_pos hk] at h1
  exact of_decide_eq_true h1
theorem Fld.quote {d : ExD} (h : Fld d) (hk : d.kind = 2) : ∃ q, quoteS d.s = some q := by
  have h1 := h.s
  unfold ExD.sB at h1
  rw [if_neg (by omega), if_neg (by omega), if_pos hk] at h1
  exact Option.isSome_iff_exists.1 h1
theorem Fld.t0 {d : ExD} (h : Fld d) (hk : ¬ (d.kind = 7 ∨ d.kind = 14)) : d.t = [] := by
  have h1 := h.t
  unfold ExD.tB at h1
  rw [if_neg (by omega), if_neg (by omega)] at h1
  exact of_decide_eq_true h1
theorem Fld.t7 {d : ExD} (h : Fld d) (hk : d.kind = 7) : tokB d.t 1 = true := by
  have h1 := h.t
  unfold ExD.tB at h1
  rw [if_pos hk] at h1
  exact h1
theorem Fld.t14 {d : ExD} (h : Fld d) (hk : d.kind = 14) : d.t = [] ∨ tokB d.t 1 = true := by
  have h1 := h.t
  unfold ExD.tB at h1
  rw [if_neg (by omega), if_pos hk] at h1
  simpa using h1
theorem Ex.Ok.l0 {d : ExD} {l : List Ex} (h : (Ex.mk d l).Ok) (hk : ¬ (d.kind = 8 ∨ d.kind = 14)) : d.labels = [] ∧ d.names = [] := by
  have h1 := h.fld.lists
  unfold ExD.listsB at h1
  rw [if_neg (by omega), if_neg (by omega)] at h1
  simp only [Bool.and_eq_true, decide_eq_true_eq] at h1
  exact ⟨List.length_eq_zero_iff.1 (by rw [h.ll]; exact h1.1), List.length_eq_zero_iff.1 (by rw [h.nl]; exact h1.2)⟩
theorem labB_all {l : List Str} {k : Int} (h : labB l k = true) : ∀ s ∈ l, tokB s k = true := by
  unfold labB at h
  simp only [Bool.and_eq_true] at h
  exact List.all_eq_true.1 h.2

/-! ### Alike: but for where they stand -/
mutual
def Ex.eqv : Ex → Ex → Prop
  | .mk d l, .mk e m => d.kind = e.kind ∧ d.n = e.n ∧ d.s = e.s ∧ d.t = e.t ∧ d.labels = e.labels ∧ d.names = e.names ∧ eqvL l m
def eqvL : List Ex → List Ex → Prop
  | [], [] => True
  | x :: l, y :: m => x.eqv y ∧ eqvL l m
  | _, _ => False
end
theorem eqvL_app : ∀ {a b a' b' : List Ex}, eqvL a a' → eqvL b b' → eqvL (a ++ b) (a' ++ b')
  | [], b, [], b', _, h => h
  | x :: a, b, y :: a', b', h1, h2 => by
    simp only [eqvL] at h1
    simp only [List.cons_append, eqvL]
    exact ⟨h1.1, eqvL_app h1.2 h2⟩
  | [], b, y :: a', b', h1, _ => by simp [eqvL] at h1
  | x :: a, b, [], b', h1, _ => by simp [eqvL] at h1

/-! ### What a text is, by kinds -/
theorem sh_4 {d : ExD} {a : Ex} (hk : d.kind = 4) : (Ex.mk d [a]).sh = [102, 110, 32] ++ d.s ++ [32, 45, 62, 32] ++ a.sh := by
  rw [sh_mk]; unfold ExD.shF; rw [if_neg (by omega), if_neg (by omega), if_neg (by omega), if_neg (by omega)]; rw [if_neg (by unfold braceB; rw [decide_eq_true_eq]; omega), if_pos (by unfold blockB; exact decide_eq_true (by omega))]; unfold ExD.blockF; rw [if_pos hk]; simp [shAt, betweenTo, inS]
theorem sh_5 {d : ExD} {a c : Ex} (hk : d.kind = 5) : (Ex.mk d [a, c]).sh = a.pa ++ (32 :: c.pa) := by
  rw [sh_mk]; unfold ExD.shF; rw [if_neg (by omega), if_neg (by omega), if_neg (by omega), if_neg (by omega)]; rw [if_neg (by unfold braceB; rw [decide_eq_true_eq]; omega), if_neg (by unfold blockB; rw [decide_eq_true_eq]; omega)]; unfold ExD.aheadF ExD.behindF; rw [if_neg (by omega), if_neg (by omega), if_neg (by omega), if_neg (by omega), if_neg (by omega), if_neg (by omega), if_neg (by omega), if_pos hk]; simp [paAt]
theorem sh_6 {d : ExD} {a c : Ex} (hk : d.kind = 6) : (Ex.mk d [a, c]).sh = [108, 101, 116, 32] ++ d.s ++ [32, 61, 32] ++ a.sh ++ [32, 105, 110, 32] ++ c.sh := by
  rw [sh_mk]; unfold ExD.shF; rw [if_neg (by omega), if_neg (by omega), if_neg (by omega), if_neg (by omega)]; rw [if_neg (by unfold braceB; rw [decide_eq_true_eq]; omega), if_pos (by unfold blockB; exact decide_eq_true (by omega))]; unfold ExD.blockF; rw [if_neg (by omega), if_pos hk]; simp [shAt, betweenTo, inS]
theorem sh_7 {d : ExD} {a c : Ex} (hk : d.kind = 7) : (Ex.mk d [a, c]).sh = [108, 101, 116, 32, 114, 101, 99, 32] ++ d.s ++ [32] ++ d.t ++ [32, 61, 32] ++ a.sh ++ [32, 105, 110, 32] ++ c.sh := by
  rw [sh_mk]; unfold ExD.shF; rw [if_neg (by omega), if_neg (by omega), if_neg (by omega), if_neg (by omega)]; rw [if_neg (by unfold braceB; rw [decide_eq_true_eq]; omega), if_pos (by unfold blockB; exact decide_eq_true (by omega))]; unfold ExD.blockF; rw [if_neg (by omega), if_neg (by omega), if_pos hk]; simp [shAt, betweenTo, inS]
theorem sh_9 {d : ExD} {a : Ex} (hk : d.kind = 9) : (Ex.mk d [a]).sh = a.pa ++ (46 :: d.s) := by
  rw [sh_mk]; unfold ExD.shF; rw [if_neg (by omega), if_neg (by omega), if_neg (by omega), if_neg (by omega)]; rw [if_neg (by unfold braceB; rw [decide_eq_true_eq]; omega), if_neg (by unfold blockB; rw [decide_eq_true_eq]; omega)]; unfold ExD.aheadF ExD.behindF; rw [if_neg (by omega), if_neg (by omega), if_neg (by omega), if_neg (by omega), if_neg (by omega), if_pos hk]; simp [paAt]
theorem sh_10 {d : ExD} {a c : Ex} (hk : d.kind = 10) : (Ex.mk d [a, c]).sh = [123] ++ d.s ++ [32, 61, 32] ++ a.sh ++ [32, 124, 32] ++ c.sh ++ [125] := by
  rw [sh_mk]; unfold ExD.shF; rw [if_neg (by omega), if_neg (by omega), if_neg (by omega), if_neg (by omega)]; rw [if_pos (by unfold braceB; exact decide_eq_true (by omega))]; unfold ExD.bracesF; rw [if_neg (by omega), if_pos hk]; simp [shAt]
theorem sh_11 {d : ExD} {a : Ex} (hk : d.kind = 11) : (Ex.mk d [a]).sh = a.pa ++ (92 :: d.s) := by
  rw [sh_mk]; unfold ExD.shF; rw [if_neg (by omega), if_neg (by omega), if_neg (by omega), if_neg (by omega)]; rw [if_neg (by unfold braceB; rw [decide_eq_true_eq]; omega), if_neg (by unfold blockB; rw [decide_eq_true_eq]; omega)]; unfold ExD.aheadF ExD.behindF; rw [if_neg (by omega), if_neg (by omega), if_neg (by omega), if_neg (by omega), if_neg (by omega), if_neg (by omega), if_pos hk]; simp [paAt]
theorem sh_12 {d : ExD} {a c : Ex} (hk : d.kind = 12) : (Ex.mk d [a, c]).sh = [123] ++ c.pa ++ [32, 119, 105, 116, 104, 32] ++ d.s ++ [32, 61, 32] ++ a.sh ++ [125] := by
  rw [sh_mk]; unfold ExD.shF; rw [if_neg (by omega), if_neg (by omega), if_neg (by omega), if_neg (by omega)]; rw [if_pos (by unfold braceB; exact decide_eq_true (by omega))]; unfold ExD.bracesF; rw [if_neg (by omega), if_neg (by omega)]; simp [shAt, paAt]
theorem sh_13 {d : ExD} {a : Ex} (hk : d.kind = 13) : (Ex.mk d [a]).sh = d.s ++ [32] ++ a.pa := by
  rw [sh_mk]; unfold ExD.shF; rw [if_neg (by omega), if_neg (by omega), if_neg (by omega), if_neg (by omega)]; rw [if_neg (by unfold braceB; rw [decide_eq_true_eq]; omega), if_neg (by unfold blockB; rw [decide_eq_true_eq]; omega)]; unfold ExD.aheadF ExD.behindF; rw [if_pos hk, if_neg (by omega), if_neg (by omega), if_neg (by omega), if_neg (by omega), if_neg (by omega)]; simp [paAt]
theorem sh_15 {d : ExD} {a c f : Ex} (hk : d.kind = 15) : (Ex.mk d [a, c, f]).sh = [105, 102, 32] ++ a.sh ++ [32, 116, 104, 101, 110, 32] ++ c.sh ++ [32, 101, 108, 115, 101, 32] ++ f.sh := by
  rw [sh_mk]; unfold ExD.shF; rw [if_neg (by omega), if_neg (by omega), if_neg (by omega), if_neg (by omega)]; rw [if_neg (by unfold braceB; rw [decide_eq_true_eq]; omega), if_pos (by unfold blockB; exact decide_eq_true (by omega))]; unfold ExD.blockF; rw [if_neg (by omega), if_neg (by omega), if_neg (by omega), if_pos hk]; simp [shAt, betweenTo, inS]
theorem sh_16 {d : ExD} {a c : Ex} (hk : d.kind = 16) : (Ex.mk d [a, c]).sh = a.pa ++ (32 :: (d.s ++ (32 :: c.pa))) := by
  rw [sh_mk]; unfold ExD.shF; rw [if_neg (by omega), if_neg (by omega), if_neg (by omega), if_neg (by omega)]; rw [if_neg (by unfold braceB; rw [decide_eq_true_eq]; omega), if_neg (by unfold blockB; rw [decide_eq_true_eq]; omega)]; unfold ExD.aheadF ExD.behindF; rw [if_neg (by omega), if_neg (by omega), if_neg (by omega), if_neg (by omega), if_neg (by omega), if_neg (by omega), if_neg (by omega), if_neg (by omega), if_pos hk]; simp [paAt]
theorem sh_17 {d : ExD} {a : Ex} (hk : d.kind = 17) : (Ex.mk d [a]).sh = [114, 101, 102, 32] ++ a.pa := by
  rw [sh_mk]; unfold ExD.shF; rw [if_neg (by omega), if_neg (by omega), if_neg (by omega), if_neg (by omega)]; rw [if_neg (by unfold braceB; rw [decide_eq_true_eq]; omega), if_neg (by unfold blockB; rw [decide_eq_true_eq]; omega)]; unfold ExD.aheadF ExD.behindF; rw [if_neg (by omega), if_pos hk, if_neg (by omega), if_neg (by omega), if_neg (by omega), if_neg (by omega), if_neg (by omega)]; simp [paAt]
theorem sh_18 {d : ExD} {a : Ex} (hk : d.kind = 18) : (Ex.mk d [a]).sh = [33] ++ a.pa := by
  rw [sh_mk]; unfold ExD.shF; rw [if_neg (by omega), if_neg (by omega), if_neg (by omega), if_neg (by omega)]; rw [if_neg (by unfold braceB; rw [decide_eq_true_eq]; omega), if_neg (by unfold blockB; rw [decide_eq_true_eq]; omega)]; unfold ExD.aheadF ExD.behindF; rw [if_neg (by omega), if_neg (by omega), if_neg (by omega), if_neg (by omega), if_pos hk, if_neg (by omega), if_neg (by omega), if_neg (by omega), if_neg (by omega), if_neg (by omega)]; simp [paAt]
theorem sh_19 {d : ExD} {a c : Ex} (hk : d.kind = 19) : (Ex.mk d [a, c]).sh = a.pa ++ (32 :: 58 :: 61 :: 32 :: c.pa) := by
  rw [sh_mk]; unfold ExD.shF; rw [if_neg (by omega), if_neg (by omega), if_neg (by omega), if_neg (by omega)]; rw [if_neg (by unfold braceB; rw [decide_eq_true_eq]; omega), if_neg (by unfold blockB; rw [decide_eq_true_eq]; omega)]; unfold ExD.aheadF ExD.behindF; rw [if_neg (by omega), if_neg (by omega), if_neg (by omega), if_neg (by omega), if_neg (by omega), if_neg (by omega), if_neg (by omega), if_neg (by omega), if_neg (by omega), if_pos hk]; simp [paAt]
theorem sh_20 {d : ExD} {a : Ex} (hk : d.kind = 20) : (Ex.mk d [a]).sh = [112, 114, 105, 110, 116, 32] ++ a.pa := by
  rw [sh_mk]; unfold ExD.shF; rw [if_neg (by omega), if_neg (by omega), if_neg (by omega), if_neg (by omega)]; rw [if_neg (by unfold braceB; rw [decide_eq_true_eq]; omega), if_neg (by unfold blockB; rw [decide_eq_true_eq]; omega)]; unfold ExD.aheadF ExD.behindF; rw [if_neg (by omega), if_neg (by omega), if_pos hk, if_neg (by omega), if_neg (by omega), if_neg (by omega), if_neg (by omega), if_neg (by omega)]; simp [paAt]
theorem sh_21 {d : ExD} {a : Ex} (hk : d.kind = 21) : (Ex.mk d [a]).sh = [115, 104, 111, 119, 32] ++ a.pa := by
  rw [sh_mk]; unfold ExD.shF; rw [if_neg (by omega), if_neg (by omega), if_neg (by omega), if_neg (by omega)]; rw [if_neg (by unfold braceB; rw [decide_eq_true_eq]; omega), if_neg (by unfold blockB; rw [decide_eq_true_eq]; omega)]; unfold ExD.aheadF ExD.behindF; rw [if_neg (by omega), if_neg (by omega), if_neg (by omega), if_pos hk, if_neg (by omega), if_neg (by omega), if_neg (by omega), if_neg (by omega), if_neg (by omega)]; simp [paAt]
theorem sh_1 {d : ExD} {l : List Ex} (hk : d.kind = 1) : (Ex.mk d l).sh = Lib.itoa d.n := by rw [sh_mk]; unfold ExD.shF; rw [if_pos hk]
theorem sh_2 {d : ExD} {l : List Ex} (hk : d.kind = 2) : (Ex.mk d l).sh = (quoteS d.s).getD [] := by rw [sh_mk]; unfold ExD.shF; rw [if_neg (by omega), if_pos hk]
theorem sh_3 {d : ExD} {l : List Ex} (hk : d.kind = 3) : (Ex.mk d l).sh = d.s := by rw [sh_mk]; unfold ExD.shF; rw [if_neg (by omega), if_neg (by omega), if_pos hk]
theorem sh_22 {d : ExD} {l : List Ex} (hk : d.kind = 22) : (Ex.mk d l).sh = [114, 101, 97, 100] := by rw [sh_mk]; unfold ExD.shF; rw [if_neg (by omega), if_neg (by omega), if_neg (by omega), if_pos hk]
theorem sh_8 {d : ExD} {l : List Ex} (hk : d.kind = 8) : (Ex.mk d l).sh = 123 :: (fieldsTo d.labels (shAt l) d.ln ++ [125]) := by
  rw [sh_mk]; unfold ExD.shF
  rw [if_neg (by omega), if_neg (by omega), if_neg (by omega), if_neg (by omega), if_pos (by unfold braceB; exact decide_eq_true (by omega))]
  unfold ExD.bracesF
  rw [if_pos hk]; simp
theorem sh_14 {d : ExD} {l : List Ex} (hk : d.kind = 14) : (Ex.mk d l).sh = [109, 97, 116, 99, 104, 32] ++ shAt l 0 ++ [32, 119, 105, 116, 104] ++ armsTo d.labels d.names (shAt l) d.ln ++ d.restF (shAt l) ++ [32, 101, 110, 100] := by
  rw [sh_mk]; unfold ExD.shF
  rw [if_neg (by omega), if_neg (by omega), if_neg (by omega), if_neg (by omega), if_neg (by unfold braceB; rw [decide_eq_true_eq]; omega), if_pos (by unfold blockB; exact decide_eq_true (by omega))]
  unfold ExD.blockF
  rw [if_neg (by omega), if_neg (by omega), if_neg (by omega), if_neg (by omega)]
  rfl
theorem pa_bare {x : Ex} (h : bareB x.d.kind = true) : x.pa = x.sh := by unfold Ex.pa brk; rw [if_pos h]
theorem pa_brk {x : Ex} (h : ¬ bareB x.d.kind = true) : x.pa = 40 :: (x.sh ++ [41]) := by unfold Ex.pa brk; rw [if_neg h]; simp

theorem digits_ne' (u : Nat) : Lib.decDigits u ≠ [] := by
  unfold Lib.decDigits
  split <;> simp
theorem itoa_ne' (n : Int) : Lib.itoa n ≠ [] := by
  unfold Lib.itoa
  split
  · simp
  · exact digits_ne' _
/-! ### What a part begins with -/
inductive PS : Str → Prop
  | dig (c : UInt8) (r : Str) (h : digB c = true) : PS (c :: r)
  | quo (r : Str) : PS (34 :: r)
  | brc (r : Str) : PS (123 :: r)
  | par (r : Str) : PS (40 :: r)
  | nam (c : UInt8) (r : Str) (h : lowB c = true) (ha : AllT (c :: r)) (hw : (c :: r) ∉ wordsL) : PS (c :: r)
  | rea : PS [114, 101, 97, 100]
theorem pa_start {x : Ex} (h : x.Ok) : PS x.pa := by
  obtain ⟨d, l⟩ := x
  by_cases hb : bareB d.kind = true
  · rw [pa_bare (x := .mk d l) hb]
    have hF := h.fld
    unfold bareB at hb
    rcases of_decide_eq_true hb with k | k | k | k | k | k | k
    · rw [sh_1 k]
      have h1 := itoa_all (hF.n0 k)
      cases hi : Lib.itoa d.n with
      | nil => exact absurd hi (itoa_ne' d.n)
      | cons c r => rw [hi] at h1; exact .dig c r (h1 c (by simp))
    · rw [sh_2 k]
      obtain ⟨q, hq⟩ := hF.quote k
      rw [hq]
      unfold quoteS at hq
      split at hq
      · cases hq
      · cases hb : qbody d.s with
        | none => rw [hb] at hq; cases hq
        | some b => rw [hb] at hq; simp at hq; subst hq; exact .quo _
    · rw [sh_3 k]
      obtain ⟨⟨c, r, e, hc⟩, ha, hw⟩ := tok1 (hF.name (by omega))
      rw [e] at ha hw ⊢
      exact .nam c r hc ha hw
    · rw [sh_8 k]; exact .brc _
    · obtain ⟨a, c, rfl, _⟩ := parts_two hF h.pl (by omega)
      rw [sh_10 k]; simp only [List.append_assoc]; exact .brc _
    · obtain ⟨a, c, rfl, _⟩ := parts_two hF h.pl (by omega)
      rw [sh_12 k]; simp only [List.append_assoc]; exact .brc _
    · rw [sh_22 k]; exact .rea
  · rw [pa_brk (x := .mk d l) hb]; exact .par _
end Go.Proofs.YtaglmmcjhlehjaaGreatDoor

namespace Go.Proofs.YtaglmmcjhlehjaaGreatDoor
open Go.RowKit
set_option linter.unusedVariables false
set_option linter.unusedSimpArgs false

theorem runT_app {s u : Str} (hs : AllT s) (hu : FolP u) : (s ++ u).takeWhile tagB = s := by
  induction s with
  | nil =>
    cases u with
    | nil => rfl
    | cons c r => simp [List.takeWhile_cons, hu c r rfl]
  | cons c s ih =>
    simp only [List.cons_append, List.takeWhile_cons, hs c (by simp), if_true]
    rw [ih (fun x hx => hs x (by simp [hx]))]
theorem allT_of {s : Str} (h : s.all tagB = true) : AllT s := fun c hc => List.all_eq_true.1 h c hc
def kread : Str := [114, 101, 97, 100]
def pkey (w : Str) : Nat := match w with
  | [] => 0
  | c :: r => if digB c = true then 1 else if c = 34 then 2 else if c = 123 then 5 else if c = 40 then 6 else if lowB c = true then (if (c :: r).takeWhile tagB = kread then 4 else 3) else 0
def pk (k : Int) : Nat := if k = 1 then 1 else if k = 2 then 2 else if k = 3 then 3 else if k = 22 then 4 else if braceB k = true then 5 else 6
theorem low_dig {c : UInt8} (h : lowB c = true) : digB c = false ∧ highB c = false ∧ c ≠ 34 ∧ c ≠ 123 ∧ c ≠ 40 ∧ c ≠ 33 ∧ c ≠ 124 ∧ c ≠ 58 ∧ c ≠ 125 := by
  unfold lowB at h
  have h1 := of_decide_eq_true h
  unfold digB highB
  refine ⟨decide_eq_false (by omega), decide_eq_false (by omega), ?_, ?_, ?_, ?_, ?_, ?_, ?_⟩ <;> rintro rfl <;> simp at h1
theorem dig_not {c : UInt8} (h : digB c = true) : lowB c = false ∧ highB c = false ∧ c ≠ 34 ∧ c ≠ 123 ∧ c ≠ 40 ∧ c ≠ 33 ∧ c ≠ 124 ∧ c ≠ 58 ∧ c ≠ 125 := by
  unfold digB at h
  have h1 := of_decide_eq_true h
  unfold lowB highB
  refine ⟨decide_eq_false (by omega), decide_eq_false (by omega), ?_, ?_, ?_, ?_, ?_, ?_, ?_⟩ <;> rintro rfl <;> simp at h1
theorem high_not {c : UInt8} (h : highB c = true) : lowB c = false ∧ digB c = false ∧ c ≠ 34 ∧ c ≠ 123 ∧ c ≠ 40 ∧ c ≠ 33 ∧ tagB c = true := by
  unfold highB at h
  have h1 := of_decide_eq_true h
  refine ⟨by unfold lowB; exact decide_eq_false (by omega), by unfold digB; exact decide_eq_false (by omega), ?_, ?_, ?_, ?_, by unfold tagB highB; rw [h]; simp⟩ <;> rintro rfl <;> simp at h1
theorem read_word : kread ∈ wordsL := by decide
theorem pkey_eq {x : Ex} (h : x.Ok) {u : Str} (hu : FolP u) : pkey (x.pa ++ u) = pk x.d.kind := by
  obtain ⟨d, l⟩ := x
  show _ = pk d.kind
  by_cases hb : bareB d.kind = true
  · rw [pa_bare (x := .mk d l) hb]
    have hF := h.fld
    unfold bareB at hb
    rcases of_decide_eq_true hb with k | k | k | k | k | k | k
    · have e : pk d.kind = 1 := by unfold pk; rw [if_pos k]
      rw [sh_1 k, e]
      have h1 := itoa_all (hF.n0 k)
      cases hi : Lib.itoa d.n with
      | nil => exact absurd hi (itoa_ne' d.n)
      | cons c r => rw [hi] at h1; simp [pkey, h1 c (by simp)]
    · have e : pk d.kind = 2 := by unfold pk; rw [if_neg (by omega), if_pos k]
      rw [sh_2 k, e]
      obtain ⟨q, hq⟩ := hF.quote k
      rw [hq]
      unfold quoteS at hq
      split at hq
      · cases hq
      · cases hb : qbody d.s with
        | none => rw [hb] at hq; cases hq
        | some b => rw [hb] at hq; simp at hq; subst hq; simp [pkey, digB]
    · have e : pk d.kind = 3 := by unfold pk; rw [if_neg (by omega), if_neg (by omega), if_pos k]
      rw [sh_3 k, e]
      obtain ⟨⟨c, r, es, hc⟩, ha, hw⟩ := tok1 (hF.name (by omega))
      have hr := runT_app ha hu
      have hne : d.s ≠ kread := fun e => hw (by rw [e]; exact read_word)
      rw [es] at ha hw hr hne ⊢
      obtain ⟨h1, _, h2, h3, h4, _⟩ := low_dig hc
      rw [List.cons_append] at hr ⊢
      simp only [pkey, h1, h2, h3, h4, hc, if_true, if_false, Bool.false_eq_true, hr]
      rw [if_neg hne]
    · have e : pk d.kind = 5 := by unfold pk; rw [if_neg (by omega), if_neg (by omega), if_neg (by omega), if_neg (by omega), if_pos (by unfold braceB; exact decide_eq_true (by omega))]
      rw [sh_8 k, e]; simp [pkey, digB]
    · have e : pk d.kind = 5 := by unfold pk; rw [if_neg (by omega), if_neg (by omega), if_neg (by omega), if_neg (by omega), if_pos (by unfold braceB; exact decide_eq_true (by omega))]
      obtain ⟨a, c, rfl, _⟩ := parts_two hF h.pl (by omega)
      rw [sh_10 k, e]; simp [pkey, digB]
    · have e : pk d.kind = 5 := by unfold pk; rw [if_neg (by omega), if_neg (by omega), if_neg (by omega), if_neg (by omega), if_pos (by unfold braceB; exact decide_eq_true (by omega))]
      obtain ⟨a, c, rfl, _⟩ := parts_two hF h.pl (by omega)
      rw [sh_12 k, e]; simp [pkey, digB]
    · have e : pk d.kind = 4 := by unfold pk; rw [if_neg (by omega), if_neg (by omega), if_neg (by omega), if_pos k]
      have hr := runT_app (s := kread) (allT_of (by decide)) hu
      rw [sh_22 k, e]
      show pkey (114 :: ([101, 97, 100] ++ u)) = 4
      simp only [pkey]
      rw [show (114 :: ([101, 97, 100] ++ u)) = kread ++ u from rfl, hr]
      simp [digB, lowB]
  · have e : pk d.kind = 6 := by
      unfold pk
      unfold bareB at hb
      rw [decide_eq_true_eq] at hb
      rw [if_neg (by omega), if_neg (by omega), if_neg (by omega), if_neg (by omega), if_neg (by unfold braceB; rw [decide_eq_true_eq]; omega)]
    rw [pa_brk (x := .mk d l) hb, e]; simp [pkey, digB]

/-! ### What a whole text begins with -/
def kfn : Str := [102, 110]
def klet : Str := [108, 101, 116]
def kmatch : Str := [109, 97, 116, 99, 104]
def kif : Str := [105, 102]
def kref : Str := [114, 101, 102]
def kprint : Str := [112, 114, 105, 110, 116]
def kshow : Str := [115, 104, 111, 119]
def headH (w : Str) : Bool := match w with
  | [] => false
  | c :: _ => highB c
def headX (w : Str) : Bool := match w with
  | [] => false
  | c :: _ => decide (c = 33)
def leadOf (w : Str) : Nat :=
  let r := w.takeWhile tagB
  if r = kfn then 1 else if r = klet then 2 else if r = kmatch then 3 else if r = kif then 4 else if r = kref then 5 else if r = kprint then 6 else if r = kshow then 7 else if headX w = true then 8 else if headH w = true then 9 else 10
def leadK (k : Int) : Nat := if k = 4 then 1 else if k = 6 ∨ k = 7 then 2 else if k = 14 then 3 else if k = 15 then 4 else if k = 17 then 5 else if k = 20 then 6 else if k = 21 then 7 else if k = 18 then 8 else if k = 13 then 9 else 10
theorem lead_run {w r : Str} (h : w.takeWhile tagB = r) : leadOf w = (if r = kfn then 1 else if r = klet then 2 else if r = kmatch then 3 else if r = kif then 4 else if r = kref then 5 else if r = kprint then 6 else if r = kshow then 7 else if headX w = true then 8 else if headH w = true then 9 else 10) := by
  unfold leadOf; rw [h]
theorem lead_kw {k u : Str} (hk : AllT k) : (k ++ 32 :: u).takeWhile tagB = k := runT_app hk (folP_cons (by decide))
theorem run_low {c : UInt8} {r : Str} (h : lowB c = false) : ∀ k ∈ [kfn, klet, kmatch, kif, kref, kprint, kshow], (c :: r).takeWhile tagB ≠ k := by
  intro k hk e
  have hl : ∃ a b, k = a :: b ∧ lowB a = true := by
    simp only [List.mem_cons, List.not_mem_nil, or_false] at hk
    rcases hk with rfl | rfl | rfl | rfl | rfl | rfl | rfl
    · exact ⟨102, [110], rfl, by decide⟩
    · exact ⟨108, [101, 116], rfl, by decide⟩
    · exact ⟨109, _, rfl, by decide⟩
    · exact ⟨105, [102], rfl, by decide⟩
    · exact ⟨114, _, rfl, by decide⟩
    · exact ⟨112, _, rfl, by decide⟩
    · exact ⟨115, _, rfl, by decide⟩
  obtain ⟨a, b, rfl, ha⟩ := hl
  rw [List.takeWhile_cons] at e
  split at e
  · injection e with e1 e2
    rw [← e1, h] at ha
    cases ha
  · cases e
theorem lead_low {c : UInt8} {r : Str} (h : lowB c = false) : leadOf (c :: r) = (if c = 33 then 8 else if highB c = true then 9 else 10) := by
  have hr := run_low (r := r) h
  simp only [List.mem_cons, List.not_mem_nil, or_false, forall_eq_or_imp, forall_eq] at hr
  obtain ⟨h1, h2, h3, h4, h5, h6, h7⟩ := hr
  unfold leadOf
  simp only [h1, h2, h3, h4, h5, h6, h7, if_false, headX, headH]
  by_cases h8 : c = 33
  · simp [h8]
  · by_cases h9 : highB c = true
    · simp [h8, h9]
    · simp [h8, h9]
theorem lead_part {s u : Str} (h : PS s) (hu : FolP u) : leadOf (s ++ u) = 10 := by
  cases h with
  | dig c r h =>
    obtain ⟨h1, h2, _, _, _, h3, _⟩ := dig_not h
    rw [List.cons_append, lead_low h1, if_neg h3, if_neg (by rw [h2]; simp)]
  | quo r => rw [List.cons_append, lead_low (by decide)]; decide
  | brc r => rw [List.cons_append, lead_low (by decide)]; decide
  | par r => rw [List.cons_append, lead_low (by decide)]; decide
  | nam c r h ha hw =>
    rw [lead_run (runT_app ha hu)]
    obtain ⟨_, h2, _, _, _, h3, _⟩ := low_dig h
    have ne : ∀ k ∈ wordsL, (c :: r) ≠ k := fun k hk e => hw (by rw [e]; exact hk)
    rw [if_neg (ne kfn (by decide)), if_neg (ne klet (by decide)), if_neg (ne kmatch (by decide)), if_neg (ne kif (by decide)), if_neg (ne kref (by decide)), if_neg (ne kprint (by decide)), if_neg (ne kshow (by decide))]
    rw [List.cons_append]
    simp [headX, headH, h2, h3]
  | rea =>
    rw [lead_run (runT_app (s := [114, 101, 97, 100]) (allT_of (by decide)) hu)]
    simp [kfn, klet, kmatch, kif, kref, kprint, kshow, headX, headH, highB]
theorem lead_eq {x : Ex} (h : x.Ok) {u : Str} (hu : FolP u) : leadOf (x.sh ++ u) = leadK x.d.kind := by
  obtain ⟨d, l⟩ := x
  show _ = leadK d.kind
  have hF := h.fld
  by_cases k4 : d.kind = 4
  · have e : leadK d.kind = 1 := by unfold leadK; simp [k4]
    obtain ⟨a, rfl, _⟩ := parts_one hF h.pl (by omega)
    rw [sh_4 k4, e]
    simp only [List.append_assoc]
    refine (lead_run (lead_kw (k := kfn) (allT_of (by decide)))).trans ?_
    simp [kfn, klet, kmatch, kif, kref, kprint, kshow]
  by_cases k6 : d.kind = 6
  · have e : leadK d.kind = 2 := by unfold leadK; simp [k6]
    obtain ⟨a, c, rfl, _⟩ := parts_two hF h.pl (by omega)
    rw [sh_6 k6, e]
    simp only [List.append_assoc]
    refine (lead_run (lead_kw (k := klet) (allT_of (by decide)))).trans ?_
    simp [kfn, klet, kmatch, kif, kref, kprint, kshow]
  by_cases k7 : d.kind = 7
  · have e : leadK d.kind = 2 := by unfold leadK; simp [k7]
    obtain ⟨a, c, rfl, _⟩ := parts_two hF h.pl (by omega)
    rw [sh_7 k7, e]
    simp only [List.append_assoc]
    refine (lead_run (lead_kw (k := klet) (allT_of (by decide)))).trans ?_
    simp [kfn, klet, kmatch, kif, kref, kprint, kshow]
  by_cases k14 : d.kind = 14
  · have e : leadK d.kind = 3 := by unfold leadK; simp [k14]
    skip
    rw [sh_14 k14, e]
    simp only [List.append_assoc]
    refine (lead_run (lead_kw (k := kmatch) (allT_of (by decide)))).trans ?_
    simp [kfn, klet, kmatch, kif, kref, kprint, kshow]
  by_cases k15 : d.kind = 15
  · have e : leadK d.kind = 4 := by unfold leadK; simp [k15]
    obtain ⟨a, c, f, rfl, _⟩ := parts_three hF h.pl (by omega)
    rw [sh_15 k15, e]
    simp only [List.append_assoc]
    refine (lead_run (lead_kw (k := kif) (allT_of (by decide)))).trans ?_
    simp [kfn, klet, kmatch, kif, kref, kprint, kshow]
  by_cases k17 : d.kind = 17
  · have e : leadK d.kind = 5 := by unfold leadK; simp [k17]
    obtain ⟨a, rfl, _⟩ := parts_one hF h.pl (by omega)
    rw [sh_17 k17, e]
    simp only [List.append_assoc]
    refine (lead_run (lead_kw (k := kref) (allT_of (by decide)))).trans ?_
    simp [kfn, klet, kmatch, kif, kref, kprint, kshow]
  by_cases k20 : d.kind = 20
  · have e : leadK d.kind = 6 := by unfold leadK; simp [k20]
    obtain ⟨a, rfl, _⟩ := parts_one hF h.pl (by omega)
    rw [sh_20 k20, e]
    simp only [List.append_assoc]
    refine (lead_run (lead_kw (k := kprint) (allT_of (by decide)))).trans ?_
    simp [kfn, klet, kmatch, kif, kref, kprint, kshow]
  by_cases k21 : d.kind = 21
  · have e : leadK d.kind = 7 := by unfold leadK; simp [k21]
    obtain ⟨a, rfl, _⟩ := parts_one hF h.pl (by omega)
    rw [sh_21 k21, e]
    simp only [List.append_assoc]
    refine (lead_run (lead_kw (k := kshow) (allT_of (by decide)))).trans ?_
    simp [kfn, klet, kmatch, kif, kref, kprint, kshow]
  by_cases k18 : d.kind = 18
  · have e : leadK d.kind = 8 := by unfold leadK; simp [k18]
    obtain ⟨a, rfl, _⟩ := parts_one hF h.pl (by omega)
    rw [sh_18 k18, e, List.append_assoc, List.cons_append, lead_low (by decide)]; decide
  by_cases k13 : d.kind = 13
  · have e : leadK d.kind = 9 := by unfold leadK; simp [k13]
    obtain ⟨a, rfl, _⟩ := parts_one hF h.pl (by omega)
    obtain ⟨⟨c, r, es, hc⟩, ha⟩ := tok3 (hF.tag k13)
    obtain ⟨h1, _, _, _, _, h2, _⟩ := high_not hc
    rw [sh_13 k13, e, es]
    simp only [List.append_assoc, List.cons_append]
    rw [lead_low h1, if_neg h2, if_pos hc]
  have e : leadK d.kind = 10 := by unfold leadK; simp [k4, k6, k7, k14, k15, k17, k20, k21, k18, k13]
  rw [e]
  have hk := kinds_of hF
  unfold braceB blockB at hk
  simp only [decide_eq_true_eq] at hk
  by_cases hb : bareB d.kind = true
  · have := lead_part (pa_start h) hu
    rwa [pa_bare (x := .mk d l) hb] at this
  · unfold bareB at hb
    rw [decide_eq_true_eq] at hb
    have hk : d.kind = 9 ∨ d.kind = 11 ∨ d.kind = 5 ∨ d.kind = 16 ∨ d.kind = 19 := by omega
    rcases hk with k | k | k | k | k
    · obtain ⟨a, rfl, _⟩ := parts_one hF h.pl (by omega)
      rw [sh_9 k, List.append_assoc]; exact lead_part (pa_start (h.sub a (by simp))) (folP_cons (by decide))
    · obtain ⟨a, rfl, _⟩ := parts_one hF h.pl (by omega)
      rw [sh_11 k, List.append_assoc]; exact lead_part (pa_start (h.sub a (by simp))) (folP_cons (by decide))
    · obtain ⟨a, c, rfl, _⟩ := parts_two hF h.pl (by omega)
      rw [sh_5 k, List.append_assoc]; exact lead_part (pa_start (h.sub a (by simp))) (folP_cons (by decide))
    · obtain ⟨a, c, rfl, _⟩ := parts_two hF h.pl (by omega)
      rw [sh_16 k, List.append_assoc]; exact lead_part (pa_start (h.sub a (by simp))) (folP_cons (by decide))
    · obtain ⟨a, c, rfl, _⟩ := parts_two hF h.pl (by omega)
      rw [sh_19 k, List.append_assoc]; exact lead_part (pa_start (h.sub a (by simp))) (folP_cons (by decide))

/-! ### What may stand behind a whole text; what stands behind a part -/
def stopsL : List Str := [[105, 110], [116, 104, 101, 110], [101, 108, 115, 101], [101, 110, 100], [119, 105, 116, 104]]
def opc (c : UInt8) : Bool := decide (c ∈ ([43, 45, 42, 47, 60, 61, 94, 35] : Str))
def tkey (w : Str) : Nat := match w with
  | 46 :: _ => 1
  | 92 :: _ => 2
  | 32 :: c :: r => if c = 58 then 5 else if opc c = true then 4 else if c = 124 ∨ (c :: r).takeWhile tagB ∈ stopsL then 0 else 3
  | _ => 0
def FolW (u : Str) : Prop := FolP u ∧ tkey u = 0
theorem stops_words : ∀ s ∈ stopsL, s ∈ wordsL := by decide
theorem tkey_part {s u : Str} (h : PS s) (hu : FolP u) : tkey (32 :: (s ++ u)) = 3 := by
  cases h with
  | dig c r h =>
    obtain ⟨h1, _, _, _, _, _, h4, h5, _⟩ := dig_not h
    have ho : opc c = false := by
      unfold digB at h
      have h2 := of_decide_eq_true h
      unfold opc
      refine decide_eq_false (fun hm => ?_)
      simp only [List.mem_cons, List.not_mem_nil, or_false] at hm
      rcases hm with rfl | rfl | rfl | rfl | rfl | rfl | rfl | rfl <;> simp at h2
    have hs : ¬ ((c :: (r ++ u)).takeWhile tagB ∈ stopsL) := by
      intro hm
      have : (c :: (r ++ u)).takeWhile tagB = c :: (r ++ u).takeWhile tagB := by rw [List.takeWhile_cons, dig_tag h]; simp
      rw [this] at hm
      simp only [stopsL, List.mem_cons, List.not_mem_nil, or_false, List.cons.injEq] at hm
      rcases hm with e | e | e | e | e <;> (rw [e.1] at h1; revert h1; decide)
    simp only [List.cons_append, tkey, h5, ho, h4, hs, if_false, or_self, Bool.false_eq_true]
  | quo r => simp [tkey, opc, stopsL, List.takeWhile_cons, tagB, lowB, highB, digB]
  | brc r => simp [tkey, opc, stopsL, List.takeWhile_cons, tagB, lowB, highB, digB]
  | par r => simp [tkey, opc, stopsL, List.takeWhile_cons, tagB, lowB, highB, digB]
  | nam c r h ha hw =>
    obtain ⟨h1, _, _, _, _, _, h4, h5, _⟩ := low_dig h
    have ho : opc c = false := by
      unfold lowB at h
      have h2 := of_decide_eq_true h
      unfold opc
      refine decide_eq_false (fun hm => ?_)
      simp only [List.mem_cons, List.not_mem_nil, or_false] at hm
      rcases hm with rfl | rfl | rfl | rfl | rfl | rfl | rfl | rfl <;> simp at h2
    have hr := runT_app ha hu
    have hs : ¬ ((c :: (r ++ u)).takeWhile tagB ∈ stopsL) := by
      rw [List.cons_append] at hr
      rw [hr]
      exact fun hm => hw (stops_words _ hm)
    simp only [List.cons_append, tkey, h5, ho, h4, hs, if_false, or_self, Bool.false_eq_true]
  | rea =>
    have hr := runT_app (s := [114, 101, 97, 100]) (allT_of (by decide)) hu
    show tkey (32 :: 114 :: ([101, 97, 100] ++ u)) = 3
    have hs : ¬ ((114 :: ([101, 97, 100] ++ u)).takeWhile tagB ∈ stopsL) := by
      rw [show (114 :: ([101, 97, 100] ++ u)) = [114, 101, 97, 100] ++ u from rfl, hr]
      decide
    simp only [tkey, hs]
    simp [opc]
theorem op_first {s : Str} (h : s ∈ opsL) : ∃ c r, s = c :: r ∧ opc c = true ∧ c ≠ 58 := by
  simp only [opsL, List.mem_cons, List.not_mem_nil, or_false] at h
  rcases h with rfl | rfl | rfl | rfl | rfl | rfl | rfl | rfl
  all_goals exact ⟨_, _, rfl, by decide, by decide⟩
theorem tkey_op {s u : Str} (h : s ∈ opsL) : tkey (32 :: (s ++ u)) = 4 := by
  obtain ⟨c, r, rfl, h1, h2⟩ := op_first h
  simp only [List.cons_append, tkey, h2, h1, if_false, if_true]
theorem op_pre {s t u v : Str} (hs : s ∈ opsL) (ht : t ∈ opsL) (h : s ++ 32 :: u = t ++ 32 :: v) : s = t ∧ u = v := by
  simp only [opsL, List.mem_cons, List.not_mem_nil, or_false] at hs ht
  rcases hs with rfl | rfl | rfl | rfl | rfl | rfl | rfl | rfl <;> rcases ht with rfl | rfl | rfl | rfl | rfl | rfl | rfl | rfl <;> first | (exact ⟨rfl, by simpa using h⟩) | (exfalso; revert h; simp)
theorem folW_nil : FolW [] := ⟨folP_nil, rfl⟩
theorem folW_close (u : Str) : FolW (41 :: u) := ⟨folP_cons (by decide), rfl⟩
theorem folW_brace (u : Str) : FolW (125 :: u) := ⟨folP_cons (by decide), rfl⟩
theorem folW_comma (u : Str) : FolW (44 :: u) := ⟨folP_cons (by decide), rfl⟩
theorem folW_bar (u : Str) : FolW (32 :: 124 :: u) := ⟨folP_cons (by decide), by simp [tkey, opc]⟩
theorem folW_stop {s : Str} (h : s ∈ stopsL) {u : Str} (hu : FolP u) : FolW (32 :: (s ++ u)) := by
  refine ⟨folP_cons (by decide), ?_⟩
  have hall : ∀ s ∈ stopsL, s.all tagB = true := by decide
  have hr := runT_app (s := s) (allT_of (hall s h)) hu
  cases s with
  | nil => simp [stopsL] at h
  | cons c r =>
    rw [List.cons_append] at hr ⊢
    have hc : c ≠ 58 ∧ opc c = false := by
      simp only [stopsL, List.mem_cons, List.not_mem_nil, or_false, List.cons.injEq] at h
      rcases h with e | e | e | e | e <;> (rw [e.1]; decide)
    simp only [tkey, hc.1, hc.2, if_false, Bool.false_eq_true, hr, h, or_true, if_true]
end Go.Proofs.YtaglmmcjhlehjaaGreatDoor

namespace Go.Proofs.YtaglmmcjhlehjaaGreatDoor
open Go.RowKit
set_option linter.unusedVariables false
set_option linter.unusedSimpArgs false

def WW (x : Ex) : Prop := ∀ y : Ex, y.Ok → ∀ u v : Str, FolW u → FolW v → x.sh ++ u = y.sh ++ v → x.eqv y ∧ u = v
def PP (x : Ex) : Prop := ∀ y : Ex, y.Ok → ∀ u v : Str, FolP u → FolP v → x.pa ++ u = y.pa ++ v → x.eqv y ∧ u = v
theorem fw {a b c : Str} (h : a ++ b = a ++ c) : b = c := List.append_cancel_left h
theorem fol32 {u : Str} : FolP (32 :: u) := folP_cons (by decide)

/-! ### Records -/
def FR : List Str → List Str → Str
  | l :: ls, t :: ts => 44 :: 32 :: (l ++ (32 :: 61 :: 32 :: (t ++ FR ls ts)))
  | _, _ => []
def FF : List Str → List Str → Str
  | l :: ls, t :: ts => l ++ (32 :: 61 :: 32 :: (t ++ FR ls ts))
  | _, _ => []
def tailTo (lb : List Str) (T : Nat → Str) : Nat → Str
  | 0 => []
  | k + 1 => tailTo lb T k ++ 44 :: 32 :: (lb.getD k [] ++ 32 :: 61 :: 32 :: T k)
theorem fieldsTo_peel (x : Str) (lb : List Str) (T : Nat → Str) : ∀ k, fieldsTo (x :: lb) T (k + 1) = x ++ (32 :: 61 :: 32 :: (T 0 ++ tailTo lb (fun i => T (i + 1)) k))
  | 0 => by simp [fieldsTo, tailTo]
  | k + 1 => by
    rw [show fieldsTo (x :: lb) T (k + 1 + 1) = fieldsTo (x :: lb) T (k + 1) ++ (if k + 1 = 0 then [] else [44, 32]) ++ (x :: lb).getD (k + 1) [] ++ [32, 61, 32] ++ T (k + 1) from rfl, fieldsTo_peel x lb T k, if_neg (by omega)]
    simp [tailTo, List.append_assoc]
theorem tailTo_peel (x : Str) (lb : List Str) (T : Nat → Str) : ∀ k, tailTo (x :: lb) T (k + 1) = 44 :: 32 :: (x ++ (32 :: 61 :: 32 :: (T 0 ++ tailTo lb (fun i => T (i + 1)) k)))
  | 0 => by simp [tailTo]
  | k + 1 => by
    rw [show tailTo (x :: lb) T (k + 1 + 1) = tailTo (x :: lb) T (k + 1) ++ 44 :: 32 :: ((x :: lb).getD (k + 1) [] ++ 32 :: 61 :: 32 :: T (k + 1)) from rfl, tailTo_peel x lb T k]
    simp [tailTo, List.append_assoc]
theorem tailTo_FR : ∀ (lb ts : List Str), lb.length = ts.length → tailTo lb (fun i => ts.getD i []) lb.length = FR lb ts
  | [], [], _ => rfl
  | x :: lb, t :: ts, h => by
    rw [List.length_cons, tailTo_peel]
    simp only [List.getD_cons_zero, List.getD_cons_succ, FR]
    rw [tailTo_FR lb ts (by simpa using h)]
  | [], t :: ts, h => by simp at h
  | x :: lb, [], h => by simp at h
theorem fieldsTo_FF : ∀ (lb ts : List Str), lb.length = ts.length → fieldsTo lb (fun i => ts.getD i []) lb.length = FF lb ts
  | [], [], _ => rfl
  | x :: lb, t :: ts, h => by
    rw [List.length_cons, fieldsTo_peel]
    simp only [List.getD_cons_zero, List.getD_cons_succ, FF]
    rw [tailTo_FR lb ts (by simpa using h)]
  | [], t :: ts, h => by simp at h
  | x :: lb, [], h => by simp at h
theorem folW_fr (ls ts : List Str) (u : Str) : FolW (FR ls ts ++ 125 :: u) := by
  cases ls with
  | nil => simp only [FR, List.nil_append]; exact folW_brace u
  | cons l ls =>
    cases ts with
    | nil => simp only [FR, List.nil_append]; exact folW_brace u
    | cons t ts => simp only [FR, List.cons_append]; exact folW_comma _
theorem FR_inj : ∀ (ls : List Str) (xs : List Ex) (ms : List Str) (ys : List Ex) (u v : Str), ls.length = xs.length → ms.length = ys.length → (∀ s ∈ ls, tokB s 1 = true) → (∀ s ∈ ms, tokB s 1 = true) → (∀ x ∈ xs, WW x) → (∀ y ∈ ys, y.Ok) →
    FR ls (xs.map Ex.sh) ++ 125 :: u = FR ms (ys.map Ex.sh) ++ 125 :: v → ls = ms ∧ eqvL xs ys ∧ u = v
  | [], [], [], [], u, v, _, _, _, _, _, _, e => by simp [FR] at e; exact ⟨rfl, by simp [eqvL], e⟩
  | [], [], m :: ms, y :: ys, u, v, _, _, _, _, _, _, e => by simp [FR] at e
  | l :: ls, x :: xs, [], [], u, v, _, _, _, _, _, _, e => by simp [FR] at e
  | l :: ls, x :: xs, m :: ms, y :: ys, u, v, h1, h2, t1, t2, hw, hy, e => by
    simp only [FR, List.map_cons, List.cons_append, List.append_assoc, List.cons.injEq, true_and] at e
    obtain ⟨e1, e2⟩ := run_eq (tok1 (t1 l (by simp))).2.1 (tok1 (t2 m (by simp))).2.1 fol32 fol32 e
    simp only [List.cons.injEq, true_and] at e2
    obtain ⟨e3, e4⟩ := hw x (by simp) y (hy y (by simp)) _ _ (folW_fr _ _ _) (folW_fr _ _ _) e2
    obtain ⟨e5, e6, e7⟩ := FR_inj ls xs ms ys u v (by simpa using h1) (by simpa using h2) (fun s hs => t1 s (by simp [hs])) (fun s hs => t2 s (by simp [hs])) (fun x hx => hw x (by simp [hx])) (fun y hy' => hy y (by simp [hy'])) e4
    exact ⟨by rw [e1, e5], ⟨e3, e6⟩, e7⟩
  | [], x :: xs, _, _, _, _, h, _, _, _, _, _, _ => by simp at h
  | l :: ls, [], _, _, _, _, h, _, _, _, _, _, _ => by simp at h
  | [], [], [], y :: ys, _, _, _, h, _, _, _, _, _ => by simp at h
  | [], [], m :: ms, [], _, _, _, h, _, _, _, _, _ => by simp at h
  | l :: ls, x :: xs, [], y :: ys, _, _, _, h, _, _, _, _, _ => by simp at h
  | l :: ls, x :: xs, m :: ms, [], _, _, _, h, _, _, _, _, _ => by simp at h

/-! ### Matches -/
def AR : List Str → List Str → List Str → Str
  | t :: ts, n :: ns, s :: ss => 32 :: 124 :: 32 :: (t ++ 32 :: (n ++ 32 :: 45 :: 62 :: 32 :: (s ++ AR ts ns ss)))
  | _, _, _ => []
theorem armsTo_peel (x y : Str) (lb nm : List Str) (T : Nat → Str) : ∀ k, armsTo (x :: lb) (y :: nm) T (k + 1) = 32 :: 124 :: 32 :: (x ++ 32 :: (y ++ 32 :: 45 :: 62 :: 32 :: (T 1 ++ armsTo lb nm (fun i => T (i + 1)) k)))
  | 0 => by simp [armsTo]
  | k + 1 => by
    rw [show armsTo (x :: lb) (y :: nm) T (k + 1 + 1) = armsTo (x :: lb) (y :: nm) T (k + 1) ++ [32, 124, 32] ++ (x :: lb).getD (k + 1) [] ++ [32] ++ (y :: nm).getD (k + 1) [] ++ [32, 45, 62, 32] ++ T (k + 1 + 1) from rfl, armsTo_peel x y lb nm T k]
    simp [armsTo, List.append_assoc]
theorem armsTo_AR : ∀ (lb nm ss : List Str) (T : Nat → Str), lb.length = nm.length → lb.length = ss.length → (∀ i, i < lb.length → T (i + 1) = ss.getD i []) → armsTo lb nm T lb.length = AR lb nm ss
  | [], [], [], _, _, _, _ => rfl
  | x :: lb, y :: nm, s :: ss, T, h1, h2, h3 => by
    rw [List.length_cons, armsTo_peel]
    simp only [AR]
    rw [h3 0 (by simp), armsTo_AR lb nm ss (fun i => T (i + 1)) (by simpa using h1) (by simpa using h2) (fun i hi => by rw [h3 (i + 1) (by simpa using hi)]; rfl)]
    rfl
  | [], y :: nm, _, _, h, _, _ => by simp at h
  | x :: lb, [], _, _, h, _, _ => by simp at h
  | [], [], s :: ss, _, _, h, _ => by simp at h
  | x :: lb, y :: nm, [], _, _, h, _ => by simp at h
def zkey (w : Str) : Nat := match w with
  | 32 :: 124 :: 32 :: c :: _ => if highB c = true then 1 else 2
  | _ => 0
theorem folW_ar (ts ns ss : List Str) (Z : Str) (h : FolW Z) : FolW (AR ts ns ss ++ Z) := by
  cases ts with
  | nil => simpa [AR] using h
  | cons t ts =>
    cases ns with
    | nil => simpa [AR] using h
    | cons n ns =>
      cases ss with
      | nil => simpa [AR] using h
      | cons s ss => simp only [AR, List.cons_append]; exact folW_bar _
theorem zkey_arm {t u : Str} (h : tokB t 3 = true) : zkey (32 :: 124 :: 32 :: (t ++ u)) = 1 := by
  obtain ⟨⟨c, r, rfl, hc⟩, _⟩ := tok3 h
  simp [zkey, hc]
theorem zkey_rest {t u : Str} (h : tokB t 1 = true) : zkey (32 :: 124 :: 32 :: (t ++ u)) = 2 := by
  obtain ⟨⟨c, r, rfl, hc⟩, _⟩ := tok1 h
  have := (low_dig hc).2.1
  simp [zkey, this]
theorem AR_inj : ∀ (ts ns : List Str) (xs : List Ex) (ts' ns' : List Str) (ys : List Ex) (Z Z' : Str), ts.length = ns.length → ts.length = xs.length → ts'.length = ns'.length → ts'.length = ys.length →
    (∀ s ∈ ts, tokB s 3 = true) → (∀ s ∈ ts', tokB s 3 = true) → (∀ s ∈ ns, tokB s 1 = true) → (∀ s ∈ ns', tokB s 1 = true) → (∀ x ∈ xs, WW x) → (∀ y ∈ ys, y.Ok) → FolW Z → FolW Z' → zkey Z ≠ 1 → zkey Z' ≠ 1 →
    AR ts ns (xs.map Ex.sh) ++ Z = AR ts' ns' (ys.map Ex.sh) ++ Z' → ts = ts' ∧ ns = ns' ∧ eqvL xs ys ∧ Z = Z'
  | [], [], [], [], [], [], Z, Z', _, _, _, _, _, _, _, _, _, _, _, _, _, _, e => by simp only [AR, List.nil_append, List.map_nil] at e; exact ⟨rfl, rfl, by simp [eqvL], e⟩
  | [], [], [], t' :: ts', n' :: ns', y :: ys, Z, Z', _, _, _, _, _, a2, _, _, _, _, _, _, z, _, e => by
    simp only [AR, List.nil_append, List.map_nil, List.map_cons, List.cons_append, List.append_assoc] at e
    rw [e, zkey_arm (a2 t' (by simp))] at z
    exact absurd rfl z
  | t :: ts, n :: ns, x :: xs, [], [], [], Z, Z', _, _, _, _, a1, _, _, _, _, _, _, _, _, z', e => by
    simp only [AR, List.nil_append, List.map_nil, List.map_cons, List.cons_append, List.append_assoc] at e
    rw [← e, zkey_arm (a1 t (by simp))] at z'
    exact absurd rfl z'
  | t :: ts, n :: ns, x :: xs, t' :: ts', n' :: ns', y :: ys, Z, Z', h1, h2, h3, h4, a1, a2, b1, b2, hw, hy, fz, fz', z, z', e => by
    simp only [AR, List.map_cons, List.cons_append, List.append_assoc, List.cons.injEq, true_and] at e
    obtain ⟨e1, e2⟩ := run_eq (tok3 (a1 t (by simp))).2 (tok3 (a2 t' (by simp))).2 fol32 fol32 e
    simp only [List.cons.injEq, true_and] at e2
    obtain ⟨e3, e4⟩ := run_eq (tok1 (b1 n (by simp))).2.1 (tok1 (b2 n' (by simp))).2.1 fol32 fol32 e2
    simp only [List.cons.injEq, true_and] at e4
    obtain ⟨e5, e6⟩ := hw x (by simp) y (hy y (by simp)) _ _ (folW_ar _ _ _ _ fz) (folW_ar _ _ _ _ fz') e4
    obtain ⟨e7, e8, e9, e10⟩ := AR_inj ts ns xs ts' ns' ys Z Z' (by simpa using h1) (by simpa using h2) (by simpa using h3) (by simpa using h4) (fun s hs => a1 s (by simp [hs])) (fun s hs => a2 s (by simp [hs])) (fun s hs => b1 s (by simp [hs])) (fun s hs => b2 s (by simp [hs])) (fun x hx => hw x (by simp [hx])) (fun y hy' => hy y (by simp [hy'])) fz fz' z z' e6
    exact ⟨by rw [e1, e7], by rw [e3, e8], ⟨e5, e9⟩, e10⟩
  | [], n :: ns, _, _, _, _, _, _, h, _, _, _, _, _, _, _, _, _, _, _, _, _, _ => by simp at h
  | t :: ts, [], _, _, _, _, _, _, h, _, _, _, _, _, _, _, _, _, _, _, _, _, _ => by simp at h
  | [], [], x :: xs, _, _, _, _, _, _, h, _, _, _, _, _, _, _, _, _, _, _, _, _ => by simp at h
  | t :: ts, n :: ns, [], _, _, _, _, _, _, h, _, _, _, _, _, _, _, _, _, _, _, _, _ => by simp at h
  | [], [], [], [], n' :: ns', _, _, _, _, _, h, _, _, _, _, _, _, _, _, _, _, _, _ => by simp at h
  | [], [], [], t' :: ts', [], _, _, _, _, _, h, _, _, _, _, _, _, _, _, _, _, _, _ => by simp at h
  | [], [], [], [], [], y :: ys, _, _, _, _, _, h, _, _, _, _, _, _, _, _, _, _, _ => by simp at h
  | [], [], [], t' :: ts', n' :: ns', [], _, _, _, _, _, h, _, _, _, _, _, _, _, _, _, _, _ => by simp at h
  | t :: ts, n :: ns, x :: xs, [], n' :: ns', _, _, _, _, _, h, _, _, _, _, _, _, _, _, _, _, _, _ => by simp at h
  | t :: ts, n :: ns, x :: xs, t' :: ts', [], _, _, _, _, _, h, _, _, _, _, _, _, _, _, _, _, _, _ => by simp at h
  | t :: ts, n :: ns, x :: xs, [], [], y :: ys, _, _, _, _, _, h, _, _, _, _, _, _, _, _, _, _, _ => by simp at h
  | t :: ts, n :: ns, x :: xs, t' :: ts', n' :: ns', [], _, _, _, _, _, h, _, _, _, _, _, _, _, _, _, _, _ => by simp at h

theorem eqv_of {d e : ExD} {l m : List Ex} (h : (Ex.mk d l).Ok) (h' : (Ex.mk e m).Ok) (hk : d.kind = e.kind) (h1 : d.kind ≠ 1) (h8 : ¬ (d.kind = 8 ∨ d.kind = 14)) (hs : d.s = e.s) (ht : d.t = e.t) (hL : eqvL l m) : (Ex.mk d l).eqv (.mk e m) := by
  have a := h.l0 h8
  have b := h'.l0 (by rw [← hk]; exact h8)
  exact ⟨hk, by rw [h.z h1, h'.z (by rw [← hk]; exact h1)], hs, ht, by rw [a.1, b.1], by rw [a.2, b.2], hL⟩
theorem eq1 {a b : Ex} (h : a.eqv b) : eqvL [a] [b] := by simp [eqvL, h]
theorem eq2 {a b a' b' : Ex} (h : a.eqv a') (k : b.eqv b') : eqvL [a, b] [a', b'] := by simp [eqvL, h, k]
theorem eq3 {a b c a' b' c' : Ex} (h : a.eqv a') (k : b.eqv b') (j : c.eqv c') : eqvL [a, b, c] [a', b', c'] := by simp [eqvL, h, k, j]
theorem parts_none {d : ExD} {l : List Ex} (h : (Ex.mk d l).Ok) (hk : d.kind = 1 ∨ d.kind = 2 ∨ d.kind = 3 ∨ d.kind = 22) : l = [] := by
  have h1 := h.fld.pn
  unfold partsF at h1
  rw [if_pos hk] at h1
  exact List.length_eq_zero_iff.1 (by rw [h.pl]; omega)
theorem st_in : [105, 110] ∈ stopsL := by decide
theorem st_then : [116, 104, 101, 110] ∈ stopsL := by decide
theorem st_else : [101, 108, 115, 101] ∈ stopsL := by decide
theorem st_end : [101, 110, 100] ∈ stopsL := by decide
theorem st_with : [119, 105, 116, 104] ∈ stopsL := by decide
theorem fw_in (u : Str) : FolW (32 :: 105 :: 110 :: 32 :: u) := folW_stop st_in fol32
theorem fw_then (u : Str) : FolW (32 :: 116 :: 104 :: 101 :: 110 :: 32 :: u) := folW_stop st_then fol32
theorem fw_else (u : Str) : FolW (32 :: 101 :: 108 :: 115 :: 101 :: 32 :: u) := folW_stop st_else fol32
end Go.Proofs.YtaglmmcjhlehjaaGreatDoor

namespace Go.Proofs.YtaglmmcjhlehjaaGreatDoor
open Go.RowKit
set_option linter.unusedVariables false
set_option linter.unusedSimpArgs false

theorem leadK_inv (k : Int) : (leadK k = 1 → k = 4) ∧ (leadK k = 2 → k = 6 ∨ k = 7) ∧ (leadK k = 3 → k = 14) ∧ (leadK k = 4 → k = 15) ∧ (leadK k = 5 → k = 17) ∧ (leadK k = 6 → k = 20) ∧ (leadK k = 7 → k = 21) ∧ (leadK k = 8 → k = 18) ∧ (leadK k = 9 → k = 13) ∧ (leadK k = 10 → k ≠ 4 ∧ k ≠ 6 ∧ k ≠ 7 ∧ k ≠ 14 ∧ k ≠ 15 ∧ k ≠ 17 ∧ k ≠ 20 ∧ k ≠ 21 ∧ k ≠ 18 ∧ k ≠ 13) := by
  by_cases h4 : k = 4
  · subst h4
    have e : leadK 4 = 1 := by decide
    rw [e]; simp
  by_cases h6 : k = 6
  · subst h6
    have e : leadK 6 = 2 := by decide
    rw [e]; simp
  by_cases h7 : k = 7
  · subst h7
    have e : leadK 7 = 2 := by decide
    rw [e]; simp
  by_cases h14 : k = 14
  · subst h14
    have e : leadK 14 = 3 := by decide
    rw [e]; simp
  by_cases h15 : k = 15
  · subst h15
    have e : leadK 15 = 4 := by decide
    rw [e]; simp
  by_cases h17 : k = 17
  · subst h17
    have e : leadK 17 = 5 := by decide
    rw [e]; simp
  by_cases h20 : k = 20
  · subst h20
    have e : leadK 20 = 6 := by decide
    rw [e]; simp
  by_cases h21 : k = 21
  · subst h21
    have e : leadK 21 = 7 := by decide
    rw [e]; simp
  by_cases h18 : k = 18
  · subst h18
    have e : leadK 18 = 8 := by decide
    rw [e]; simp
  by_cases h13 : k = 13
  · subst h13
    have e : leadK 13 = 9 := by decide
    rw [e]; simp
  have e : leadK k = 10 := by unfold leadK; rw [if_neg (by omega), if_neg (by omega), if_neg (by omega), if_neg (by omega), if_neg (by omega), if_neg (by omega), if_neg (by omega), if_neg (by omega), if_neg (by omega)]
  rw [e]
  simp
  exact ⟨h4, h6, h7, h14, h15, h17, h20, h21, h18, h13⟩
theorem pk_inv (k : Int) : (pk k = 1 → k = 1) ∧ (pk k = 2 → k = 2) ∧ (pk k = 3 → k = 3) ∧ (pk k = 4 → k = 22) ∧ (pk k = 5 → k = 8 ∨ k = 10 ∨ k = 12) := by
  unfold pk
  refine ⟨?_, ?_, ?_, ?_, ?_⟩ <;> intro h <;> (repeat' split at h) <;> first | omega | (rename_i hb; unfold braceB at hb; rw [decide_eq_true_eq] at hb; omega)
theorem sh_8R {d : ExD} {l : List Ex} (h : (Ex.mk d l).Ok) (hk : d.kind = 8) : (Ex.mk d l).sh = 123 :: (FF d.labels (l.map Ex.sh) ++ [125]) := by
  rw [sh_8 hk]
  have hp := (parts_rec h.fld hk).1
  have hl : d.labels.length = (l.map Ex.sh).length := by rw [List.length_map, h.pl, h.ll, hp]
  rw [← h.ll]
  have := fieldsTo_FF d.labels (l.map Ex.sh) hl
  rw [show fieldsTo d.labels (shAt l) d.labels.length = FF d.labels (l.map Ex.sh) from this]
/-- A name and ' = ' ahead, against a part and ' with ' ahead. -/
theorem not_with {s t r r' : Str} (hs : tokB s 1 = true) (ht : PS t) (h : s ++ (32 :: 61 :: r) = t ++ (32 :: 119 :: r')) : False := by
  obtain ⟨⟨c, q, e, hc⟩, ha, hw⟩ := tok1 hs
  obtain ⟨hd, _, h1, h2, h3, _⟩ := low_dig hc
  cases ht with
  | dig c' r h' =>
    rw [e] at h
    simp only [List.cons_append, List.cons.injEq] at h
    rw [h.1, h'] at hd; cases hd
  | quo r => rw [e] at h; simp only [List.cons_append, List.cons.injEq] at h; exact h1 h.1
  | brc r => rw [e] at h; simp only [List.cons_append, List.cons.injEq] at h; exact h2 h.1
  | par r => rw [e] at h; simp only [List.cons_append, List.cons.injEq] at h; exact h3 h.1
  | nam c' r h' ha' hw' =>
    obtain ⟨_, e2⟩ := run_eq ha ha' fol32 fol32 h
    simp at e2
  | rea =>
    obtain ⟨e1, _⟩ := run_eq ha (allT_of (s := [114, 101, 97, 100]) (by decide)) fol32 fol32 h
    exact hw (by rw [e1]; exact read_word)
theorem not_with0 {t r r' : Str} (ht : PS t) (h : 125 :: r = t ++ r') : False := by
  cases ht with
  | dig c' q h' => simp only [List.cons_append, List.cons.injEq] at h; exact (dig_not h').2.2.2.2.2.2.2.2 h.1.symm
  | quo q => simp at h
  | brc q => simp at h
  | par q => simp at h
  | nam c' q h' _ _ => simp only [List.cons_append, List.cons.injEq] at h; exact (low_dig h').2.2.2.2.2.2.2.2 h.1.symm
  | rea => simp at h
theorem lab8 {d : ExD} {l : List Ex} (h : (Ex.mk d l).Ok) (hk : d.kind = 8) : (∀ s ∈ d.labels, tokB s 1 = true) ∧ d.labels.length = l.length ∧ d.names = [] := by
  obtain ⟨h1, h2, _, h4⟩ := parts_rec h.fld hk
  exact ⟨labB_all h4, by rw [h.ll, h.pl, h1], List.length_eq_zero_iff.1 (by rw [h.nl, h2])⟩
/-- What stands in braces, beginning with a name: a record's fields, or one more field. -/
theorem brace_name {d e : ExD} {l : List Ex} {a c : Ex} (h : (Ex.mk d l).Ok) (hk : d.kind = 8) (h' : (Ex.mk e [a, c]).Ok) (hk' : e.kind = 10) (IW : ∀ z ∈ l, WW z) {u v : Str} (q : FF d.labels (l.map Ex.sh) ++ 125 :: u = e.s ++ (32 :: 61 :: 32 :: (a.sh ++ (32 :: 124 :: v)))) : False := by
  obtain ⟨ht, hl, _⟩ := lab8 h hk
  have hn := h'.fld.name (by omega)
  cases hd : d.labels with
  | nil =>
    rw [hd] at q
    simp only [FF, List.nil_append] at q
    obtain ⟨⟨x, r, es, hc⟩, _⟩ := tok1 hn
    rw [es] at q
    simp only [List.cons_append, List.cons.injEq] at q
    exact (low_dig hc).2.2.2.2.2.2.2.2 q.1.symm
  | cons s ss =>
    cases hm : l with
    | nil => rw [hd, hm] at hl; simp at hl
    | cons x xs =>
      rw [hd, hm] at q
      simp only [FF, List.map_cons, List.append_assoc, List.cons_append] at q
      obtain ⟨e1, e2⟩ := run_eq (tok1 (ht s (by rw [hd]; simp))).2.1 (tok1 hn).2.1 fol32 fol32 q
      simp only [List.cons.injEq, true_and] at e2
      obtain ⟨_, e3⟩ := IW x (by rw [hm]; simp) a (h'.sub a (by simp)) _ _ (folW_fr _ _ _) (folW_bar _) e2
      cases ss with
      | nil => simp [FR] at e3
      | cons s2 ss2 =>
        cases xs with
        | nil => simp [FR] at e3
        | cons x2 xs2 => simp [FR] at e3
theorem brace_name' {d e : ExD} {l : List Ex} {a c : Ex} (h : (Ex.mk d l).Ok) (hk : d.kind = 8) (h' : (Ex.mk e [a, c]).Ok) (hk' : e.kind = 10) (IW : WW a) {u v : Str} (q : e.s ++ (32 :: 61 :: 32 :: (a.sh ++ (32 :: 124 :: v))) = FF d.labels (l.map Ex.sh) ++ 125 :: u) : False := by
  obtain ⟨ht, hl, _⟩ := lab8 h hk
  have hn := h'.fld.name (by omega)
  cases hd : d.labels with
  | nil =>
    rw [hd] at q
    simp only [FF, List.nil_append] at q
    obtain ⟨⟨x, r, es, hc⟩, _⟩ := tok1 hn
    rw [es] at q
    simp only [List.cons_append, List.cons.injEq] at q
    exact (low_dig hc).2.2.2.2.2.2.2.2 q.1
  | cons s ss =>
    cases hm : l with
    | nil => rw [hd, hm] at hl; simp at hl
    | cons x xs =>
      rw [hd, hm] at q
      simp only [FF, List.map_cons, List.append_assoc, List.cons_append] at q
      obtain ⟨e1, e2⟩ := run_eq (tok1 hn).2.1 (tok1 (ht s (by rw [hd]; simp))).2.1 fol32 fol32 q
      simp only [List.cons.injEq, true_and] at e2
      obtain ⟨_, e3⟩ := IW x (h.sub x (by rw [hm]; simp)) _ _ (folW_bar _) (folW_fr _ _ _) e2
      cases ss with
      | nil => simp [FR] at e3
      | cons s2 ss2 =>
        cases xs with
        | nil => simp [FR] at e3
        | cons x2 xs2 => simp [FR] at e3
theorem rec_with {d e : ExD} {l : List Ex} {a c : Ex} (h : (Ex.mk d l).Ok) (hk : d.kind = 8) (h' : (Ex.mk e [a, c]).Ok) (hk' : e.kind = 12) {u v : Str} (q : FF d.labels (l.map Ex.sh) ++ 125 :: u = c.pa ++ (32 :: 119 :: v)) : False := by
  obtain ⟨ht, hl, _⟩ := lab8 h hk
  have hc := pa_start (h'.sub c (by simp))
  cases hd : d.labels with
  | nil => rw [hd] at q; simp only [FF, List.nil_append] at q; exact not_with0 hc q
  | cons s ss =>
    cases hm : l with
    | nil => rw [hd, hm] at hl; simp at hl
    | cons x xs =>
      rw [hd, hm] at q
      simp only [FF, List.map_cons, List.append_assoc, List.cons_append] at q
      exact not_with (ht s (by rw [hd]; simp)) hc q
theorem FF_inj {d e : ExD} {l m : List Ex} (h : (Ex.mk d l).Ok) (hk : d.kind = 8) (h' : (Ex.mk e m).Ok) (hk' : e.kind = 8) (IW : ∀ z ∈ l, WW z) {u v : Str} (q : FF d.labels (l.map Ex.sh) ++ 125 :: u = FF e.labels (m.map Ex.sh) ++ 125 :: v) : d.labels = e.labels ∧ eqvL l m ∧ u = v := by
  obtain ⟨ht, hl, _⟩ := lab8 h hk
  obtain ⟨ht', hl', _⟩ := lab8 h' hk'
  have key : 44 :: 32 :: (FF d.labels (l.map Ex.sh) ++ 125 :: u) = 44 :: 32 :: (FF e.labels (m.map Ex.sh) ++ 125 :: v) := by rw [q]
  cases hd : d.labels with
  | nil =>
    cases he : e.labels with
    | nil =>
      rw [hd] at hl; rw [he] at hl'
      have a1 : l = [] := List.length_eq_zero_iff.1 hl.symm
      have a2 : m = [] := List.length_eq_zero_iff.1 hl'.symm
      rw [hd, he] at q
      simp [FF] at q
      exact ⟨rfl, by rw [a1, a2]; simp [eqvL], q⟩
    | cons s ss =>
      exfalso
      cases hm : m with
      | nil => rw [he, hm] at hl'; simp at hl'
      | cons x xs =>
        rw [hd, he, hm] at q
        simp only [FF, List.nil_append, List.map_cons, List.append_assoc] at q
        obtain ⟨⟨x, r, es, hc⟩, _⟩ := tok1 (ht' s (by rw [he]; simp))
        rw [es] at q
        simp only [List.cons_append, List.cons.injEq] at q
        exact (low_dig hc).2.2.2.2.2.2.2.2 q.1.symm
  | cons s ss =>
    cases hm : l with
    | nil => rw [hd, hm] at hl; simp at hl
    | cons x xs =>
      cases he : e.labels with
      | nil =>
        exfalso
        rw [hd, he, hm] at q
        simp only [FF, List.nil_append, List.map_cons, List.append_assoc] at q
        obtain ⟨⟨x, r, es, hc⟩, _⟩ := tok1 (ht s (by rw [hd]; simp))
        rw [es] at q
        simp only [List.cons_append, List.cons.injEq] at q
        exact (low_dig hc).2.2.2.2.2.2.2.2 q.1
      | cons t ts =>
        cases hn : m with
        | nil => rw [he, hn] at hl'; simp at hl'
        | cons y ys =>
          have g : FR (s :: ss) ((x :: xs).map Ex.sh) ++ 125 :: u = FR (t :: ts) ((y :: ys).map Ex.sh) ++ 125 :: v := by
            rw [hd, hm, he, hn] at q
            simp only [FF, FR, List.map_cons, List.append_assoc, List.cons_append] at q ⊢
            rw [q]
          exact FR_inj (s :: ss) (x :: xs) (t :: ts) (y :: ys) u v (by rw [← hd, ← hm]; exact hl) (by rw [← he, ← hn]; exact hl') (by rw [← hd]; exact ht) (by rw [← he]; exact ht') (by rw [← hm]; exact IW) (by rw [← hn]; exact h'.sub) g

theorem bb_of {d : ExD} {l : List Ex} (h : (Ex.mk d l).Ok) (hb : bareB d.kind = true) (IW : ∀ z ∈ l, WW z) (IP : ∀ z ∈ l, PP z) : PP (.mk d l) := by
  intro y hy u v hu hv e
  obtain ⟨d', m⟩ := y
  have hp : pk d.kind = pk d'.kind := by
    have h1 := pkey_eq h hu
    have h2 := pkey_eq hy hv
    rw [e] at h1
    exact h1.symm.trans h2
  have hI := pk_inv d'.kind
  have hb1 := hb
  unfold bareB at hb1
  rcases of_decide_eq_true hb1 with k | k | k | k | k | k | k
  · have hk' : d'.kind = 1 := hI.1 (by rw [← hp, k]; rfl)
    have hb' : bareB d'.kind = true := by unfold bareB; exact decide_eq_true (by omega)
    rw [pa_bare (x := .mk d l) hb, pa_bare (x := .mk d' m) hb', sh_1 k, sh_1 hk'] at e
    obtain ⟨e1, e2⟩ := run_eq (fun c hc => dig_tag (itoa_all (h.fld.n0 k) c hc)) (fun c hc => dig_tag (itoa_all (hy.fld.n0 hk') c hc)) hu hv e
    have a := h.l0 (by omega)
    have b := hy.l0 (by omega)
    refine ⟨⟨by rw [k, hk'], itoa_inj (h.fld.n0 k) (hy.fld.n0 hk') e1, by rw [h.fld.s0 (by omega), hy.fld.s0 (by omega)], by rw [h.fld.t0 (by omega), hy.fld.t0 (by omega)], by rw [a.1, b.1], by rw [a.2, b.2], ?_⟩, e2⟩
    rw [parts_none h (by omega), parts_none hy (by omega)]; simp [eqvL]
  · have hk' : d'.kind = 2 := hI.2.1 (by rw [← hp, k]; rfl)
    have hb' : bareB d'.kind = true := by unfold bareB; exact decide_eq_true (by omega)
    rw [pa_bare (x := .mk d l) hb, pa_bare (x := .mk d' m) hb', sh_2 k, sh_2 hk'] at e
    obtain ⟨q, hq⟩ := h.fld.quote k
    obtain ⟨q', hq'⟩ := hy.fld.quote hk'
    rw [hq, hq'] at e
    obtain ⟨e1, e2⟩ := quote_pre hq hq' e
    exact ⟨eqv_of h hy (by rw [k, hk']) (by omega) (by omega) e1 (by rw [h.fld.t0 (by omega), hy.fld.t0 (by omega)]) (by rw [parts_none h (by omega), parts_none hy (by omega)]; simp [eqvL]), e2⟩
  · have hk' : d'.kind = 3 := hI.2.2.1 (by rw [← hp, k]; rfl)
    have hb' : bareB d'.kind = true := by unfold bareB; exact decide_eq_true (by omega)
    rw [pa_bare (x := .mk d l) hb, pa_bare (x := .mk d' m) hb', sh_3 k, sh_3 hk'] at e
    obtain ⟨e1, e2⟩ := run_eq (tok1 (h.fld.name (by omega))).2.1 (tok1 (hy.fld.name (by omega))).2.1 hu hv e
    exact ⟨eqv_of h hy (by rw [k, hk']) (by omega) (by omega) e1 (by rw [h.fld.t0 (by omega), hy.fld.t0 (by omega)]) (by rw [parts_none h (by omega), parts_none hy (by omega)]; simp [eqvL]), e2⟩
  · have hk' : d'.kind = 8 ∨ d'.kind = 10 ∨ d'.kind = 12 := hI.2.2.2.2 (by rw [← hp, k]; rfl)
    have hb' : bareB d'.kind = true := by unfold bareB; exact decide_eq_true (by omega)
    rw [pa_bare (x := .mk d l) hb, pa_bare (x := .mk d' m) hb', sh_8R h k] at e
    rcases hk' with k' | k' | k'
    · rw [sh_8R hy k'] at e
      simp only [List.cons_append, List.append_assoc, List.cons.injEq, true_and, List.nil_append] at e
      obtain ⟨e1, e2, e3⟩ := FF_inj h k hy k' IW e
      exact ⟨⟨by rw [k, k'], by rw [h.z (by omega), hy.z (by omega)], by rw [h.fld.s0 (by omega), hy.fld.s0 (by omega)], by rw [h.fld.t0 (by omega), hy.fld.t0 (by omega)], e1, by rw [(lab8 h k).2.2, (lab8 hy k').2.2], e2⟩, e3⟩
    · exfalso
      obtain ⟨a, c, rfl, _⟩ := parts_two hy.fld hy.pl (by omega)
      rw [sh_10 k'] at e
      simp only [List.cons_append, List.append_assoc, List.cons.injEq, true_and, List.nil_append] at e
      exact brace_name h k hy k' IW e
    · exfalso
      obtain ⟨a, c, rfl, _⟩ := parts_two hy.fld hy.pl (by omega)
      rw [sh_12 k'] at e
      simp only [List.cons_append, List.append_assoc, List.cons.injEq, true_and, List.nil_append] at e
      exact rec_with h k hy k' e
  · have hk' : d'.kind = 8 ∨ d'.kind = 10 ∨ d'.kind = 12 := hI.2.2.2.2 (by rw [← hp, k]; rfl)
    have hb' : bareB d'.kind = true := by unfold bareB; exact decide_eq_true (by omega)
    obtain ⟨a, c, rfl, _⟩ := parts_two h.fld h.pl (by omega)
    rw [pa_bare (x := .mk d _) hb, pa_bare (x := .mk d' m) hb', sh_10 k] at e
    rcases hk' with k' | k' | k'
    · exfalso
      rw [sh_8R hy k'] at e
      simp only [List.cons_append, List.append_assoc, List.cons.injEq, true_and, List.nil_append] at e
      exact brace_name' hy k' h k (IW a (by simp)) e
    · obtain ⟨a', c', rfl, _⟩ := parts_two hy.fld hy.pl (by omega)
      rw [sh_10 k'] at e
      simp only [List.cons_append, List.append_assoc, List.cons.injEq, true_and, List.nil_append] at e
      obtain ⟨e1, e2⟩ := run_eq (tok1 (h.fld.name (by omega))).2.1 (tok1 (hy.fld.name (by omega))).2.1 fol32 fol32 e
      simp only [List.cons.injEq, true_and] at e2
      obtain ⟨e3, e4⟩ := IW a (by simp) a' (hy.sub a' (by simp)) _ _ (folW_bar _) (folW_bar _) e2
      simp only [List.cons.injEq, true_and] at e4
      obtain ⟨e5, e6⟩ := IW c (by simp) c' (hy.sub c' (by simp)) _ _ (folW_brace _) (folW_brace _) e4
      simp only [List.cons.injEq, true_and] at e6
      exact ⟨eqv_of h hy (by rw [k, k']) (by omega) (by omega) e1 (by rw [h.fld.t0 (by omega), hy.fld.t0 (by omega)]) (eq2 e3 e5), e6⟩
    · exfalso
      obtain ⟨a', c', rfl, _⟩ := parts_two hy.fld hy.pl (by omega)
      rw [sh_12 k'] at e
      simp only [List.cons_append, List.append_assoc, List.cons.injEq, true_and, List.nil_append] at e
      exact not_with (h.fld.name (by omega)) (pa_start (hy.sub c' (by simp))) e
  · have hk' : d'.kind = 8 ∨ d'.kind = 10 ∨ d'.kind = 12 := hI.2.2.2.2 (by rw [← hp, k]; rfl)
    have hb' : bareB d'.kind = true := by unfold bareB; exact decide_eq_true (by omega)
    obtain ⟨a, c, rfl, _⟩ := parts_two h.fld h.pl (by omega)
    rw [pa_bare (x := .mk d _) hb, pa_bare (x := .mk d' m) hb', sh_12 k] at e
    rcases hk' with k' | k' | k'
    · exfalso
      rw [sh_8R hy k'] at e
      simp only [List.cons_append, List.append_assoc, List.cons.injEq, true_and, List.nil_append] at e
      exact rec_with hy k' h k e.symm
    · exfalso
      obtain ⟨a', c', rfl, _⟩ := parts_two hy.fld hy.pl (by omega)
      rw [sh_10 k'] at e
      simp only [List.cons_append, List.append_assoc, List.cons.injEq, true_and, List.nil_append] at e
      exact not_with (hy.fld.name (by omega)) (pa_start (h.sub c (by simp))) e.symm
    · obtain ⟨a', c', rfl, _⟩ := parts_two hy.fld hy.pl (by omega)
      rw [sh_12 k'] at e
      simp only [List.cons_append, List.append_assoc, List.cons.injEq, true_and, List.nil_append] at e
      obtain ⟨e3, e4⟩ := IP c (by simp) c' (hy.sub c' (by simp)) _ _ fol32 fol32 e
      simp only [List.cons.injEq, true_and] at e4
      obtain ⟨e1, e2⟩ := run_eq (tok1 (h.fld.name (by omega))).2.1 (tok1 (hy.fld.name (by omega))).2.1 fol32 fol32 e4
      simp only [List.cons.injEq, true_and] at e2
      obtain ⟨e5, e6⟩ := IW a (by simp) a' (hy.sub a' (by simp)) _ _ (folW_brace _) (folW_brace _) e2
      simp only [List.cons.injEq, true_and] at e6
      exact ⟨eqv_of h hy (by rw [k, k']) (by omega) (by omega) e1 (by rw [h.fld.t0 (by omega), hy.fld.t0 (by omega)]) (eq2 e5 e3), e6⟩
  · have hk' : d'.kind = 22 := hI.2.2.2.1 (by rw [← hp, k]; rfl)
    have hb' : bareB d'.kind = true := by unfold bareB; exact decide_eq_true (by omega)
    rw [pa_bare (x := .mk d l) hb, pa_bare (x := .mk d' m) hb', sh_22 k, sh_22 hk'] at e
    exact ⟨eqv_of h hy (by rw [k, hk']) (by omega) (by omega) (by rw [h.fld.s0 (by omega), hy.fld.s0 (by omega)]) (by rw [h.fld.t0 (by omega), hy.fld.t0 (by omega)]) (by rw [parts_none h (by omega), parts_none hy (by omega)]; simp [eqvL]), fw e⟩
end Go.Proofs.YtaglmmcjhlehjaaGreatDoor

namespace Go.Proofs.YtaglmmcjhlehjaaGreatDoor
open Go.RowKit
set_option linter.unusedVariables false
set_option linter.unusedSimpArgs false

/-- Part, and what stands behind it. -/
def tk (k : Int) : Nat := if k = 9 then 1 else if k = 11 then 2 else if k = 5 then 3 else if k = 16 then 4 else if k = 19 then 5 else 0
structure Split (d : ExD) (l : List Ex) (p : Ex) (t : Str) : Prop where
  sh : (Ex.mk d l).sh = p.pa ++ t
  ok : p.Ok
  fol : ∀ u, FolP u → FolP (t ++ u)
  key : ∀ u, FolW u → tkey (t ++ u) = tk d.kind
  cas : (bareB d.kind = true ∧ p = .mk d l ∧ t = []) ∨ (d.kind = 9 ∧ l = [p] ∧ t = 46 :: d.s) ∨ (d.kind = 11 ∧ l = [p] ∧ t = 92 :: d.s) ∨ (d.kind = 5 ∧ ∃ c, l = [p, c] ∧ t = 32 :: c.pa) ∨ (d.kind = 16 ∧ ∃ c, l = [p, c] ∧ t = 32 :: (d.s ++ (32 :: c.pa))) ∨ (d.kind = 19 ∧ ∃ c, l = [p, c] ∧ t = 32 :: 58 :: 61 :: 32 :: c.pa)
theorem split10 {d : ExD} {l : List Ex} (h : (Ex.mk d l).Ok) (hk : leadK d.kind = 10) : ∃ p t, Split d l p t := by
  have hF := h.fld
  have hne := (leadK_inv d.kind).2.2.2.2.2.2.2.2.2 hk
  have hks := kinds_of hF
  unfold braceB blockB at hks
  simp only [decide_eq_true_eq] at hks
  by_cases hb : bareB d.kind = true
  · refine ⟨.mk d l, [], ⟨?_, h, fun u hu => hu, fun u hu => ?_, .inl ⟨hb, rfl, rfl⟩⟩⟩
    · rw [pa_bare (x := .mk d l) hb, List.append_nil]
    · rw [List.nil_append, hu.2]
      unfold bareB at hb
      have := of_decide_eq_true hb
      unfold tk
      rw [if_neg (by omega), if_neg (by omega), if_neg (by omega), if_neg (by omega), if_neg (by omega)]
  · have hb2 := hb
    unfold bareB at hb2
    rw [decide_eq_true_eq] at hb2
    have hk5 : d.kind = 9 ∨ d.kind = 11 ∨ d.kind = 5 ∨ d.kind = 16 ∨ d.kind = 19 := by omega
    rcases hk5 with k | k | k | k | k
    · obtain ⟨a, rfl, _⟩ := parts_one hF h.pl (by omega)
      exact ⟨a, 46 :: d.s, ⟨sh_9 k, h.sub a (by simp), fun u hu => folP_cons (by decide), fun u hu => by unfold tk; rw [if_pos k]; rfl, .inr (.inl ⟨k, rfl, rfl⟩)⟩⟩
    · obtain ⟨a, rfl, _⟩ := parts_one hF h.pl (by omega)
      exact ⟨a, 92 :: d.s, ⟨sh_11 k, h.sub a (by simp), fun u hu => folP_cons (by decide), fun u hu => by unfold tk; rw [if_neg (by omega), if_pos k]; rfl, .inr (.inr (.inl ⟨k, rfl, rfl⟩))⟩⟩
    · obtain ⟨a, c, rfl, _⟩ := parts_two hF h.pl (by omega)
      exact ⟨a, 32 :: c.pa, ⟨sh_5 k, h.sub a (by simp), fun u hu => folP_cons (by decide), fun u hu => by unfold tk; rw [if_neg (by omega), if_neg (by omega), if_pos k]; exact tkey_part (pa_start (h.sub c (by simp))) hu.1, .inr (.inr (.inr (.inl ⟨k, c, rfl, rfl⟩)))⟩⟩
    · obtain ⟨a, c, rfl, _⟩ := parts_two hF h.pl (by omega)
      exact ⟨a, 32 :: (d.s ++ (32 :: c.pa)), ⟨sh_16 k, h.sub a (by simp), fun u hu => folP_cons (by decide), fun u hu => by
        unfold tk
        rw [if_neg (by omega), if_neg (by omega), if_neg (by omega), if_pos k, List.cons_append, List.append_assoc]
        exact tkey_op (hF.op k), .inr (.inr (.inr (.inr (.inl ⟨k, c, rfl, rfl⟩))))⟩⟩
    · obtain ⟨a, c, rfl, _⟩ := parts_two hF h.pl (by omega)
      exact ⟨a, 32 :: 58 :: 61 :: 32 :: c.pa, ⟨sh_19 k, h.sub a (by simp), fun u hu => folP_cons (by decide), fun u hu => by unfold tk; rw [if_neg (by omega), if_neg (by omega), if_neg (by omega), if_neg (by omega), if_pos k]; rfl, .inr (.inr (.inr (.inr (.inr ⟨k, c, rfl, rfl⟩))))⟩⟩
theorem tk_bare {k : Int} (h : bareB k = true) : tk k = 0 := by
  unfold bareB at h
  have := of_decide_eq_true h
  unfold tk
  rw [if_neg (by omega), if_neg (by omega), if_neg (by omega), if_neg (by omega), if_neg (by omega)]
theorem ww_10 {d d' : ExD} {l m : List Ex} (h : (Ex.mk d l).Ok) (hy : (Ex.mk d' m).Ok) (hk : leadK d.kind = 10) (hk' : leadK d'.kind = 10) (BB : bareB d.kind = true → PP (.mk d l)) (IP : ∀ z ∈ l, PP z) {u v : Str} (hu : FolW u) (hv : FolW v) (e : (Ex.mk d l).sh ++ u = (Ex.mk d' m).sh ++ v) : (Ex.mk d l).eqv (.mk d' m) ∧ u = v := by
  obtain ⟨p, t, S⟩ := split10 h hk
  obtain ⟨p', t', S'⟩ := split10 hy hk'
  rw [S.sh, S'.sh, List.append_assoc, List.append_assoc] at e
  have hP : PP p := by
    rcases S.cas with ⟨a, b, _⟩ | ⟨_, b, _⟩ | ⟨_, b, _⟩ | ⟨_, c, b, _⟩ | ⟨_, c, b, _⟩ | ⟨_, c, b, _⟩
    · rw [b]; exact BB a
    all_goals exact IP p (by rw [b]; simp)
  obtain ⟨e1, e2⟩ := hP p' S'.ok _ _ (S.fol u hu.1) (S'.fol v hv.1) e
  have hkey : tk d.kind = tk d'.kind := by rw [← S.key u hu, e2, S'.key v hv]
  have t0 : ∀ (e : ExD) (q : List Ex), (Ex.mk e q).Ok → ¬ (e.kind = 7 ∨ e.kind = 14) → e.t = [] := fun e q ho hn => ho.fld.t0 hn
  rcases S.cas with ⟨a, b, c⟩ | ⟨a, b, c⟩ | ⟨a, b, c⟩ | ⟨a, z, b, c⟩ | ⟨a, z, b, c⟩ | ⟨a, z, b, c⟩ <;>
  rcases S'.cas with ⟨a', b', c'⟩ | ⟨a', b', c'⟩ | ⟨a', b', c'⟩ | ⟨a', z', b', c'⟩ | ⟨a', z', b', c'⟩ | ⟨a', z', b', c'⟩
  all_goals try (exfalso; first | (rw [tk_bare a, a'] at hkey; revert hkey; decide) | (rw [a, tk_bare a'] at hkey; revert hkey; decide) | (rw [a, a'] at hkey; revert hkey; decide))
  · rw [c, c'] at e2
    rw [b, b'] at e1
    exact ⟨e1, e2⟩
  · rw [c, c'] at e2
    simp only [List.cons_append, List.cons.injEq, true_and] at e2
    obtain ⟨e3, e4⟩ := run_eq (tok1 (h.fld.name (by omega))).2.1 (tok1 (hy.fld.name (by omega))).2.1 hu.1 hv.1 e2
    exact ⟨eqv_of h hy (by rw [a, a']) (by omega) (by omega) e3 (by rw [t0 d l h (by omega), t0 d' m hy (by omega)]) (by rw [b, b']; exact eq1 e1), e4⟩
  · rw [c, c'] at e2
    simp only [List.cons_append, List.cons.injEq, true_and] at e2
    obtain ⟨e3, e4⟩ := run_eq (tok1 (h.fld.name (by omega))).2.1 (tok1 (hy.fld.name (by omega))).2.1 hu.1 hv.1 e2
    exact ⟨eqv_of h hy (by rw [a, a']) (by omega) (by omega) e3 (by rw [t0 d l h (by omega), t0 d' m hy (by omega)]) (by rw [b, b']; exact eq1 e1), e4⟩
  · rw [c, c'] at e2
    simp only [List.cons_append, List.cons.injEq, true_and] at e2
    obtain ⟨e3, e4⟩ := IP z (by rw [b]; simp) z' (hy.sub z' (by rw [b']; simp)) _ _ hu.1 hv.1 e2
    exact ⟨eqv_of h hy (by rw [a, a']) (by omega) (by omega) (by rw [h.fld.s0 (by omega), hy.fld.s0 (by omega)]) (by rw [t0 d l h (by omega), t0 d' m hy (by omega)]) (by rw [b, b']; exact eq2 e1 e3), e4⟩
  · rw [c, c'] at e2
    simp only [List.cons_append, List.append_assoc, List.cons.injEq, true_and] at e2
    obtain ⟨e5, e6⟩ := op_pre (h.fld.op a) (hy.fld.op a') e2
    obtain ⟨e3, e4⟩ := IP z (by rw [b]; simp) z' (hy.sub z' (by rw [b']; simp)) _ _ hu.1 hv.1 e6
    exact ⟨eqv_of h hy (by rw [a, a']) (by omega) (by omega) e5 (by rw [t0 d l h (by omega), t0 d' m hy (by omega)]) (by rw [b, b']; exact eq2 e1 e3), e4⟩
  · rw [c, c'] at e2
    simp only [List.cons_append, List.cons.injEq, true_and] at e2
    obtain ⟨e3, e4⟩ := IP z (by rw [b]; simp) z' (hy.sub z' (by rw [b']; simp)) _ _ hu.1 hv.1 e2
    exact ⟨eqv_of h hy (by rw [a, a']) (by omega) (by omega) (by rw [h.fld.s0 (by omega), hy.fld.s0 (by omega)]) (by rw [t0 d l h (by omega), t0 d' m hy (by omega)]) (by rw [b, b']; exact eq2 e1 e3), e4⟩

/-! ### Matches -/
theorem match_parts {d : ExD} {l : List Ex} (h : (Ex.mk d l).Ok) (hk : d.kind = 14) : ∃ (a : Ex) (xs rs : List Ex), l = a :: (xs ++ rs) ∧ xs.length = d.ln ∧ d.nn = d.ln ∧ ((d.t = [] ∧ rs = []) ∨ (tokB d.t 1 = true ∧ ∃ r, rs = [r])) ∧ (∀ s ∈ d.labels, tokB s 3 = true) ∧ (∀ s ∈ d.names, tokB s 1 = true) := by
  have hF := h.fld
  have h3 := hF.lists
  unfold ExD.listsB at h3
  rw [if_neg (by omega), if_pos hk] at h3
  simp only [Bool.and_eq_true, decide_eq_true_eq] at h3
  have h30 : d.ln ≤ 30 := by have := labB_len h3.1.1.1; rw [h.ll] at this; exact this
  obtain ⟨h4, h5, h6⟩ := parts_match hF hk (by omega)
  have hpl := h.pl
  cases l with
  | nil => rw [h4] at hpl; simp at hpl; omega
  | cons a q =>
    simp only [List.length_cons] at hpl
    refine ⟨a, q.take d.ln, q.drop d.ln, by rw [List.take_append_drop], by rw [List.length_take]; omega, h5, ?_, labB_all h6, List.all_eq_true.1 h3.1.2⟩
    rcases hF.t14 hk with ht | ht
    · left
      rw [if_pos ht] at h4
      exact ⟨ht, List.drop_eq_nil_of_le (by omega)⟩
    · right
      have hne : d.t ≠ [] := by intro e; rw [e] at ht; cases ht
      rw [if_neg hne] at h4
      have hl1 : (q.drop d.ln).length = 1 := by rw [List.length_drop]; omega
      match hq : q.drop d.ln, hl1 with
      | [r], _ => exact ⟨ht, r, rfl⟩
theorem sh_14R {d : ExD} {a : Ex} {xs rs : List Ex} (h : (Ex.mk d (a :: (xs ++ rs))).Ok) (hk : d.kind = 14) (hx : xs.length = d.ln) (hn : d.nn = d.ln) :
    (Ex.mk d (a :: (xs ++ rs))).sh = [109, 97, 116, 99, 104, 32] ++ (a.sh ++ (32 :: 119 :: 105 :: 116 :: 104 :: (AR d.labels d.names (xs.map Ex.sh) ++ (d.restF (shAt (a :: (xs ++ rs))) ++ [32, 101, 110, 100])))) := by
  rw [sh_14 hk]
  have e0 : shAt (a :: (xs ++ rs)) 0 = a.sh := rfl
  rw [e0]
  have := armsTo_AR d.labels d.names (xs.map Ex.sh) (shAt (a :: (xs ++ rs))) (by rw [h.ll, h.nl, hn]) (by rw [h.ll, List.length_map, hx]) (fun i hi => by
    have hix : i < xs.length := by rw [hx, ← h.ll]; exact hi
    simp only [shAt, List.getD, List.map_cons, List.map_append, List.getElem?_cons_succ]
    rw [List.getElem?_append_left (by rw [List.length_map]; exact hix)])
  rw [h.ll] at this
  rw [this]
  simp only [List.append_assoc, List.cons_append, List.nil_append]
theorem ww_14 {d d' : ExD} {l m : List Ex} (h : (Ex.mk d l).Ok) (hy : (Ex.mk d' m).Ok) (hk : d.kind = 14) (hk' : d'.kind = 14) (IW : ∀ z ∈ l, WW z) {u v : Str} (hu : FolW u) (hv : FolW v) (e : (Ex.mk d l).sh ++ u = (Ex.mk d' m).sh ++ v) : (Ex.mk d l).eqv (.mk d' m) ∧ u = v := by
  obtain ⟨a, xs, rs, rfl, hx, hn, hr, hL, hN⟩ := match_parts h hk
  obtain ⟨a', xs', rs', rfl, hx', hn', hr', hL', hN'⟩ := match_parts hy hk'
  rw [sh_14R h hk hx hn, sh_14R hy hk' hx' hn'] at e
  simp only [List.append_assoc, List.cons_append, List.nil_append, List.cons.injEq, true_and] at e
  have fz : ∀ (e : ExD) (b : Ex) (ys qs : List Ex) (w : Str), FolW w → ys.length = e.ln → e.pn = (b :: (ys ++ qs)).length → ((e.t = [] ∧ qs = []) ∨ (tokB e.t 1 = true ∧ ∃ r, qs = [r])) →
      FolW (e.restF (shAt (b :: (ys ++ qs))) ++ ([32, 101, 110, 100] ++ w)) ∧ zkey (e.restF (shAt (b :: (ys ++ qs))) ++ ([32, 101, 110, 100] ++ w)) ≠ 1 ∧
      ((e.t = [] ∧ qs = [] ∧ e.restF (shAt (b :: (ys ++ qs))) ++ ([32, 101, 110, 100] ++ w) = 32 :: 101 :: 110 :: 100 :: w) ∨ (tokB e.t 1 = true ∧ ∃ r, qs = [r] ∧ e.restF (shAt (b :: (ys ++ qs))) ++ ([32, 101, 110, 100] ++ w) = 32 :: 124 :: 32 :: (e.t ++ (32 :: 45 :: 62 :: 32 :: (r.sh ++ (32 :: 101 :: 110 :: 100 :: w)))))) := by
    intro e b ys qs w hw hys hpn hq
    rcases hq with ⟨ht, rfl⟩ | ⟨ht, r, rfl⟩
    · have e1 : e.restF (shAt (b :: (ys ++ []))) ++ ([32, 101, 110, 100] ++ w) = 32 :: 101 :: 110 :: 100 :: w := by unfold ExD.restF; rw [if_pos ht]; rfl
      rw [e1]
      exact ⟨folW_stop st_end hw.1, by simp [zkey], .inl ⟨ht, rfl, rfl⟩⟩
    · have hne : e.t ≠ [] := by intro q; rw [q] at ht; cases ht
      have e2 : shAt (b :: (ys ++ [r])) (e.pn - 1) = r.sh := by
        rw [hpn]
        simp [shAt, List.getD]
      have e1 : e.restF (shAt (b :: (ys ++ [r]))) ++ ([32, 101, 110, 100] ++ w) = 32 :: 124 :: 32 :: (e.t ++ (32 :: 45 :: 62 :: 32 :: (r.sh ++ (32 :: 101 :: 110 :: 100 :: w)))) := by
        unfold ExD.restF; rw [if_neg hne, e2]; simp [List.append_assoc]
      rw [e1]
      exact ⟨folW_bar _, by rw [zkey_rest ht]; decide, .inr ⟨ht, r, rfl, rfl⟩⟩
  obtain ⟨f1, z1, g1⟩ := fz d a xs rs u hu hx h.pl.symm hr
  obtain ⟨f2, z2, g2⟩ := fz d' a' xs' rs' v hv hx' hy.pl.symm hr'
  simp only [List.cons_append, List.nil_append] at f1 z1 g1 f2 z2 g2
  have F : ∀ (ts ns ss : List Str) (Z : Str), FolW Z → FolP Z → FolW (32 :: 119 :: 105 :: 116 :: 104 :: (AR ts ns ss ++ Z)) := fun ts ns ss Z hZ hp => folW_stop st_with (folW_ar ts ns ss Z hZ).1
  obtain ⟨e1, e2⟩ := IW a (by simp) a' (hy.sub a' (by simp)) _ _ (F _ _ _ _ f1 f1.1) (F _ _ _ _ f2 f2.1) e
  simp only [List.cons.injEq, true_and] at e2
  obtain ⟨e3, e4, e5, e6⟩ := AR_inj d.labels d.names xs d'.labels d'.names xs' _ _ (by rw [h.ll, h.nl, hn]) (by rw [h.ll, hx]) (by rw [hy.ll, hy.nl, hn']) (by rw [hy.ll, hx']) hL hL' hN hN' (fun x hx => IW x (by simp [hx])) (fun y hyy => hy.sub y (by simp [hyy])) f1 f2 z1 z2 e2
  have base : ∀ (tt : d.t = d'.t) (rr : eqvL rs rs'), (Ex.mk d (a :: (xs ++ rs))).eqv (.mk d' (a' :: (xs' ++ rs'))) := fun tt rr =>
    ⟨by rw [hk, hk'], by rw [h.z (by omega), hy.z (by omega)], by rw [h.fld.s0 (by omega), hy.fld.s0 (by omega)], tt, e3, e4, by simp only [eqvL]; exact ⟨e1, eqvL_app e5 rr⟩⟩
  rcases g1 with ⟨t1, r1, q1⟩ | ⟨t1, r, r1, q1⟩ <;> rcases g2 with ⟨t2, r2, q2⟩ | ⟨t2, r', r2, q2⟩
  · rw [q1, q2] at e6
    simp only [List.cons.injEq, true_and] at e6
    exact ⟨base (by rw [t1, t2]) (by rw [r1, r2]; simp [eqvL]), e6⟩
  · rw [q1, q2] at e6; simp at e6
  · rw [q1, q2] at e6; simp at e6
  · rw [q1, q2] at e6
    simp only [List.cons.injEq, true_and] at e6
    obtain ⟨e7, e8⟩ := run_eq (tok1 t1).2.1 (tok1 t2).2.1 fol32 fol32 e6
    simp only [List.cons.injEq, true_and] at e8
    obtain ⟨e9, e10⟩ := IW r (by rw [r1]; simp) r' (hy.sub r' (by rw [r2]; simp)) _ _ (folW_stop st_end hu.1) (folW_stop st_end hv.1) e8
    simp only [List.cons.injEq, true_and] at e10
    exact ⟨base e7 (by rw [r1, r2]; exact eq1 e9), fw e10⟩
theorem one_kind {d d' : ExD} {l m : List Ex} (h : (Ex.mk d l).Ok) (hy : (Ex.mk d' m).Ok) (hk : d.kind = d'.kind) (hc : d.kind = 17 ∨ d.kind = 18 ∨ d.kind = 20 ∨ d.kind = 21) (c : Str) (s1 : ∀ (e : ExD) (a : Ex), e.kind = d.kind → (Ex.mk e [a]).sh = c ++ a.pa) (IP : ∀ z ∈ l, PP z) {u v : Str} (hu : FolW u) (hv : FolW v) (e : (Ex.mk d l).sh ++ u = (Ex.mk d' m).sh ++ v) : (Ex.mk d l).eqv (.mk d' m) ∧ u = v := by
  obtain ⟨a, rfl, _⟩ := parts_one h.fld h.pl (by omega)
  obtain ⟨a', rfl, _⟩ := parts_one hy.fld hy.pl (by omega)
  rw [s1 d a rfl, s1 d' a' hk.symm, List.append_assoc, List.append_assoc] at e
  obtain ⟨e1, e2⟩ := IP a (by simp) a' (hy.sub a' (by simp)) _ _ hu.1 hv.1 (fw e)
  exact ⟨eqv_of h hy hk (by omega) (by omega) (by rw [h.fld.s0 (by omega), hy.fld.s0 (by omega)]) (by rw [h.fld.t0 (by omega), hy.fld.t0 (by omega)]) (eq1 e1), e2⟩

theorem ww_of {d : ExD} {l : List Ex} (h : (Ex.mk d l).Ok) (IW : ∀ z ∈ l, WW z) (IP : ∀ z ∈ l, PP z) : WW (.mk d l) := by
  intro y hy u v hu hv e
  obtain ⟨d', m⟩ := y
  have hl : leadK d.kind = leadK d'.kind := by
    have h1 := lead_eq h hu.1
    have h2 := lead_eq hy hv.1
    rw [e] at h1
    exact h1.symm.trans h2
  have I := leadK_inv d'.kind
  by_cases k4 : d.kind = 4
  · have k' : d'.kind = 4 := I.1 (by rw [← hl, k4]; rfl)
    obtain ⟨a, rfl, _⟩ := parts_one h.fld h.pl (by omega)
    obtain ⟨a', rfl, _⟩ := parts_one hy.fld hy.pl (by omega)
    rw [sh_4 k4, sh_4 k'] at e
    simp only [List.append_assoc, List.cons_append, List.nil_append, List.cons.injEq, true_and] at e
    obtain ⟨e1, e2⟩ := run_eq (tok1 (h.fld.name (by omega))).2.1 (tok1 (hy.fld.name (by omega))).2.1 fol32 fol32 e
    simp only [List.cons.injEq, true_and] at e2
    obtain ⟨e3, e4⟩ := IW a (by simp) a' (hy.sub a' (by simp)) _ _ hu hv e2
    exact ⟨eqv_of h hy (by rw [k4, k']) (by omega) (by omega) e1 (by rw [h.fld.t0 (by omega), hy.fld.t0 (by omega)]) (eq1 e3), e4⟩
  by_cases k6 : d.kind = 6
  · obtain ⟨a, c, rfl, _⟩ := parts_two h.fld h.pl (by omega)
    have n1 := tok1 (h.fld.name (by omega))
    rcases I.2.1 (by rw [← hl, k6]; rfl) with k' | k'
    · obtain ⟨a', c', rfl, _⟩ := parts_two hy.fld hy.pl (by omega)
      rw [sh_6 k6, sh_6 k'] at e
      simp only [List.append_assoc, List.cons_append, List.nil_append, List.cons.injEq, true_and] at e
      obtain ⟨e1, e2⟩ := run_eq n1.2.1 (tok1 (hy.fld.name (by omega))).2.1 fol32 fol32 e
      simp only [List.cons.injEq, true_and] at e2
      obtain ⟨e3, e4⟩ := IW a (by simp) a' (hy.sub a' (by simp)) _ _ (fw_in _) (fw_in _) e2
      simp only [List.cons.injEq, true_and] at e4
      obtain ⟨e5, e6⟩ := IW c (by simp) c' (hy.sub c' (by simp)) _ _ hu hv e4
      exact ⟨eqv_of h hy (by rw [k6, k']) (by omega) (by omega) e1 (by rw [h.fld.t0 (by omega), hy.fld.t0 (by omega)]) (eq2 e3 e5), e6⟩
    · exfalso
      obtain ⟨a', c', rfl, _⟩ := parts_two hy.fld hy.pl (by omega)
      rw [sh_6 k6, sh_7 k'] at e
      simp only [List.append_assoc, List.cons_append, List.nil_append, List.cons.injEq, true_and] at e
      have e := (show d.s ++ (32 :: _) = [114, 101, 99] ++ (32 :: _) from e)
      obtain ⟨e1, _⟩ := run_eq n1.2.1 (allT_of (s := [114, 101, 99]) (by decide)) fol32 fol32 e
      exact n1.2.2 (by rw [e1]; decide)
  by_cases k7 : d.kind = 7
  · obtain ⟨a, c, rfl, _⟩ := parts_two h.fld h.pl (by omega)
    have n1 := tok1 (h.fld.name (by omega))
    rcases I.2.1 (by rw [← hl, k7]; rfl) with k' | k'
    · exfalso
      obtain ⟨a', c', rfl, _⟩ := parts_two hy.fld hy.pl (by omega)
      have n2 := tok1 (hy.fld.name (by omega))
      rw [sh_7 k7, sh_6 k'] at e
      simp only [List.append_assoc, List.cons_append, List.nil_append, List.cons.injEq, true_and] at e
      have e := (show [114, 101, 99] ++ (32 :: _) = d'.s ++ (32 :: _) from e)
      obtain ⟨e1, _⟩ := run_eq (allT_of (s := [114, 101, 99]) (by decide)) n2.2.1 fol32 fol32 e
      exact n2.2.2 (by rw [← e1]; decide)
    · obtain ⟨a', c', rfl, _⟩ := parts_two hy.fld hy.pl (by omega)
      rw [sh_7 k7, sh_7 k'] at e
      simp only [List.append_assoc, List.cons_append, List.nil_append, List.cons.injEq, true_and] at e
      obtain ⟨e1, e2⟩ := run_eq n1.2.1 (tok1 (hy.fld.name (by omega))).2.1 fol32 fol32 e
      simp only [List.cons.injEq, true_and] at e2
      obtain ⟨e7, e8⟩ := run_eq (tok1 (h.fld.t7 k7)).2.1 (tok1 (hy.fld.t7 k')).2.1 fol32 fol32 e2
      simp only [List.cons.injEq, true_and] at e8
      obtain ⟨e3, e4⟩ := IW a (by simp) a' (hy.sub a' (by simp)) _ _ (fw_in _) (fw_in _) e8
      simp only [List.cons.injEq, true_and] at e4
      obtain ⟨e5, e6⟩ := IW c (by simp) c' (hy.sub c' (by simp)) _ _ hu hv e4
      exact ⟨eqv_of h hy (by rw [k7, k']) (by omega) (by omega) e1 e7 (eq2 e3 e5), e6⟩
  by_cases k14 : d.kind = 14
  · exact ww_14 h hy k14 (I.2.2.1 (by rw [← hl, k14]; rfl)) IW hu hv e
  by_cases k15 : d.kind = 15
  · have k' : d'.kind = 15 := I.2.2.2.1 (by rw [← hl, k15]; rfl)
    obtain ⟨a, c, f, rfl, _⟩ := parts_three h.fld h.pl (by omega)
    obtain ⟨a', c', f', rfl, _⟩ := parts_three hy.fld hy.pl (by omega)
    rw [sh_15 k15, sh_15 k'] at e
    simp only [List.append_assoc, List.cons_append, List.nil_append, List.cons.injEq, true_and] at e
    obtain ⟨e1, e2⟩ := IW a (by simp) a' (hy.sub a' (by simp)) _ _ (fw_then _) (fw_then _) e
    simp only [List.cons.injEq, true_and] at e2
    obtain ⟨e3, e4⟩ := IW c (by simp) c' (hy.sub c' (by simp)) _ _ (fw_else _) (fw_else _) e2
    simp only [List.cons.injEq, true_and] at e4
    obtain ⟨e5, e6⟩ := IW f (by simp) f' (hy.sub f' (by simp)) _ _ hu hv e4
    exact ⟨eqv_of h hy (by rw [k15, k']) (by omega) (by omega) (by rw [h.fld.s0 (by omega), hy.fld.s0 (by omega)]) (by rw [h.fld.t0 (by omega), hy.fld.t0 (by omega)]) (eq3 e1 e3 e5), e6⟩
  by_cases k17 : d.kind = 17
  · exact one_kind h hy (by rw [k17]; exact (I.2.2.2.2.1 (by rw [← hl, k17]; rfl)).symm) (by omega) _ (fun e a hk => sh_17 (by rw [hk, k17])) IP hu hv e
  by_cases k20 : d.kind = 20
  · exact one_kind h hy (by rw [k20]; exact (I.2.2.2.2.2.1 (by rw [← hl, k20]; rfl)).symm) (by omega) _ (fun e a hk => sh_20 (by rw [hk, k20])) IP hu hv e
  by_cases k21 : d.kind = 21
  · exact one_kind h hy (by rw [k21]; exact (I.2.2.2.2.2.2.1 (by rw [← hl, k21]; rfl)).symm) (by omega) _ (fun e a hk => sh_21 (by rw [hk, k21])) IP hu hv e
  by_cases k18 : d.kind = 18
  · exact one_kind h hy (by rw [k18]; exact (I.2.2.2.2.2.2.2.1 (by rw [← hl, k18]; rfl)).symm) (by omega) _ (fun e a hk => sh_18 (by rw [hk, k18])) IP hu hv e
  by_cases k13 : d.kind = 13
  · have k' : d'.kind = 13 := I.2.2.2.2.2.2.2.2.1 (by rw [← hl, k13]; rfl)
    obtain ⟨a, rfl, _⟩ := parts_one h.fld h.pl (by omega)
    obtain ⟨a', rfl, _⟩ := parts_one hy.fld hy.pl (by omega)
    rw [sh_13 k13, sh_13 k'] at e
    simp only [List.append_assoc, List.cons_append, List.nil_append] at e
    obtain ⟨e1, e2⟩ := run_eq (tok3 (h.fld.tag k13)).2 (tok3 (hy.fld.tag k')).2 fol32 fol32 e
    simp only [List.cons.injEq, true_and] at e2
    obtain ⟨e3, e4⟩ := IP a (by simp) a' (hy.sub a' (by simp)) _ _ hu.1 hv.1 e2
    exact ⟨eqv_of h hy (by rw [k13, k']) (by omega) (by omega) e1 (by rw [h.fld.t0 (by omega), hy.fld.t0 (by omega)]) (eq1 e3), e4⟩
  · have e10 : leadK d.kind = 10 := by unfold leadK; rw [if_neg k4, if_neg (by omega), if_neg k14, if_neg k15, if_neg k17, if_neg k20, if_neg k21, if_neg k18, if_neg k13]
    exact ww_10 h hy e10 (by rw [← hl, e10]) (fun hb => bb_of h hb IW IP) IP hu hv e
theorem pp_of {d : ExD} {l : List Ex} (h : (Ex.mk d l).Ok) (IW : ∀ z ∈ l, WW z) (IP : ∀ z ∈ l, PP z) : PP (.mk d l) := by
  by_cases hb : bareB d.kind = true
  · exact bb_of h hb IW IP
  · intro y hy u v hu hv e
    have hp : pk d.kind = pk y.d.kind := by
      have h1 := pkey_eq h hu
      have h2 := pkey_eq hy hv
      rw [e] at h1
      exact h1.symm.trans h2
    have hb2 := hb
    unfold bareB at hb2
    rw [decide_eq_true_eq] at hb2
    have h6 : pk d.kind = 6 := by
      unfold pk
      rw [if_neg (by omega), if_neg (by omega), if_neg (by omega), if_neg (by omega), if_neg (by unfold braceB; rw [decide_eq_true_eq]; omega)]
    have hb' : ¬ bareB y.d.kind = true := by
      intro hc
      unfold bareB at hc
      have hc := of_decide_eq_true hc
      rw [h6] at hp
      unfold pk at hp
      rcases hc with k | k | k | k | k | k | k <;> (rw [k] at hp; revert hp; decide)
    rw [pa_brk (x := .mk d l) hb, pa_brk hb'] at e
    simp only [List.cons_append, List.append_assoc, List.nil_append, List.cons.injEq, true_and] at e
    obtain ⟨e1, e2⟩ := ww_of h IW IP y hy _ _ (folW_close u) (folW_close v) e
    simp only [List.cons.injEq, true_and] at e2
    exact ⟨e1, e2⟩
theorem ww_pp : ∀ (x : Ex), x.Ok → WW x ∧ PP x
  | .mk d l, h => by
    have ih : ∀ z ∈ l, WW z ∧ PP z := fun z hz => ww_pp z (h.sub z hz)
    exact ⟨ww_of h (fun z hz => (ih z hz).1) (fun z hz => (ih z hz).2), pp_of h (fun z hz => (ih z hz).1) (fun z hz => (ih z hz).2)⟩
theorem sh_inj {x y : Ex} (hx : x.Ok) (hy : y.Ok) (e : x.sh = y.sh) : x.eqv y :=
  ((ww_pp x hx).1 y hy [] [] folW_nil folW_nil (by rw [List.append_nil, List.append_nil]; exact e)).1

/-! ### Alike ones have one text -/
theorem shF_congr {d e : ExD} {T P : Nat → Str} (h1 : d.kind = e.kind) (h2 : d.n = e.n) (h3 : d.s = e.s) (h4 : d.t = e.t) (h5 : d.labels = e.labels) (h6 : d.names = e.names) (h7 : d.ln = e.ln) (h8 : d.pn = e.pn) : d.shF T P = e.shF T P := by
  unfold ExD.shF ExD.bracesF ExD.blockF ExD.matchF ExD.restF ExD.aheadF ExD.behindF
  rw [h1, h2, h3, h4, h5, h6, h7, h8]
mutual
theorem sh_congr : ∀ (x y : Ex), x.Ok → y.Ok → x.eqv y → x.sh = y.sh ∧ x.pa = y.pa
  | .mk d l, .mk e m, hx, hy, h => by
    obtain ⟨h1, h2, h3, h4, h5, h6, h7⟩ := h
    obtain ⟨a1, a2, a3⟩ := shL_congr l m hx.sub hy.sub h7
    have e1 : (Ex.mk d l).sh = (Ex.mk e m).sh := by
      rw [sh_mk, sh_mk]
      have b1 : shAt l = shAt m := by funext i; unfold shAt; rw [a1]
      have b2 : paAt l = paAt m := by funext i; unfold paAt; rw [a2]
      rw [b1, b2]
      exact shF_congr h1 h2 h3 h4 h5 h6 (by rw [← hx.ll, ← hy.ll, h5]) (by rw [← hx.pl, ← hy.pl, a3])
    exact ⟨e1, by unfold Ex.pa Ex.d; rw [e1]; show brk d.kind _ = brk e.kind _; rw [h1]⟩
theorem shL_congr : ∀ (l m : List Ex), (∀ x ∈ l, x.Ok) → (∀ x ∈ m, x.Ok) → eqvL l m → l.map Ex.sh = m.map Ex.sh ∧ l.map Ex.pa = m.map Ex.pa ∧ l.length = m.length
  | [], [], _, _, _ => ⟨rfl, rfl, rfl⟩
  | x :: l, y :: m, hx, hy, h => by
    simp only [eqvL] at h
    obtain ⟨a1, a2⟩ := sh_congr x y (hx x (by simp)) (hy y (by simp)) h.1
    obtain ⟨b1, b2, b3⟩ := shL_congr l m (fun z hz => hx z (by simp [hz])) (fun z hz => hy z (by simp [hz])) h.2
    exact ⟨by rw [List.map_cons, List.map_cons, a1, b1], by rw [List.map_cons, List.map_cons, a2, b2], by rw [List.length_cons, List.length_cons, b3]⟩
  | [], y :: m, _, _, h => by simp [eqvL] at h
  | x :: l, [], _, _, h => by simp [eqvL] at h
end
end Go.Proofs.YtaglmmcjhlehjaaGreatDoor
