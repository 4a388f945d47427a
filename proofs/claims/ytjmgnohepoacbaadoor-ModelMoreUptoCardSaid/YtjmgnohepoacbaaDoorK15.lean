/-
  A value is written: references.
  A value is written: integers.
  A value is written; a value's text.
  The document's small answers: how many nodes, whether texts are alike, lines, beginnings, outcomes.
  model.Run: an expression is run, its outcome handed out.
-/
import Derived.Test.YtjmgnohepoacbaaDoorK14
import Derived.Laws.IdiomStrings
namespace Go.Proofs.YtjmgnohepoacbaaDoor
open Go Go.ChangeShapes Go.WideShapes Go.ChangeAt Go.RowKit Go.Sort
set_option linter.unusedVariables false
set_option linter.unusedSimpArgs false

section
variable {w0 wS w : World} {P : Nat → Prop} {R M b mb f B0 : Nat} {refs : List Val} {bs : Str} {v : Val} {A : Option Addr} {c : Nat} {p : Option Addr} {LA : Option Addr} {lc : Nat} {D g : Nat}
theorem ref_room (bs : Str) (h : bs.length ≤ 2000) (hq : ¬ bs.length = 2000) : bs.length + 1 ≤ (sayL bs [[114, 101, 102, 32]]).length := by
  show bs.length + 1 ≤ (say1 bs [114, 101, 102, 32]).length
  rw [say1, List.length_append, List.length_take]
  simp
  omega
set_option maxHeartbeats 4000000 in
set_option maxRecDepth 100000 in
theorem writeRef_any (hH : HasR w0 wS P B0 mb refs) (hRl : refs.length = R) (hR9 : R ≤ 100000000000) (hRv : ∀ y ∈ refs, VG R M D y) (hI : WrC w0 wS P R M b mb refs f) (hr : 2000 - bs.length < f + 1) (hq : ¬ bs.length = 2000) (hs : v.sort = 6) (h : WD wS.heap.size b bs w) (hB : Below wS.heap.size wS w) (hg : VG R M D v) :
    Calls Tryd.prog 32 #[.agg #[.pointer (some ⟨mb, 0, none⟩)], .pointer (some ⟨b, 0, none⟩), .agg #[.int .i64 v.sort, .int .i64 v.n, .string (bstr v.s), .slice LA v.labels.length lc, .slice A v.l.length c, .pointer p]] w fun e w' => e = .returned (.tuple #[]) ∧ WD wS.heap.size b (partS (decide ((refs[v.n.toNat]?.getD zV).sort = 5) || decide ((refs[v.n.toNat]?.getD zV).sort = 6)) (fun c => wrV refs f c (refs[v.n.toNat]?.getD zV)) (sayL bs [[114, 101, 102, 32]])) w' ∧ Below wS.heap.size w w' ∧ Keeps w w' := by
  obtain ⟨k, hk, hkR⟩ := hg.ref_ hs
  have hkr : k < refs.length := by rw [hRl]; exact hkR
  obtain ⟨y, hy⟩ : ∃ y, refs[k] = y := ⟨_, rfl⟩
  have hyv : VG R M D y := by rw [← hy]; exact hRv _ (List.getElem_mem hkr)
  have hget : refs[v.n.toNat]? = some y := by rw [hk, show ((k : Int)).toNat = k by omega, List.getElem?_eq_getElem hkr, hy]
  rw [hget, Option.getD_some]
  obtain ⟨q1, q2, q3, hb⟩ := three_newS w (boxM mb) (boxW b) (boxV v A c p LA lc)
  have hle := h.le
  have HB := Lib.hid hb
  have HBS := Lib.hid hB
  have hbS : Below wS.heap.size w (((w.alloc (boxM mb)).alloc (boxW b)).alloc (boxV v A c p LA lc)) := hb.mono hB.size
  have c0 : (((w.alloc (boxM mb)).alloc (boxW b)).alloc (boxV v A c p LA lc)).cell? ⟨w.heap.size, 0, none⟩ = some (.pointer (some ⟨mb, 0, none⟩)) := by rw [Lib.cell_of_heap q1]; rfl
  have c1 : (((w.alloc (boxM mb)).alloc (boxW b)).alloc (boxV v A c p LA lc)).cell? ⟨w.heap.size + 1, 0, none⟩ = some (.pointer (some ⟨b, 0, none⟩)) := by rw [Lib.cell_of_heap q2]; rfl
  obtain ⟨x0, x1, x2, x3, x4, x5⟩ := cells6 q3
  have HF := Lib.hid (Full_any (h.below hb))
  rw [decide_eq_false hq] at HF
  have hroom := ref_room bs hle hq
  obtain ⟨W1, hW1⟩ : ∃ W1, ((w.alloc (boxM mb)).alloc (boxW b)).alloc (boxV v A c p LA lc) = W1 := ⟨_, rfl⟩
  have HW1 := Lib.hid hW1
  rw [hW1] at HB q1 q2 q3 hb hbS c0 c1 x0 x1 x2 x3 x4 x5 HF
  have HAS := Lib.hid (hasR_any hH (hB.trans hbS) (by omega) v A c p LA lc k hkr hk)
  rw [hy] at HAS
  have HD1 := Lib.hid (h.below hb)
  have HT1 := Lib.hid (hB.trans hbS)
  have HQ1 := Lib.hid (And.intro q1 (And.intro q2 q3))
  -- what is said, in a world behind
  have HSAY := Lib.hid (fun (w3 : World) (hb3 : Below W1.heap.size W1 w3) => Say_new (HD1.out.below hb3) (Nat.le_trans HT1.out.size hb3.size) [[114, 101, 102, 32]] 1 rfl #[.string ⟨#[114, 101, 102, 32]⟩] rfl (by simp) (by intro x hx; simp at hx; subst hx; simp))
  have HPT := Lib.hid (fun (A' : Option Addr) (c' : Nat) (p' : Option Addr) (LA' : Option Addr) (lc' : Nat) (hv' : VR w0 wS P y [.int .i64 y.sort, .int .i64 y.n, .string (bstr y.s), .slice LA' y.labels.length lc', .slice A' y.l.length c', .pointer p']) (w1 : World) (br : Bool) (g3 : Nat) (hd1 : WD wS.heap.size b (sayL bs [[114, 101, 102, 32]]) w1) (hb1 : Below wS.heap.size wS w1)
      (k1 : w1.heap[w.heap.size]? = some (boxM mb)) (k2 : w1.heap[w.heap.size + 1]? = some (boxW b)) (k3 : w1.heap[g3]? = some (boxV y A' c' p' LA' lc')) => Part3_any hd1 hb1.size br (.pointer (some ⟨w.heap.size, 0, none⟩)) (.pointer (some ⟨w.heap.size + 1, 0, none⟩)) (.pointer (some ⟨g3, 0, none⟩)) (fun c => wrV refs f c y)
    (fun bs1 w2 he hd2 hb2 hk2 => clo3_any hI (by rcases he with rfl | rfl; omega; have := say1_ge (sayL bs [[114, 101, 102, 32]]) [40]; omega) hd2 (hb1.trans hb2) hv' hyv (hk2 _ _ _ _ k1 (by decide) (by decide)) (hk2 _ _ _ _ k2 (by decide) (by decide)) (hk2 _ _ _ _ k3 (by decide) (by decide))))
  rw [hs] at x0
  have HH := Lib.hid hs
  have hb5 : ((y.sort : Int) == 5) = decide (y.sort = 5) := by by_cases q : y.sort = 5 <;> simp [q]
  have hb6 : ((y.sort : Int) == 6) = decide (y.sort = 6) := by by_cases q : y.sort = 6 <;> simp [q]
  have HBB := Lib.hid (And.intro hb5 hb6)
  clear h hH hI hB hg q1 q2 q3 hb hbS hq hs hle hr hroom hget hyv hy hkr hkR hRl hR9 hRv hW1 hb5 hb6 hk
  go_enter Tryd.func32, Tryd.ntmps32
  go_upto_region 15 with (rw [HW1.out]; go_at_call 46; (with_reducible refine HF.out.mono ?_); rintro e1 w1 ⟨rfl, rfl⟩)
  rw [← HH.out] at x0
  go_upto_region 16 with (go_at_call 54; (with_reducible refine HAS.out.mono ?_); rintro e1 w2 ⟨A', c', p', LA', lc', rfl, hv', hb2⟩; have HV2 := Lib.hid (And.intro hv' hb2); clear hv' hb2)
  have hb3 : Below w2.heap.size w2 (w2.alloc (boxV y A' c' p' LA' lc')) := (Below.refl _ _).alloc (Nat.le_refl _) _
  have hx3 := heap_new (w := w2) (o := boxV y A' c' p' LA' lc') rfl
  have hb13 := below_then HV2.out.2 hb3
  have c1' := cell_below hb13 c1
  generalize w2.alloc (boxV y A' c' p' LA' lc') = w3 at *
  have HB3 := Lib.hid hb13
  have HX3 := Lib.hid hx3
  have HSY := Lib.hid (HSAY.out w3 hb13)
  clear hb3 hx3 hb13 c0 c1 x0 x1 x2 x3 x4 x5
  go_upto_region 17 with (go_at_call 47; (with_reducible refine HSY.out.mono ?_); rintro e1 w4 ⟨rfl, hd, hb, hk⟩; have HP := Lib.hid (And.intro hd (And.intro hb hk)); clear hd hb hk)
  have k1 : w4.heap[w.heap.size]? = some (boxM mb) := HP.out.2.2 _ _ _ _ ((HB3.out.block _ (lt_of_heap HQ1.out.1)).trans HQ1.out.1) (by decide) (by decide)
  have k2 : w4.heap[w.heap.size + 1]? = some (boxW b) := HP.out.2.2 _ _ _ _ ((HB3.out.block _ (lt_of_heap HQ1.out.2.1)).trans HQ1.out.2.1) (by decide) (by decide)
  have k3 : w4.heap[w2.heap.size]? = some (boxV y A' c' p' LA' lc') := HP.out.2.2 _ _ _ _ HX3.out (by decide) (by decide)
  have d1 : w4.cell? ⟨w.heap.size + 1, 0, none⟩ = some (.pointer (some ⟨b, 0, none⟩)) := by rw [Lib.cell_of_heap k2]; rfl
  obtain ⟨y0, y1, y2, y3, y4, y5⟩ := cells6 k3
  have hw4 : Below wS.heap.size wS w4 := (HT1.out.trans (HB3.out.mono HT1.out.size)).trans HP.out.2.1
  have HPP := Lib.hid (HPT.out A' c' p' LA' lc' HV2.out.1 w4 (decide (y.sort = 5) || decide (y.sort = 6)) w2.heap.size HP.out.1 hw4 k1 k2 k3)
  rw [← HBB.out.1, ← HBB.out.2] at HPP
  have HPE := Lib.hid (show (((y.sort : Int) == 5) || ((y.sort : Int) == 6)) = (decide (y.sort = 5) || decide (y.sort = 6)) by rw [HBB.out.1, HBB.out.2])
  clear k1 k2 k3 hw4 c1'
  rcases Bool.eq_false_or_eq_true ((y.sort : Int) == 5) with q5 | q5
  · rw [q5, Bool.true_or] at HPP HPE
    go_wp2_with (go_at_call 52; (with_reducible refine HPP.out.mono ?_); rintro e1 w5 ⟨rfl, hp⟩; have HP9 := Lib.hid hp; clear hp)
    go_returns
    have h9 := HP9.out
    rw [HPE.out] at h9
    exact ⟨rfl, h9.1, (HB.out.mono HBS.out.size).trans ((HB3.out.mono HT1.out.size).trans (HP.out.2.1.trans h9.2.1)), (Keeps.of_below HB.out).trans ((Keeps.of_below HB3.out).trans (HP.out.2.2.trans h9.2.2))⟩
  · rw [q5, Bool.false_or] at HPP HPE
    go_wp2_with (go_at_call 52; (with_reducible refine HPP.out.mono ?_); rintro e1 w5 ⟨rfl, hp⟩; have HP9 := Lib.hid hp; clear hp)
    go_returns
    have h9 := HP9.out
    rw [HPE.out] at h9
    exact ⟨rfl, h9.1, (HB.out.mono HBS.out.size).trans ((HB3.out.mono HT1.out.size).trans (HP.out.2.1.trans h9.2.1)), (Keeps.of_below HB.out).trans ((Keeps.of_below HB3.out).trans (HP.out.2.2.trans h9.2.2))⟩
end
end Go.Proofs.YtjmgnohepoacbaaDoor

namespace Go.Proofs.YtjmgnohepoacbaaDoor
open Go Go.ChangeShapes Go.WideShapes Go.ChangeAt Go.RowKit Go.Sort
set_option linter.unusedVariables false
set_option linter.unusedSimpArgs false

section
variable {S b mb : Nat} {bs : Str} {w : World} {v : Val} {A : Option Addr} {c : Nat} {p : Option Addr} {LA : Option Addr} {lc : Nat}
set_option maxHeartbeats 4000000 in
set_option maxRecDepth 100000 in
theorem writeInt_any (h : WD S b bs w) (hS : S ≤ w.heap.size) (hT : Tab w) (hq : ¬ bs.length = 2000) (hs : v.sort = 1) (hn : -9223372036854775808 ≤ v.n ∧ v.n ≤ 9223372036854775807) :
    Calls Tryd.prog 32 #[.agg #[.pointer (some ⟨mb, 0, none⟩)], .pointer (some ⟨b, 0, none⟩), .agg #[.int .i64 v.sort, .int .i64 v.n, .string (bstr v.s), .slice LA v.labels.length lc, .slice A v.l.length c, .pointer p]] w fun e w' => e = .returned (.tuple #[]) ∧ WD S b (sayL bs [Lib.itoa v.n]) w' ∧ Below S w w' ∧ Keeps w w' := by
  obtain ⟨q1, q2, q3, hb⟩ := three_newS w (boxM mb) (boxW b) (boxV v A c p LA lc)
  have HB := Lib.hid hb
  have HW := Lib.hid hS
  have c1 : (((w.alloc (boxM mb)).alloc (boxW b)).alloc (boxV v A c p LA lc)).cell? ⟨w.heap.size + 1, 0, none⟩ = some (.pointer (some ⟨b, 0, none⟩)) := by rw [Lib.cell_of_heap q2]; rfl
  obtain ⟨x0, x1, x2, x3, x4, x5⟩ := cells6 q3
  rw [hs] at x0
  have HF := Lib.hid (Full_any (h.below hb))
  rw [decide_eq_false hq] at HF
  obtain ⟨W1, hW1⟩ : ∃ W1, ((w.alloc (boxM mb)).alloc (boxW b)).alloc (boxV v A c p LA lc) = W1 := ⟨_, rfl⟩
  have HW1 := Lib.hid hW1
  rw [hW1] at q1 q2 q3 hb HB c1 x0 x1 x2 x3 x4 x5 HF
  obtain ⟨I, hI⟩ : ∃ I, Lib.itoa v.n = I := ⟨_, rfl⟩
  have hIl : I.length ≤ 4000000 := by rw [← hI]; have := itoa_len v.n hn; omega
  have HC := Lib.hid (fun (wr : World) (hb' : Below W1.heap.size W1 wr) => (show Calls Tryd.prog 48 #[.int .i64 v.n, .int .i64 10] wr fun e w' => e = .returned (.string (bstr I)) ∧ Below wr.heap.size wr w' from by rw [← hI]; exact (Tryd.strconv_FormatInt_10 v.n hn.1 hn.2 wr (tab_below hT (below_then hb hb'))).mono fun e w' ⟨he, k, os, hw⟩ => ⟨he, by rw [hw]; exact below_growN k os⟩))
  have HSAY := Lib.hid (fun (w3 : World) (hb3 : Below W1.heap.size W1 w3) => Say_new ((h.below hb).below hb3) (Nat.le_trans (Nat.le_trans hS hb.size) hb3.size) [I] 1 rfl #[.string (bstr I)] rfl (by simp) (by intro x hx; simp at hx; subst hx; exact hIl))
  rw [hI]
  have C1 := Lib.hid c1
  clear h hS hb q1 q2 q3 hs hn hT hW1 hI hIl hq
  go_enter Tryd.func32, Tryd.ntmps32
  go_upto_region 4 with (rw [HW1.out]; go_at_call 46; (with_reducible refine HF.out.mono ?_); rintro e1 w1 ⟨rfl, rfl⟩)
  go_region_law (first
    | (go_simp; go_at_call 48; (with_reducible refine (HC.out _ (below_drew1 _)).mono ?_); rintro e1 w2 ⟨rfl, hb2⟩; have hb3 := below_then (below_drew1 _) hb2; have c1' := cell_below hb3 C1.out; have c1'' : (w2.alloc (.cells #[.string (bstr I)] 9)).cell? ⟨w.heap.size + 1, 0, none⟩ = some (.pointer (some ⟨b, 0, none⟩)) := cell_below ((Below.refl w2.heap.size w2).alloc (Nat.le_refl _) _) c1'; have HB2 := Lib.hid hb3; clear hb2 hb3)
    | (go_simp; go_at_call 47; (with_reducible refine (HSAY.out _ HB2.out).mono ?_); rintro e1 w3 ⟨rfl, hp⟩; have HP := Lib.hid hp; clear hp))
  all_goals
    go_wp2_with fail
    go_returns
    exact ⟨rfl, HP.out.1, (HB.out.mono HW.out).trans ((HB2.out.mono (Nat.le_trans HW.out HB.out.size)).trans HP.out.2.1), (Keeps.of_below HB.out).trans ((Keeps.of_below HB2.out).trans HP.out.2.2)⟩
end
end Go.Proofs.YtjmgnohepoacbaaDoor

namespace Go.Proofs.YtjmgnohepoacbaaDoor
open Go Go.ChangeShapes Go.WideShapes Go.ChangeAt Go.RowKit Go.Sort
set_option linter.unusedVariables false
set_option linter.unusedSimpArgs false

theorem u8s_length (l : List UInt8) : (u8s l).length = l.length := by simp [u8s]
theorem u8s_at (l : List UInt8) (k : Nat) (h : k < l.length) : (u8s l)[k]? = some (.int .u8 l[k].toNat) := by simp [u8s, h]
theorem conv_bytes {w : World} {A : Option Addr} {l : List UInt8} {n c : Nat} (hn : l.length = n) (h : Rd w 1 A n (u8s l)) : (convert 66 9 (.slice A n c)).run Tryd.prog w = .ok (.string (bstr l)) w := by
  subst hn
  cases A with
  | none =>
    have hl : l = [] := by
      cases l with
      | nil => rfl
      | cons a t => obtain ⟨a, e, _⟩ := h.2 (by simp [u8s]); cases e
    subst hl
    rw [show ([] : List UInt8).length = 0 from rfl, run_convert_bytes_string w _ _ 5 none 0 c Tryd.underlying66 Tryd.underlying5 Tryd.underlying9]
    simp [Conv.bytesToString]
    rfl
  | some a =>
    refine run_convert_bytes_back w _ _ 5 a c l Tryd.underlying66 Tryd.underlying5 Tryd.underlying9 (fun j hj => ?_)
    obtain ⟨a', e, hh⟩ := h.2 (by rw [u8s_length]; omega)
    injection e with e
    subst e
    exact hh j _ (u8s_at l j hj)
section
variable {w0 wS w : World} {P : Nat → Prop} {R M b mb f B0 : Nat} {refs : List Val} {bs : Str} {v : Val} {A : Option Addr} {c : Nat} {p : Option Addr} {LA : Option Addr} {lc : Nat} {D g : Nat}
theorem writes_any (hH : HasR w0 wS P B0 mb refs) (hRl : refs.length = R) (hR9 : R ≤ 100000000000) (hM : M ≤ 100000000000) (hRv : ∀ y ∈ refs, ∃ D, VG R M D y) (hT : Tab wS) : ∀ f, WrC w0 wS P R M b mb refs f
  | 0 => fun bs w v A c p LA lc D hr => absurd hr (Nat.not_lt_zero _)
  | f + 1 => by
    intro bs w v A c p LA lc D hr h hB hv hg
    have hI := writes_any hH hRl hR9 hM hRv hT f
    obtain ⟨D', hD'⟩ : ∃ D', ∀ y ∈ refs, VG R M D' y := by
      clear hH hI hv hg hr hRl
      induction refs with
      | nil => exact ⟨0, fun y hy => by cases hy⟩
      | cons x l ih =>
        obtain ⟨D1, h1⟩ := ih (fun y hy => hRv y (List.mem_cons_of_mem _ hy))
        obtain ⟨D2, h2⟩ := hRv x (List.mem_cons_self ..)
        refine ⟨max D1 D2, fun y hy => ?_⟩
        rcases List.mem_cons.1 hy with rfl | hy
        · exact h2.mono (Nat.le_refl _) (Nat.le_refl _) _ (Nat.le_max_right _ _)
        · exact (h1 y hy).mono (Nat.le_refl _) (Nat.le_refl _) _ (Nat.le_max_left _ _)
    by_cases hq : bs.length = 2000
    · have e : wrV refs (f + 1) bs v = bs := by rw [wrV, if_pos hq]
      rw [e]
      exact writeFull_any h hB.size hq
    have hs := hg.sort_
    by_cases h1 : v.sort = 1
    · have e : wrV refs (f + 1) bs v = sayL bs [Lib.itoa v.n] := by rw [wrV, if_neg hq, if_pos h1]
      rw [e]
      exact writeInt_any h hB.size (tab_below hT hB) hq h1 hg.num_
    by_cases h2 : v.sort = 2
    · have e : wrV refs (f + 1) bs v = quoteS bs v.s := by rw [wrV, if_neg hq, if_neg h1, if_pos h2]
      rw [e]
      exact writeText_any h hB.size hq h2 hg.txt_
    by_cases h3 : v.sort = 3
    · have e : wrV refs (f + 1) bs v = sayL bs [[102, 110]] := by rw [wrV, if_neg hq, if_neg h1, if_neg h2, if_pos h3]
      rw [e]
      exact writeFn_any h hB.size hq h3
    by_cases h4 : v.sort = 4
    · have e : wrV refs (f + 1) bs v = fieldsS (fun i c => wrV refs f c (v.l[i]?.getD zV)) bs v.labels := by rw [wrV, if_neg hq, if_neg h1, if_neg h2, if_neg h3, if_pos h4]
      rw [e]
      exact writeTuple_any hM hI hr hq h4 h hB hv hg
    by_cases h5 : v.sort = 5
    · have e : wrV refs (f + 1) bs v = partS (decide ((v.l[0]?.getD zV).sort = 5)) (fun c => wrV refs f c (v.l[0]?.getD zV)) (sayL bs [v.s, [32]]) := by rw [wrV, if_neg hq, if_neg h1, if_neg h2, if_neg h3, if_neg h4, if_pos h5]
      rw [e]
      exact writeTag_any hI hr hq h5 h hB hv hg
    have h6 : v.sort = 6 := by omega
    have e : wrV refs (f + 1) bs v = partS (decide ((refs[v.n.toNat]?.getD zV).sort = 5) || decide ((refs[v.n.toNat]?.getD zV).sort = 6)) (fun c => wrV refs f c (refs[v.n.toNat]?.getD zV)) (sayL bs [[114, 101, 102, 32]]) := by rw [wrV, if_neg hq, if_neg h1, if_neg h2, if_neg h3, if_neg h4, if_neg h5, if_pos h6]
    rw [e]
    exact writeRef_any (D := max D D') hH hRl hR9 (fun y hy => (hD' y hy).mono (Nat.le_refl _) (Nat.le_refl _) _ (Nat.le_max_right _ _)) hI hr hq h6 h hB (hg.mono (Nat.le_refl _) (Nat.le_refl _) _ (Nat.le_max_left _ _))
set_option maxHeartbeats 4000000 in
set_option maxRecDepth 100000 in
theorem String_any {S : Nat} (h : WD S b bs w) :
    Calls Tryd.prog 33 #[.pointer (some ⟨b, 0, none⟩)] w fun e w' => e = .returned (.string (bstr bs)) ∧ w' = w := by
  obtain ⟨v, h1, h2⟩ := h.at_
  obtain ⟨A, c, rfl, _⟩ := own_cap h2
  have c0 : w.cell? ⟨b, 0, none⟩ = some (.slice A bs.length c) := by rw [Lib.cell_of_heap h1]; rfl
  have cv := conv_bytes (c := c) rfl (Rd.of_own h2)
  clear h h1 h2
  go_enter Tryd.func33, Tryd.ntmps33
  go_wp2_with fail
  go_returns
  exact ⟨rfl, rfl⟩
set_option maxHeartbeats 4000000 in
set_option maxRecDepth 100000 in
theorem text_any (hH : HasR w0 w P B0 mb refs) (hRl : refs.length = R) (hR9 : R ≤ 100000000000) (hM : M ≤ 100000000000) (hRv : ∀ y ∈ refs, ∃ D, VG R M D y) (hT : Tab w) (hv : VR w0 w P v [.int .i64 v.sort, .int .i64 v.n, .string (bstr v.s), .slice LA v.labels.length lc, .slice A v.l.length c, .pointer p]) (hg : VG R M D v) :
    Calls Tryd.prog 16 #[.agg #[.pointer (some ⟨mb, 0, none⟩)], .agg #[.int .i64 v.sort, .int .i64 v.n, .string (bstr v.s), .slice LA v.labels.length lc, .slice A v.l.length c, .pointer p]] w fun e w' => e = .returned (.string (bstr (wrV refs 2001 [] v))) ∧ Below w.heap.size w w' := by
  obtain ⟨q1, q2, hb⟩ := two_boxes w (boxM mb) (boxV v A c p LA lc)
  obtain ⟨Wb, hWb⟩ : ∃ Wb, (w.alloc (boxM mb)).alloc (boxV v A c p LA lc) = Wb := ⟨_, rfl⟩
  have HWb := Lib.hid hWb
  rw [hWb] at q1 q2 hb
  have hbw : Below Wb.heap.size Wb (Wb.alloc (.cells #[.slice none 0 0] WT)) := (Below.refl _ _).alloc (Nat.le_refl _) _
  have hwd : WD Wb.heap.size Wb.heap.size [] (Wb.alloc (.cells #[.slice none 0 0] WT)) := ⟨Nat.le_refl _, Nat.zero_le _, .slice none 0 0, heap_new rfl, World.ownsRow_nil _ _ _ _⟩
  have hwr := writes_any (b := Wb.heap.size) (hH.below hb) hRl hR9 hM hRv (tab_below hT hb) 2001 [] (Wb.alloc (.cells #[.slice none 0 0] WT)) v A c p LA lc D (by simp) hwd hbw (hv.keep (fun b hb' hl => ⟨hb', hb.block b hl⟩)) hg
  have HWR := Lib.hid hwr
  have HB := Lib.hid (And.intro hb hbw)
  have c0 : (Wb.alloc (.cells #[.slice none 0 0] WT)).cell? ⟨w.heap.size, 0, none⟩ = some (.pointer (some ⟨mb, 0, none⟩)) := cell_below hbw (by rw [Lib.cell_of_heap q1]; rfl)
  obtain ⟨x0, x1, x2, x3, x4, x5⟩ := cells6 ((hbw.block _ (lt_of_heap q2)).trans q2)
  clear hH hRl hR9 hM hRv hT hv hg q1 q2 hb hbw hwd hwr hWb
  go_enter Tryd.func16, Tryd.ntmps16
  go_upto_region 1 with fail
  rw [HWb.out]
  go_upto_region 2 with fail
  obtain ⟨Wc, hWc⟩ : ∃ Wc, Wb.alloc (.cells #[.slice none 0 0] WT) = Wc := ⟨_, rfl⟩
  rw [hWc] at HWR HB c0 x0 x1 x2 x3 x4 x5 ⊢
  go_wp2_with (first
    | (go_at_call 32; (with_reducible refine HWR.out.mono ?_); rintro e1 w3 ⟨rfl, hd, hb3, _⟩; have HST := Lib.hid (String_any hd); have HB3 := Lib.hid hb3; clear hd hb3)
    | (go_at_call 33; (with_reducible refine HST.out.mono ?_); rintro e1 w4 ⟨rfl, rfl⟩))
  go_returns
  exact ⟨rfl, HB.out.1.trans ((HB.out.2.trans HB3.out).mono HB.out.1.size)⟩
end
end Go.Proofs.YtjmgnohepoacbaaDoor

namespace Go.Proofs.YtjmgnohepoacbaaDoor
open Go Go.ChangeShapes Go.WideShapes Go.ChangeAt Go.RowKit Go.Sort
set_option linter.unusedVariables false
set_option linter.unusedSimpArgs false

theorem cells4 {w : World} {g : Nat} {x0 x1 x2 x3 : Value} {T : TypeId} {fr : Nat × Nat} (h : w.heap[g]? = some (.cells #[x0, x1, x2, x3] T fr)) :
    w.cell? ⟨g, 0, none⟩ = some x0 ∧ w.cell? ⟨g, 1, none⟩ = some x1 ∧ w.cell? ⟨g, 2, none⟩ = some x2 ∧ w.cell? ⟨g, 3, none⟩ = some x3 := by
  refine ⟨?_, ?_, ?_, ?_⟩ <;> (rw [Lib.cell_of_heap h]; rfl)
theorem enodesL_step (l : List Ex) (k : Nat) (h : k < l.length) : enodesL (l.take (k + 1)) = enodesL (l.take k) + (l[k]).nodes := by
  rw [List.take_succ_eq_append_getElem h, enodesL_snoc]
set_option maxRecDepth 100000 in
set_option maxHeartbeats 2000000 in
theorem count_any (w0 : World) (t : Ex) (hIn : t.In w0) : ∀ (m : Int) (w : World), Below w0.heap.size w0 w →
    Calls Tryd.prog 11 #[.agg t.d.arr, .int .i64 m] w fun e w' => (∃ v : Int, e = .returned (.int .i64 v)) ∧ Below w.heap.size w w' := by
  induction hIn with
  | mk d l lab nam par cap sub ih =>
  intro m w hb
  have hlen : l.length = d.pn := by have := par.1; rw [flat_len Ex.cells_len] at this; omega
  have hb1 : Below w.heap.size w (w.alloc (.cells d.arr 25)) := (Below.refl _ _).alloc (Nat.le_refl _) _
  have hAt := ex_box w d
  have HA := Lib.hid (And.intro hAt (And.intro (below_then hb hb1) (And.intro lab (And.intro nam (And.intro cap hlen)))))
  have HI := Lib.hid (Ex.In.mk d l lab nam par cap sub)
  have HIH := Lib.hid ih
  have HB1 := Lib.hid hb1
  have c3 := hAt.c3
  have c4 := hAt.c4
  clear hb1 hAt lab nam par cap sub ih hb hlen
  go_enter Tryd.func11, Tryd.ntmps11
  show _
  unfold Ex.d
  go_wp2_with fail
  clear c3 c4
  generalize (w.alloc (.cells d.arr 25)) = w1 at *
  have HB0 := Lib.hid (Below.refl w1.heap.size w1)
  go_loopw [1, 5] (fun v i wr => ∃ (z : Int) (k : Nat), v = .int .i64 z ∧ i = .int .i64 k ∧ k ≤ d.ln ∧ Below w1.heap.size w1 wr) (fun _ i _ => d.ln - (intOf i).toNat)
  case atStart => exact ⟨_, 0, rfl, rfl, Nat.zero_le _, HB0.out⟩
  case round =>
    obtain ⟨z, k, rfl, rfl, hk, hbr⟩ := hrel
    have HR := Lib.hid hbr
    have cc := (HA.out.1.lower hbr).c5
    clear hbr
    by_cases hlt : k < d.ln
    · have hll : d.labels.length = d.ln := rd_len HA.out.2.2.1
      obtain ⟨b, o, hlA, hcel⟩ := ((HA.out.2.2.1.below HA.out.2.1).below HR.out).str (k := k) (by omega)
      have h1 := hcel k (by omega)
      rw [hlA] at cc
      obtain ⟨x, hx⟩ : ∃ x, (d.labels[k]'(by omega)) = x := ⟨_, rfl⟩
      rw [hx] at h1
      have hki : (k : Int) < (d.ln : Int) := by omega
      have hk4 : (k : Int) ≤ 9223372036854775806 := by have := HA.out.2.2.2.2.1.1.2.2; omega
      clear hcel hx hlA hll
      go_wp2_with fail
      go_roundw
      case rel => exact ⟨_, k + 1, rfl, by go_num, hlt, HR.out⟩
      case measure => simp [intOf] <;> omega
    · have hki : ¬ (k : Int) < (d.ln : Int) := by omega
      clear hlt
      go_wp2_with fail
      clear cc
      go_loopw [1, 6] (fun v i wr => ∃ (z : Int) (k : Nat), v = .int .i64 z ∧ i = .int .i64 k ∧ k ≤ d.nn ∧ Below w1.heap.size w1 wr) (fun _ i _ => d.nn - (intOf i).toNat)
      case atStart => exact ⟨_, 0, rfl, rfl, Nat.zero_le _, HR.out⟩
      case round =>
        clear HR
        obtain ⟨z, k, rfl, rfl, hk, hbr⟩ := hrel
        have HR := Lib.hid hbr
        have cc := (HA.out.1.lower hbr).c6
        clear hbr
        by_cases hlt : k < d.nn
        · have hll : d.names.length = d.nn := rd_len HA.out.2.2.2.1
          obtain ⟨b, o, hlA, hcel⟩ := ((HA.out.2.2.2.1.below HA.out.2.1).below HR.out).str (k := k) (by omega)
          have h1 := hcel k (by omega)
          rw [hlA] at cc
          obtain ⟨x, hx⟩ : ∃ x, (d.names[k]'(by omega)) = x := ⟨_, rfl⟩
          rw [hx] at h1
          have hki : (k : Int) < (d.nn : Int) := by omega
          have hk4 : (k : Int) ≤ 9223372036854775806 := by have := HA.out.2.2.2.2.1.2.1.2.2; omega
          clear hcel hx hlA hll
          go_wp2_with fail
          go_roundw
          case rel => exact ⟨_, k + 1, rfl, by go_num, hlt, HR.out⟩
          case measure => simp [intOf] <;> omega
        · have hki : ¬ (k : Int) < (d.nn : Int) := by omega
          clear hlt
          go_wp2_with fail
          clear cc
          go_loopw [1, 7] (fun v i wr => ∃ (z : Int) (k : Nat), v = .int .i64 z ∧ i = .int .i64 k ∧ k ≤ d.pn ∧ Below w1.heap.size w1 wr) (fun _ i _ => d.pn - (intOf i).toNat)
          case atStart => exact ⟨_, 0, rfl, rfl, Nat.zero_le _, HR.out⟩
          case round =>
            clear HR
            obtain ⟨z2, j, rfl, rfl, hj, hbr⟩ := hrel
            have HR := Lib.hid hbr
            have cc := (HA.out.1.lower hbr).c7
            clear hbr
            by_cases hlt2 : j < d.pn
            · by_cases hz : 0 ≤ z2
              · have hjl : j < l.length := by rw [HA.out.2.2.2.2.2]; exact hlt2
                obtain ⟨pb, po, hpA, hAtP⟩ := (HI.out.lower HA.out.2.1).part (k := j) hjl
                have hpA' : d.pA = some ⟨pb, po, none⟩ := hpA
                rw [hpA'] at cc
                have hAtM : (l[j]).d.At w1 pb (po + j * 8) := hAtP j hjl
                obtain ⟨x, hx⟩ : ∃ x, l[j] = x := ⟨_, rfl⟩
                rw [hx] at hAtM
                have hxm : x ∈ l := by rw [← hx]; exact List.getElem_mem hjl
                have HM := Lib.hid (fun z => HIH.out x hxm z wr (HA.out.2.1.trans (HR.out.mono HA.out.2.1.size)))
                obtain ⟨p0, p1, p2, p3, p4, p5, p6, p7⟩ := hAtM.lower HR.out
                have hji : (j : Int) < (d.pn : Int) := by omega
                have hj4 : (j : Int) ≤ 9223372036854775806 := by have := HA.out.2.2.2.2.1.2.2.1.2.2; omega
                clear hpA hpA' hAtP hAtM hx hxm hjl
                go_wp2_with fail
                refine (HM.out _).mono ?_
                rintro e w3 ⟨⟨v3, rfl⟩, hb3⟩
                have H3 := Lib.hid (below_then HR.out hb3)
                clear hb3 HM
                go_wp2_with fail
                go_roundw
                case rel => exact ⟨v3, j + 1, rfl, by go_num, hlt2, H3.out⟩
                case measure => simp [intOf] <;> omega
              · have hz2 : ¬ 0 ≤ z2 := hz
                have hji : (j : Int) < (d.pn : Int) := by omega
                go_wp2_with fail
                go_returns
                exact ⟨⟨z2, rfl⟩, below_then HB1.out HR.out⟩
            · have hji : ¬ (j : Int) < (d.pn : Int) := by omega
              go_wp2_with fail
              go_returns
              exact ⟨⟨z2, rfl⟩, below_then HB1.out HR.out⟩

theorem Few_any (w0 : World) (t : Ex) (hIn : t.In w0) (w : World) (hb : Below w0.heap.size w0 w) :
    Calls Tryd.prog 5 #[.agg t.d.arr] w fun e w' => (∃ v : Bool, e = .returned (.bool v)) ∧ Below w.heap.size w w' := by
  have hb1 : Below w.heap.size w (w.alloc (.cells t.d.arr 25)) := (Below.refl _ _).alloc (Nat.le_refl _) _
  have HC := Lib.hid (count_any w0 t hIn 20000 _ (below_then hb hb1))
  have HB := Lib.hid hb1
  clear hb1 hIn hb
  go_enter Tryd.func5, Tryd.ntmps5
  go_wp2_with fail
  refine HC.out.mono ?_
  rintro e w2 ⟨⟨v, rfl⟩, hb2⟩
  have H2 := Lib.hid (below_then HB.out hb2)
  clear hb2 HC
  go_wp2_with fail
  go_returns
  exact ⟨⟨_, rfl⟩, H2.out⟩
set_option maxRecDepth 100000 in
set_option maxHeartbeats 2000000 in
theorem refNodes_any (w0 : World) (t : Ex) (hIn : t.In w0) (hn : t.nodes ≤ 3000000) : ∀ (w : World), Below w0.heap.size w0 w →
    Calls Tryd.prog 7 #[.agg t.d.arr] w fun e w' => e = .returned (.int .i64 (t.nodes : Int)) ∧ Below w.heap.size w w' := by
  induction hIn with
  | mk d l lab nam par cap sub ih =>
  intro w hb
  have hlen : l.length = d.pn := by have := par.1; rw [flat_len Ex.cells_len] at this; omega
  have hb1 : Below w.heap.size w (w.alloc (.cells d.arr 25)) := (Below.refl _ _).alloc (Nat.le_refl _) _
  have hAt := ex_box w d
  have HA := Lib.hid (And.intro hAt (And.intro (below_then hb hb1) (And.intro cap hlen)))
  have HI := Lib.hid (Ex.In.mk d l lab nam par cap sub)
  have HIH := Lib.hid ih
  have HB1 := Lib.hid hb1
  have hno : 1 + enodesL l ≤ 3000000 := by simpa [Ex.nodes] using hn
  have HNO := Lib.hid hno
  have hnx : ∀ x ∈ l, x.nodes ≤ 3000000 := fun x hx => by have := enodesL_mem l x hx; omega
  have HNX := Lib.hid hnx
  clear hb1 hAt lab nam par cap sub ih hb hlen hn hno hnx
  go_enter Tryd.func7, Tryd.ntmps7
  show _
  unfold Ex.d
  go_wp2_with fail
  generalize (w.alloc (.cells d.arr 25)) = w1 at *
  go_loopw [3, 4] (fun v i wr => ∃ (k : Nat), v = .int .i64 (((1 + enodesL (l.take k)) : Nat) : Int) ∧ i = .int .i64 k ∧ k ≤ d.pn ∧ Below w1.heap.size w1 wr) (fun _ i _ => d.pn - (intOf i).toNat)
  case atStart => exact ⟨0, (by simp [enodesL]), rfl, Nat.zero_le _, Below.refl _ _⟩
  case round =>
    obtain ⟨k, rfl, rfl, hk, hbr⟩ := hrel
    have HR := Lib.hid hbr
    have cc := (HA.out.1.lower hbr).c7
    clear hbr
    by_cases hlt : k < d.pn
    · have hjl : k < l.length := by rw [HA.out.2.2.2]; exact hlt
      obtain ⟨pb, po, hpA, hAtP⟩ := (HI.out.lower HA.out.2.1).part (k := k) hjl
      have hpA' : d.pA = some ⟨pb, po, none⟩ := hpA
      rw [hpA'] at cc
      have hAtM : (l[k]).d.At w1 pb (po + k * 8) := hAtP k hjl
      have HSTEP := Lib.hid (enodesL_step l k hjl)
      have HMX := Lib.hid (enodesL_take l (k + 1))
      obtain ⟨x, hx⟩ : ∃ x, l[k] = x := ⟨_, rfl⟩
      rw [hx] at hAtM HSTEP
      have hxm : x ∈ l := by rw [← hx]; exact List.getElem_mem hjl
      have HM := Lib.hid (HIH.out x hxm (HNX.out x hxm) wr (HA.out.2.1.trans (HR.out.mono HA.out.2.1.size)))
      obtain ⟨p0, p1, p2, p3, p4, p5, p6, p7⟩ := hAtM.lower HR.out
      have hji : (k : Int) < (d.pn : Int) := by omega
      have hj4 : (k : Int) ≤ 9223372036854775806 := by have := HA.out.2.2.1.2.2.1.2.2; omega
      have hj0 : (0 : Int) ≤ (k : Int) := by omega
      clear hpA hpA' hAtP hAtM hx hxm hjl
      obtain ⟨z, hz⟩ : ∃ z, 1 + enodesL (l.take k) = z := ⟨_, rfl⟩
      have hz1 : ((z : Nat) : Int) + ((x.nodes : Nat) : Int) ≤ 4000000 := by have h1 := HMX.out; have h2 := HNO.out; rw [HSTEP.out] at h1; omega
      have HZ := Lib.hid (show z + x.nodes = 1 + enodesL (l.take (k + 1)) by rw [HSTEP.out]; omega)
      rw [hz]
      clear hz
      go_wp2_with fail
      refine HM.out.mono ?_
      rintro e w3 ⟨rfl, hb3⟩
      have H3 := Lib.hid (below_then HR.out hb3)
      clear hb3 HM p0 p1 p2 p3 p4 p5 p6 p7 cc
      go_wp2_with fail
      go_roundw
      case rel => exact ⟨k + 1, congrArg (Value.int .i64) (by rw [← HZ.out]; go_num), by go_num, hlt, H3.out⟩
      case measure => simp [intOf] <;> omega
    · have hji : ¬ (k : Int) < (d.pn : Int) := by omega
      have HD := Lib.hid (show enodesL (l.take k) = enodesL l by rw [List.take_of_length_le (by rw [HA.out.2.2.2]; omega)])
      go_wp2_with fail
      go_returns
      exact ⟨congrArg (fun v => Ending.returned (.int .i64 v)) (by simp only [Ex.nodes]; rw [← HD.out]; omega), below_then HB1.out HR.out⟩

theorem list_eq {l m : List Str} (h : l.length = m.length) (hh : ∀ j (h : j < l.length) (h' : j < m.length), l[j] = m[j]) : l = m := List.ext_getElem h (fun j h1 h2 => hh j h1 h2)
theorem ne_facts (s t : Str) (b : Bool) (h : decide (s = t) = b) : ((bstr s).toList == (bstr t).toList) = b ∧ ((bstr s).toList != (bstr t).toList) = !b := by
  have h1 : ((bstr s).toList == (bstr t).toList) = b := by rw [beq_bstr, ← h]; first | done | rfl | exact decide_eq_decide.2 Iff.rfl
  exact ⟨h1, by simp only [bne, h1]⟩

set_option maxRecDepth 100000 in
set_option maxHeartbeats 2000000 in
theorem texts14_any (A B : Option Addr) (l m : List Str) (n n' c c' : Nat) (w : World) (hr : Rd w 1 A n (strs l)) (hr' : Rd w 1 B n' (strs m)) (hm : n ≤ 9223372036854775807) (hm' : n' ≤ 9223372036854775807) :
    Calls Tryd.prog 17 #[.slice A n c, .slice B n' c'] w fun e w' => e = .returned (.bool (decide (l = m))) ∧ Below w.heap.size w w' := by
  have hl := rd_len hr
  have hl' := rd_len hr'
  have HR := Lib.hid (And.intro hr (And.intro hr' (And.intro hl hl')))
  by_cases hne : n = n'
  · have q1 : ((n : Int) != (n' : Int)) = false := by rw [hne]; simp
    have HNE := Lib.hid hne
    clear hr hr' hl hl' hne
    go_enter Tryd.func17, Tryd.ntmps17
    go_wp2_with fail
    go_loopw [5] (fun i wr => ∃ k : Nat, i = .int .i64 k ∧ k ≤ n ∧ (∀ j (h : j < l.length) (h' : j < m.length), j < k → l[j] = m[j]) ∧ Below w.heap.size w wr) (fun i _ => n - (intOf i).toNat)
    case atStart => exact ⟨0, rfl, Nat.zero_le _, (by intro j _ _ h; omega), Below.refl _ _⟩
    case round =>
      obtain ⟨k, rfl, hk, hall, hb⟩ := hrel
      have HALL := Lib.hid hall
      have HB := Lib.hid hb
      clear hall
      by_cases hlt : k < n
      · have hkl : k < l.length := by rw [HR.out.2.2.1]; exact hlt
        have hkm : k < m.length := by rw [HR.out.2.2.2, ← HNE.out]; exact hlt
        obtain ⟨b1, o1, rfl, hc1⟩ := (HR.out.1.below hb).str hkl
        obtain ⟨b2, o2, rfl, hc2⟩ := (HR.out.2.1.below hb).str hkm
        have h1 := hc1 k hkl
        have h2 := hc2 k hkm
        have hki : (k : Int) < (n : Int) := by omega
        have hki' : (k : Int) < (n' : Int) := by rw [← HNE.out]; omega
        have hk0 : (0 : Int) ≤ (k : Int) := by omega
        have hk9 : (k : Int) ≤ 9223372036854775806 := by omega
        have hwr : IntKind.i64.wrap (k : Int) = (k : Int) := by rw [IntKind.wrap_i64]; omega
        by_cases he : l[k] = m[k]
        · have hf := ne_facts l[k] m[k] true (decide_eq_true he)
          have HE := Lib.hid he
          obtain ⟨x, hx⟩ : ∃ x, l[k] = x := ⟨_, rfl⟩
          obtain ⟨y, hy⟩ : ∃ y, m[k] = y := ⟨_, rfl⟩
          rw [hx] at h1 hf
          rw [hy] at h2 hf
          obtain ⟨g1, g2⟩ := hf
          simp only [Bool.not_true] at g2
          clear hc1 hc2 hb hx hy he
          go_wp2_with fail
          go_quiet (fail)
          clear h1 h2
          go_wp2_with fail
          go_roundw
          case rel => exact ⟨k + 1, by go_num, hlt, fun j hj hj' hjk => (Nat.lt_succ_iff_lt_or_eq.1 hjk).elim (fun h => HALL.out j hj hj' h) (fun h => by subst h; exact HE.out), below_drewN HB.out _⟩
          case measure => simp [intOf] <;> omega
        · have hf := ne_facts l[k] m[k] false (decide_eq_false he)
          have HA := Lib.hid (show decide (l = m) = false from decide_eq_false (fun e => he (by subst e; rfl)))
          obtain ⟨x, hx⟩ : ∃ x, l[k] = x := ⟨_, rfl⟩
          obtain ⟨y, hy⟩ : ∃ y, m[k] = y := ⟨_, rfl⟩
          rw [hx] at h1 hf
          rw [hy] at h2 hf
          obtain ⟨g1, g2⟩ := hf
          simp only [Bool.not_false] at g2
          clear hc1 hc2 hb hx hy he
          go_wp2_with fail
          go_quiet (fail)
          clear h1 h2
          go_wp2_with fail
          go_returns
          exact ⟨by rw [HA.out]; rfl, below_drewN HB.out _⟩
      · have hki : ¬ (k : Int) < (n : Int) := by omega
        have HA := Lib.hid (show decide (l = m) = true from decide_eq_true (list_eq (by rw [HR.out.2.2.1, HR.out.2.2.2, HNE.out]) (fun j h h' => HALL.out j h h' (by rw [HR.out.2.2.1] at h; omega))))
        clear hb
        go_wp2_with fail
        go_returns
        exact ⟨by rw [HA.out]; rfl, HB.out⟩
  · have q1 : ((n : Int) != (n' : Int)) = true := by rw [bne_iff_ne]; omega
    have HA := Lib.hid (show decide (l = m) = false from decide_eq_false (fun e => hne (by rw [← hl, ← hl', e])))
    clear hr hr' hl hl' hne
    go_enter Tryd.func17, Tryd.ntmps17
    go_wp2_with fail
    go_returns
    exact ⟨by rw [HA.out]; rfl, Below.refl _ _⟩
theorem lines_any (A : Option Addr) (l : List Str) (n c : Nat) (w : World) (hr : Rd w 1 A n (strs l)) (hm : n ≤ 4000000) :
    Calls Tryd.prog 6 #[.slice A n c] w fun e w' => (∃ v : Bool, e = .returned (.bool v)) ∧ Below w.heap.size w w' := by
  have hl := rd_len hr
  subst hl
  go_enter Tryd.func6, Tryd.ntmps6
  go_wp2_with fail
  go_loopw [2, 3] (fun _ i wr => ∃ k : Nat, i = .int .i64 k ∧ k ≤ l.length ∧ Below w.heap.size w wr) (fun _ i _ => l.length - (intOf i).toNat)
  case atStart => exact ⟨0, rfl, Nat.zero_le _, Below.refl _ _⟩
  case round =>
    obtain ⟨k, rfl, hk, hb⟩ := hrel
    by_cases hlt : k < l.length
    · obtain ⟨b, o, rfl, hc⟩ := (hr.below hb).str (k := k) hlt
      have h1 := hc k hlt
      have HB := Lib.hid hb
      have n1 : (k : Int) < (l.length : Int) := by omega
      have n2 : (l.length : Int) ≤ 4000000 := by omega
      clear hc hr hb
      by_cases h3 : 3000 < l[k].length
      · have e1 : (3000 : Int) < ((bstr l[k]).size : Int) := by rw [bstr_size]; omega
        clear h3
        go_wp2_with fail
        go_returns
        exact ⟨⟨_, rfl⟩, HB.out⟩
      · have e1 : ¬ (3000 : Int) < ((bstr l[k]).size : Int) := by rw [bstr_size]; omega
        clear h3
        go_wp2_with fail
        go_roundw
        case rel => exact ⟨k + 1, by go_num, by omega, HB.out⟩
        case measure => simp [intOf] <;> omega
    · have HB := Lib.hid hb
      have n1 : ¬ (k : Int) < (l.length : Int) := by omega
      clear hb hr
      by_cases h20 : (l.length : Int) ≤ 20
      · have e20 : decide ((l.length : Int) ≤ 20) = true := decide_eq_true h20
        go_wp2_with fail
        go_returns
        refine ⟨?_, HB.out⟩
        first | exact ⟨_, rfl⟩ | exact .inr rfl | (right; simp [e20]) | (simp; omega)
      · have e20 : decide ((l.length : Int) ≤ 20) = false := decide_eq_false h20
        go_wp2_with fail
        go_returns
        refine ⟨?_, HB.out⟩
        first | exact ⟨_, rfl⟩ | exact .inl rfl | (left; simp [e20]) | (simp; omega)
theorem begins_any (A B : Option Addr) (l r : List Str) (c c' : Nat) (w : World) (hr : Rd w 1 A (l ++ r).length (strs (l ++ r))) (hr' : Rd w 1 B l.length (strs l)) (hc : (l ++ r).length ≤ c ∧ c ≤ maxLen) (hm : (l ++ r).length ≤ 4000000) :
    Calls Tryd.prog 9 #[.slice A (l ++ r).length c, .slice B l.length c'] w fun e w' => e = .returned (.bool true) ∧ Below w.heap.size w w' := by
  have hlr : (l ++ r).length = l.length + r.length := List.length_append
  have hcut := hr.cut (lo := 0) (hi := l.length) (k := 0) (Nat.zero_le _) (by omega) (by omega)
  rw [Nat.zero_mul, List.drop_zero, Nat.sub_zero, Nat.mul_one] at hcut
  have hst : (strs (l ++ r)).take l.length = strs l := by rw [strs_append, List.take_left' (by rw [strs_length])]
  rw [hst] at hcut
  have hA : A.map (fun x => x.add 0) = A := by cases A <;> simp [add_zero]
  rw [hA] at hcut
  have HC := Lib.hid (fun (cc : Nat) => texts14_any A B l l l.length l.length cc c' w hcut hr' (by omega) (by omega))
  have n1 : ¬ ((l ++ r).length : Int) < (l.length : Int) := by omega
  have hAn : A = none → (l ++ r).length = 0 := fun h => by
    rcases Nat.eq_zero_or_pos (l ++ r).length with q | q
    · exact q
    · obtain ⟨a, e, _⟩ := hr.addr (by rw [strs_length]; omega)
      rw [h] at e; cases e
  obtain ⟨N, hN⟩ : ∃ N, (l ++ r).length = N := ⟨_, rfl⟩
  obtain ⟨M, hM⟩ : ∃ M, l.length = M := ⟨_, rfl⟩
  rw [hN] at n1 hAn hc hm ⊢
  rw [hM] at HC n1 ⊢
  have n2 : (0 : Int) ≤ (M : Int) := by omega
  have n3 : (M : Int) ≤ (c : Int) := by have := hc.1; omega
  have n4 : (N : Int) ≤ 4000000 := by omega
  have n5 : (M : Int) ≤ (N : Int) := by omega
  clear hr hr' hc hm hlr hcut hst hA hN hM
  cases A with
  | none =>
    have h0 := hAn rfl
    subst h0
    obtain rfl : M = 0 := by omega
    clear hAn
    go_enter Tryd.func9, Tryd.ntmps9
    go_wp2_with (go_at_call 17; (with_reducible refine (HC.out _).mono ?_); rintro e w1 ⟨rfl, hb⟩; have HB := Lib.hid hb; clear hb)
    go_returns
    exact ⟨by simp, HB.out⟩
  | some a =>
    clear hAn
    go_enter Tryd.func9, Tryd.ntmps9
    go_wp2_with (go_at_call 17; (with_reducible refine (HC.out _).mono ?_); rintro e w1 ⟨rfl, hb⟩; have HB := Lib.hid hb; clear hb)
    go_returns
    exact ⟨by simp, HB.out⟩
theorem outs_any (A B : Option Addr) (l : List Str) (c c' : Nat) (err fault : Int) (s : Str) (w : World) (hr : Rd w 1 A l.length (strs l)) (hr' : Rd w 1 B l.length (strs l)) (hm : l.length ≤ 4000000) :
    Calls Tryd.prog 10 #[.agg #[.int .i64 err, .int .i64 fault, .string (bstr s), .slice A l.length c], .agg #[.int .i64 err, .int .i64 fault, .string (bstr s), .slice B l.length c']] w fun e w' => e = .returned (.bool true) ∧ Below w.heap.size w w' := by
  obtain ⟨hq1, hq2, hb⟩ := two_boxes w (.cells #[.int .i64 err, .int .i64 fault, .string (bstr s), .slice A l.length c] 32) (.cells #[.int .i64 err, .int .i64 fault, .string (bstr s), .slice B l.length c'] 32)
  have HC := Lib.hid (texts14_any A B l l l.length l.length c c' _ (hr.below hb) (hr'.below hb) (by omega) (by omega))
  have HB := Lib.hid hb
  have HQ := Lib.hid (And.intro hq1 hq2)
  obtain ⟨x0, x1, x2, x3⟩ := cells4 hq1
  obtain ⟨y0, y1, y2, y3⟩ := cells4 hq2
  clear hr hr' hm hb hq1 hq2
  go_enter Tryd.func10, Tryd.ntmps10
  go_wp2_with (go_at_call 17; (with_reducible refine HC.out.mono ?_); rintro e w1 ⟨rfl, hb⟩; have hx1 := (hb.block _ (lt_of_heap HQ.out.1)).trans HQ.out.1; have hy1 := (hb.block _ (lt_of_heap HQ.out.2)).trans HQ.out.2; obtain ⟨x0', x1', x2', x3'⟩ := cells4 hx1; obtain ⟨y0', y1', y2', y3'⟩ := cells4 hy1; have HB1 := Lib.hid (below_then HB.out hb); clear hb hx1 hy1)
  go_returns
  exact ⟨by simp, HB1.out⟩
end Go.Proofs.YtjmgnohepoacbaaDoor

namespace Go.Proofs.YtjmgnohepoacbaaDoor
open Go Go.ChangeShapes Go.WideShapes Go.ChangeAt Go.RowKit Go.Sort
set_option linter.unusedVariables false
set_option linter.unusedSimpArgs false

abbrev zeroO : Obj := .cells #[.int .i64 0, .int .i64 0, .string ⟨#[]⟩, .slice none 0 0] 32
def St.mk1 (input : List Str) (fuel : Int) (e : Ex) : St := { St.mk0 input fuel with next := some (e, []) }
theorem inv_start {input : List Str} {fuel : Int} {e : Ex} (he : ExG e) (hi : input.length ≤ 90000000000) : Inv 0 (St.mk1 input fuel e) := by
  refine ⟨⟨(fun z hz => nomatch hz), (fun z hz => nomatch hz), (fun x hx => nomatch hx), fun e' env q => ?_, Nat.le_refl _, Nat.le_refl _, Nat.le_refl _, Nat.le_refl _, hi⟩, fun _ => rfl⟩
  have q' := Option.some.inj q
  injection q' with q1 q2
  subst q1 q2
  exact ⟨he, fun p hp => nomatch hp⟩
theorem mu_start (input : List Str) (fuel : Int) (e : Ex) : mu (St.mk1 input fuel e) = 3 * fuel.toNat + 2 := rfl
/-- What model.Run tells. -/
def ModelRes (w : World) (input : List Str) (fuel : Int) (e : Ex) (e1 : Ending) (w' : World) : Prop := ∃ (n : Nat) (s' : St) (At : Option Addr) (ct : Nat) (x : Str), e1 = .returned (.agg #[.int .i64 s'.err, .int .i64 s'.fault, .string (bstr x), .slice At s'.trace.length ct]) ∧ s' = St.run n (St.mk1 input fuel e) ∧ s'.done ∧ Rd w' 1 At s'.trace.length (strs s'.trace) ∧ (s'.trace.length ≤ ct ∧ ct ≤ maxLen) ∧ s'.trace.length ≤ 100000 ∧ Below w.heap.size w w' ∧
  ((s'.err ≠ 0 ∧ x = []) ∨ (s'.err = 0 ∧ ∃ z, s'.vals = [z] ∧ x = wrV s'.refs 2001 [] z))
theorem inR_up {w w' : World} {l : List Str} {i : Value} (h : InR w w.heap.size l i) (hb : Below w.heap.size w w') : InR w' w'.heap.size l i := by
  obtain ⟨A, c, h1, h2, h3, h4⟩ := h
  exact ⟨A, c, h1, h2, h3.below hb, fun hn a ha => Nat.lt_of_lt_of_le (h4 hn a ha) hb.size⟩
def put4 (w : World) (g : Nat) (a0 a1 a2 a3 : Value) : World := (((w.setCell ⟨g, 0, none⟩ a0).setCell ⟨g, 1, none⟩ a1).setCell ⟨g, 2, none⟩ a2).setCell ⟨g, 3, none⟩ a3
theorem put4_at {w : World} {g : Nat} {x0 x1 x2 x3 : Value} {T : TypeId} (h : w.heap[g]? = some (.cells #[x0, x1, x2, x3] T)) (a0 a1 a2 a3 : Value) : (put4 w g a0 a1 a2 a3).heap[g]? = some (.cells #[a0, a1, a2, a3] T) :=
  set_cells (set_cells (set_cells (set_cells h 0 a0) 1 a1) 2 a2) 3 a3
theorem put4_other (w : World) (g : Nat) (a0 a1 a2 a3 : Value) {b : Nat} (h : b ≠ g) : (put4 w g a0 a1 a2 a3).heap[b]? = w.heap[b]? := by
  unfold put4
  rw [set_other _ _ _ _ h, set_other _ _ _ _ h, set_other _ _ _ _ h, set_other _ _ _ _ h]
theorem put4_bel {B : Nat} (w : World) {g : Nat} (hg : B ≤ g) (a0 a1 a2 a3 : Value) : Below B w (put4 w g a0 a1 a2 a3) :=
  ((((Below.refl B w).setCell (p := ⟨g, 0, none⟩) hg a0).setCell (p := ⟨g, 1, none⟩) hg a1).setCell (p := ⟨g, 2, none⟩) hg a2).setCell (p := ⟨g, 3, none⟩) hg a3
theorem model_ret {R : Ending → World → Prop} {W : World} {g : Nat} {x0 x1 x2 x3 : Value} (h : W.heap[g]? = some (.cells #[x0, x1, x2, x3] 32)) (a0 a1 a2 a3 : Value) (tm : Array Value) (h6 : tm[6]?.getD undef = .pointer (some ⟨g, 0, none⟩)) (hR : R (.returned (.agg #[a0, a1, a2, a3])) (put4 W g a0 a1 a2 a3)) :
    bodyPost Tryd.prog Tryd.f8 R Exit.ret ⟨tm, []⟩ (put4 W g a0 a1 a2 a3) := by
  have hh := put4_at h a0 a1 a2 a3
  generalize put4 W g a0 a1 a2 a3 = W at *
  obtain ⟨b0, b1, b2, b3⟩ := cells4 hh
  refine bodyPost_ret (by simp [results, Tryd.results8, go_sem, h6, b0, b1, b2, b3]; try rfl) rfl ?_
  exact hR
theorem own_ne {S n b : Nat} {v : Value} {xs : List Value} {w : World} {T : TypeId} {cs : Array Value} {fr : Nat × Nat} (h : w.ownsRow S 9 1 v n xs) (hb : w.heap[b]? = some (.cells cs T fr)) (hT : T ≠ 9) : some b ≠ v.ownBlock := by
  intro e
  rcases h.2 with ⟨rfl, _⟩ | ⟨g, cap, cur, rfl, _, hg, _⟩
  · simp [Value.ownBlock] at e
  · simp only [Value.ownBlock, Option.some.injEq] at e
    subst e
    rw [hg] at hb
    injection hb with hb
    injection hb with _ hb _
    exact hT hb.symm
set_option maxRecDepth 100000 in
set_option maxHeartbeats 16000000 in
theorem modelRun_any (w : World) (e : Ex) (heI : e.In w) (hG : ExG e) (input : List Str) (i : Value) (hi : InR w w.heap.size input i) (hin : input.length ≤ 90000000000) (fuel : Int) (hf : 0 ≤ fuel ∧ fuel ≤ 5000) (hT : Tab w) :
    Calls Tryd.prog 8 #[.agg e.d.arr, i, .int .i64 fuel] w fun e1 w' => ModelRes w input fuel e e1 w' := by
  obtain ⟨W0, hW0⟩ : ∃ W0, w.alloc (.cells e.d.arr 25) = W0 := ⟨_, rfl⟩
  have hb0 : Below w.heap.size w W0 := by rw [← hW0]; exact (Below.refl _ _).alloc (Nat.le_refl _) _
  have hs0 : W0.heap.size = w.heap.size + 1 := by rw [← hW0]; exact World.size_alloc _ _
  have hx0 : e.d.At W0 w.heap.size 0 := by rw [← hW0]; exact ex_box w e.d
  have hb1 : Below W0.heap.size W0 (W0.alloc zeroO) := (Below.refl _ _).alloc (Nat.le_refl _) _
  have ho0 := heap_new (w := W0) (o := zeroO) rfl
  have hb2 := below_then hb0 hb1
  have hs2 : (W0.alloc zeroO).heap.size = w.heap.size + 2 := by rw [World.size_alloc, hs0]
  have HN := Lib.hid (new_any (W0.alloc zeroO) input i fuel (inR_up hi hb2))
  have HE := Lib.hid (And.intro (show e.In (W0.alloc zeroO) from (heI.lower hb0).lower hb1) (hx0.lower hb1))
  rw [hs0] at ho0
  have HB := Lib.hid (And.intro hb2 (And.intro hs2 ho0))
  have HG := Lib.hid (And.intro hG (And.intro hin (And.intro hf (tab_below hT hb2))))
  obtain ⟨Ai, ci, rfl, _⟩ := hi
  have HW := Lib.hid hW0
  obtain ⟨W2, hW2⟩ : ∃ W2, W0.alloc zeroO = W2 := ⟨_, rfl⟩
  rw [hW2] at HN HE HB HG
  have HW2 := Lib.hid hW2
  clear hb0 hs0 hx0 ho0 hb1 hb2 hs2 heI hG hin hf hT hW0 hW2
  go_enter Tryd.func8, Tryd.ntmps8
  go_upto_region 1 with fail
  rw [HW.out]
  rw [HW2.out]
  go_upto_region 2 with (go_at_call 12; (with_reducible refine HN.out.mono ?_); rintro e1 w4 ⟨rfl, hR, hb4⟩; have HR := Lib.hid hR; have HB4 := Lib.hid hb4; clear hR hb4)
  have hb5 : Below w4.heap.size w4 (w4.alloc (boxM W2.heap.size)) := (Below.refl _ _).alloc (Nat.le_refl _) _
  have hx5 := heap_new (w := w4) (o := boxM W2.heap.size) rfl
  have hRun := run_any (HR.out.below hb5) (below_then HB4.out hb5) HG.out.2.2.2 e w.heap.size 0 HE.out (St.mk1 input fuel e) rfl (inv_start HG.out.1 HG.out.2.1) (by rw [mu_start]; have := HG.out.2.2.1; omega) (by show -9000000000000 ≤ fuel; have := HG.out.2.2.1; omega)
  have c0 : (w4.alloc (boxM W2.heap.size)).cell? ⟨w4.heap.size, 0, none⟩ = some (.pointer (some ⟨W2.heap.size, 0, none⟩)) := by rw [Lib.cell_of_heap hx5]; rfl
  have HRUN := Lib.hid hRun
  have H5 := Lib.hid (And.intro hb5 hx5)
  clear hRun hb5 hx5
  generalize w4.alloc (boxM W2.heap.size) = w5 at *
  go_wp2_with fail
  refine HRUN.out.mono ?_
  rintro e1 w6 ⟨hkeep, n, T, s', t, i', r, v, f, nx, nm, hs, hdn, hiv, hTm, hhd, htr, hbw, hres⟩
  have hmvn : ∀ b, b ≠ W2.heap.size → (Mv W2.heap.size (.slice none 0 0) (.slice none 0 0) (.slice none 0 0) (.slice none 0 0)) b := fun b hb => ⟨hb, (fun q => nomatch q), (fun q => nomatch q), (fun q => nomatch q), (fun q => nomatch q)⟩
  have h25 : W2.heap.size < w4.heap.size := lt_of_heap HR.out.hd
  have h45 := lt_of_heap H5.out.2
  have hbm := (hkeep w4.heap.size (hmvn _ (Nat.ne_of_gt h25)) h45).trans H5.out.2
  have hs2 := HB.out.2.1
  have hb25 : Below W2.heap.size W2 w5 := HB4.out.trans (H5.out.1.mono HB4.out.size)
  have hbo := (hkeep (w.heap.size + 1) (hmvn _ (by omega)) (by omega)).trans ((hb25.block (w.heap.size + 1) (by omega)).trans HB.out.2.2)
  have hbW : Below w.heap.size w w6 := (HB.out.1.trans (hb25.mono (by omega))).trans (hbw.mono (by omega))
  have hnt : s'.trace.length ≤ 100000 := by have := hiv.dat.nt; have := HG.out.2.2.1; rw [mu_start] at hTm; omega
  obtain ⟨At, ct, hte, hc1, hc2, _⟩ := own_cap htr
  subst hte
  have hrd := Rd.of_own htr
  have htm := own_ne htr hhd (by decide)
  have HTB := Lib.hid (show 0 < s'.trace.length → ∀ a, At = some a → a.block ≠ w.heap.size + 1 ∧ a.block ≠ W2.heap.size from fun hn a ha => by
    subst ha
    have := (htr.lt a.block rfl).1
    exact ⟨by omega, fun e => htm (by rw [← e]; rfl)⟩)
  have HNE := Lib.hid (show w4.heap.size ≠ w.heap.size + 1 ∧ W2.heap.size ≠ w.heap.size + 1 ∧ w4.heap.size ≠ W2.heap.size from ⟨by omega, by omega, by omega⟩)
  rcases hres with ⟨he, rfl⟩ | ⟨he, z, A, c, p, LA, lc, P', hz, rfl, hvr, hHR⟩
  · have H6 := Lib.hid (And.intro hbm (And.intro hbo (And.intro hhd (And.intro hrd (And.intro hbW (And.intro hc1 hc2))))))
    have HS := Lib.hid (And.intro hs (And.intro hdn (And.intro hnt he)))
    clear hkeep hs hdn hiv hTm hhd htr hbw hmvn h25 h45 hbm hs2 hb25 hbo hbW hnt hc1 hc2 hrd c0 htm
    go_upto_region 3 with fail
    have hb7 : Below w6.heap.size w6 (w6.alloc zeroV) := (Below.refl _ _).alloc (Nat.le_refl _) _
    have HB7 := Lib.hid hb7
    obtain ⟨c0⟩ : Nonempty ((w6.alloc zeroV).cell? ⟨w4.heap.size, 0, none⟩ = some (.pointer (some ⟨W2.heap.size, 0, none⟩))) := ⟨cell_below hb7 (by rw [Lib.cell_of_heap H6.out.1]; rfl)⟩
    have hm := (hb7.block _ (lt_of_heap H6.out.2.2.1)).trans H6.out.2.2.1
    obtain ⟨m0, m1, m2, m3, _⟩ := cells11 hm
    have ho7 := (hb7.block _ (lt_of_heap H6.out.2.1)).trans H6.out.2.1
    have HRD8 := Lib.hid (show Rd (w6.alloc zeroV) 1 At s'.trace.length (strs s'.trace) from H6.out.2.2.2.1.below hb7)
    generalize w6.alloc zeroV = w7 at *
    obtain ⟨y0, y1, y2, y3⟩ := cells4 ho7
    have zo0 := frozenN ho7 0
    have zo1 := frozenN ho7 1
    have zo2 := frozenN ho7 2
    have zo3 := frozenN ho7 3
    have e1 : (s'.err == 0) = false := by simpa using HS.out.2.2.2
    have e2 : (s'.err != 0) = true := by simpa using HS.out.2.2.2
    have HVO := Lib.hid ho7
    have ne2 : ¬ W2.heap.size = w.heap.size + 1 := HNE.out.2.1
    have ne2' : ¬ w.heap.size + 1 = W2.heap.size := Ne.symm HNE.out.2.1
    clear hb7 hm ho7
    go_wp2_with fail
    have hgo : w.heap.size ≤ w.heap.size + 1 := Nat.le_succ _
    exact model_ret HVO.out _ _ _ _ _ rfl ⟨n, s', At, ct, [], rfl, HS.out.1, HS.out.2.1, rd_keepP (P := fun b => b ≠ w.heap.size + 1) HRD8.out (fun hn a ha => (HTB.out hn a ha).1) (fun b hb _ => put4_other _ _ _ _ _ _ hb), H6.out.2.2.2.2.2, HS.out.2.2.1, (H6.out.2.2.2.2.1.trans (HB7.out.mono H6.out.2.2.2.2.1.size)).trans (put4_bel _ hgo _ _ _ _), .inl ⟨HS.out.2.2.2, rfl⟩⟩
  · have hvg := hiv.dat.vals z (by rw [hz]; exact List.mem_singleton_self z)
    have hTT : T ≤ 16000 := by have := HG.out.2.2.1; rw [mu_start] at hTm; omega
    have hnr := hiv.dat.nr
    obtain ⟨X, hX⟩ : ∃ X, wrV s'.refs 2001 [] z = X := ⟨_, rfl⟩
    have HTX := Lib.hid (fun (V : World) (hV : Below w6.heap.size w6 V) => text_any (R := s'.refs.length) (M := 4000000 + T) (D := T + 1) (hHR.below hV) rfl (by omega) (by omega) (fun y hy => ⟨_, hiv.dat.refs y hy⟩) (tab_below HG.out.2.2.2 ((hb25.trans hbw).trans (hV.mono (Nat.le_trans hb25.size hbw.size)))) (hvr.keep (fun b hb' hl => ⟨hb', hV.block b hl⟩)) hvg)
    rw [hX] at HTX
    have H6 := Lib.hid (And.intro hbm (And.intro hbo (And.intro hhd (And.intro hrd (And.intro hbW (And.intro hc1 hc2))))))
    have HS := Lib.hid (And.intro hs (And.intro hdn (And.intro hnt (And.intro he (And.intro hz hX)))))
    clear hkeep hs hdn hiv hTm hhd htr hbw hmvn h25 h45 hbm hs2 hb25 hbo hbW hnt hc1 hc2 hrd c0 htm hvr hvg hz hTT hHR hnr hX
    go_upto_region 3 with fail
    have hb7 : Below w6.heap.size w6 (w6.alloc (boxV z A c p LA lc)) := (Below.refl _ _).alloc (Nat.le_refl _) _
    have HB7 := Lib.hid hb7
    obtain ⟨c0⟩ : Nonempty ((w6.alloc (boxV z A c p LA lc)).cell? ⟨w4.heap.size, 0, none⟩ = some (.pointer (some ⟨W2.heap.size, 0, none⟩))) := ⟨cell_below hb7 (by rw [Lib.cell_of_heap H6.out.1]; rfl)⟩
    have hm := (hb7.block _ (lt_of_heap H6.out.2.2.1)).trans H6.out.2.2.1
    obtain ⟨m0, m1, m2, m3, _⟩ := cells11 hm
    have ho7 := (hb7.block _ (lt_of_heap H6.out.2.1)).trans H6.out.2.1
    obtain ⟨v0, v1, v2, v3, v4, v5⟩ := cells6 (heap_new (w := w6) (o := boxV z A c p LA lc) rfl)
    generalize w6.alloc (boxV z A c p LA lc) = w7 at *
    rw [HS.out.2.2.2.1] at m0
    have HM7 := Lib.hid (And.intro hm ho7)
    clear hb7 hm ho7
    go_upto_region 4 with fail
    go_region_law (go_simp; go_at_call 16; (with_reducible refine (HTX.out _ (below_then HB7.out (below_drew1 w7))).mono ?_); rintro e1 w8 ⟨rfl, hb8⟩; have HB8 := Lib.hid (below_then (below_drew1 w7) hb8); have c0' := cell_below HB8.out c0; have hm8 := (HB8.out.block _ (lt_of_heap HM7.out.1)).trans HM7.out.1; obtain ⟨m0', m1', m2', m3', _⟩ := cells11 hm8; have zm2 := frozenN hm8 2; have HM8 := Lib.hid hm8; clear hb8 hm8)
    all_goals
      have hm9 : (w8.setCell ⟨W2.heap.size, 2, none⟩ (.string (bstr X))).heap[W2.heap.size]? = some (.cells #[.int .i64 s'.err, .int .i64 s'.fault, .string (bstr X), .slice At s'.trace.length ct, i', .int .i64 s'.fuel, r, v, f, nx, nm] 53) := set_cells HM8.out 2 _
      have ho9 : (w8.setCell ⟨W2.heap.size, 2, none⟩ (.string (bstr X))).heap[w.heap.size + 1]? = some zeroO := (set_other _ _ _ _ (Ne.symm HNE.out.2.1)).trans ((HB8.out.block _ (lt_of_heap HM7.out.2)).trans HM7.out.2)
      have hc9 : (w8.setCell ⟨W2.heap.size, 2, none⟩ (.string (bstr X))).cell? ⟨w4.heap.size, 0, none⟩ = some (.pointer (some ⟨W2.heap.size, 0, none⟩)) := by
        have hx := (HB8.out.block _ (lt_of_heap ((HB7.out.block _ (lt_of_heap H6.out.1)).trans H6.out.1))).trans ((HB7.out.block _ (lt_of_heap H6.out.1)).trans H6.out.1)
        rw [Lib.cell_of_heap ((set_other _ _ _ _ HNE.out.2.2).trans hx)]; rfl
      have hrd9 : Rd (w8.setCell ⟨W2.heap.size, 2, none⟩ (.string (bstr X))) 1 At s'.trace.length (strs s'.trace) := rd_keepP (P := fun b => b ≠ W2.heap.size) ((H6.out.2.2.2.1.below HB7.out).below HB8.out) (fun hn a ha => (HTB.out hn a ha).2) (fun b hb _ => set_other _ _ _ _ hb)
      have hbe9 : Below w.heap.size w (w8.setCell ⟨W2.heap.size, 2, none⟩ (.string (bstr X))) := (((H6.out.2.2.2.2.1.trans (HB7.out.mono H6.out.2.2.2.2.1.size)).trans (HB8.out.mono (Nat.le_trans H6.out.2.2.2.2.1.size HB7.out.size))).setCell (p := ⟨W2.heap.size, 2, none⟩) (by show w.heap.size ≤ W2.heap.size; have := HB.out.2.1; omega) _)
      clear c0 m0 m1 m2 m3 c0' m0' m1' m2' m3' zm2 v0 v1 v2 v3 v4 v5
      generalize w8.setCell ⟨W2.heap.size, 2, none⟩ (.string (bstr X)) = w9 at *
      obtain ⟨m0, m1, m2, m3, _⟩ := cells11 hm9
      obtain ⟨y0, y1, y2, y3⟩ := cells4 ho9
      have zo0 := frozenN ho9 0
      have zo1 := frozenN ho9 1
      have zo2 := frozenN ho9 2
      have zo3 := frozenN ho9 3
      have ne2 : ¬ W2.heap.size = w.heap.size + 1 := HNE.out.2.1
      have ne2' : ¬ w.heap.size + 1 = W2.heap.size := Ne.symm HNE.out.2.1
      have H9 := Lib.hid (And.intro ho9 (And.intro hrd9 hbe9))
      clear hm9 ho9 hrd9 hbe9
      go_wp2_with fail
      have hgo : w.heap.size ≤ w.heap.size + 1 := Nat.le_succ _
      exact model_ret H9.out.1 _ _ _ _ _ rfl ⟨n, s', At, ct, X, by rw [HS.out.2.2.2.1], HS.out.1, HS.out.2.1, rd_keepP (P := fun b => b ≠ w.heap.size + 1) H9.out.2.1 (fun hn a ha => (HTB.out hn a ha).1) (fun b hb _ => put4_other _ _ _ _ _ _ hb), H6.out.2.2.2.2.2, HS.out.2.2.1, H9.out.2.2.trans (put4_bel _ hgo _ _ _ _), .inr ⟨HS.out.2.2.2.1, z, HS.out.2.2.2.2.1, HS.out.2.2.2.2.2.symm⟩⟩
end Go.Proofs.YtjmgnohepoacbaaDoor
