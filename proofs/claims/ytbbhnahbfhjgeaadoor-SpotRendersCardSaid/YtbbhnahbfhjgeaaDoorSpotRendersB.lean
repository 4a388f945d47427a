/-
  SpotRenders: the law's walk.
-/
import Derived.Test.YtbbhnahbfhjgeaaDoorRendB
namespace Go.Proofs.YtbbhnahbfhjgeaaDoor
open Go.ChangeShapes Go.WideShapes Go.ChangeAt Go.RowKit Go.Sort
set_option linter.unusedVariables false
set_option linter.unusedSimpArgs false

theorem TChain.more {w : World} {n at_ : Int} {k : Nat} {ty : TypeId} {x : Value} {t : Str} (h : TChain w n at_ k ty x t) (s : Str) : TChain (w.alloc (.cells #[.string (bstr s), .iface ty x] 51)) n at_ (k + 1) 49 (.pointer (some ⟨w.heap.size, 0, none⟩)) (s ++ 58 :: 32 :: t) :=
  .wrap w.heap.size k ty x s t (cell_new w _ _ 0 rfl) (cell_new w _ _ 1 rfl) (h.lower ((Below.refl _ _).alloc (Nat.le_refl _) _))

/-- The error under way, its text, its core. -/
structure Er (w : World) (n p : Int) (sp : Bool) (eb k : Nat) (ty : TypeId) (x : Value) (t : Str) : Prop where
  tc : TChain w n p k ty x t
  wc : if sp = true then WChain w 39 (.pointer (some ⟨eb, 0, none⟩)) k ty x ∧ w.cell? ⟨eb, 0, none⟩ = some (.int .i64 p) else WChain w 28 (.int .i64 n) k ty x
  tl : t.length ≤ 100 + 102 * k
theorem Er.lower {w w' : World} {n p : Int} {sp : Bool} {eb k : Nat} {ty : TypeId} {x : Value} {t : Str} (h : Er w n p sp eb k ty x t) (hb : Below w.heap.size w w') : Er w' n p sp eb k ty x t := by
  refine ⟨h.tc.lower hb, ?_, h.tl⟩
  have h2 := h.wc
  split at h2
  · rename_i e; rw [if_pos e]; exact ⟨h2.1.lower hb, cell_below hb h2.2⟩
  · rename_i e; rw [if_neg e]; exact h2.lower hb
theorem Er.more {w : World} {n p : Int} {sp : Bool} {eb k : Nat} {ty : TypeId} {x : Value} {t : Str} (h : Er w n p sp eb k ty x t) (s : Str) (hs : s.length ≤ 100) : Er (w.alloc (.cells #[.string (bstr s), .iface ty x] 51)) n p sp eb (k + 1) 49 (.pointer (some ⟨w.heap.size, 0, none⟩)) (s ++ 58 :: 32 :: t) := by
  have hb : Below w.heap.size w (w.alloc (.cells #[.string (bstr s), .iface ty x] 51)) := (Below.refl _ _).alloc (Nat.le_refl _) _
  refine ⟨h.tc.more s, ?_, by rw [List.length_append, List.length_cons, List.length_cons]; have := h.tl; omega⟩
  have h2 := h.wc
  split at h2
  · rename_i e; rw [if_pos e]; exact ⟨h2.1.more _, cell_below hb h2.2⟩
  · rename_i e; rw [if_neg e]; exact h2.more _

set_option maxRecDepth 100000 in
set_option maxHeartbeats 2000000 in
theorem renders_true (l : Str) (stages : List Str) (p n : Int) (A B : Option Addr) (c N d : Nat) (w : World) (hL : Lay w) (hr : Rd w 1 A l.length (u8s l)) (hcap : l.length ≤ c) (hcm : c ≤ maxLen) (hs : Rd w 1 B N (strs stages)) (hd : N ≤ d) (hdm : d ≤ maxLen) (hn : inR n) (hp : inR p) :
    Calls Tryd.prog 4 #[.slice A l.length c, .int .i64 p, .int .i64 n, .slice B N d, .bool true] w fun e w' => e = .returned (.bool true) ∧ Below w.heap.size w w' := by
  unfold maxLen at hcm hdm
  have hlen := hs.strN
  subst hlen
  have HL := Lib.hid hL
  have HS := Lib.hid hs
  go_enter Tryd.func4, Tryd.ntmps4
  go_wp2_with fail
  refine (up_any w hL).mono ?_
  rintro e w1 ⟨rfl, hb1⟩
  by_cases hg : 5000 < l.length
  · have hgi : (5000 : Int) < (l.length : Int) := by omega
    clear hs hr hL hg
    go_wp2_with fail
    go_returns
    exact ⟨rfl, hb1⟩
  by_cases hg2 : 20 < stages.length
  · have hgi : ¬ (5000 : Int) < (l.length : Int) := by omega
    have hgj : (20 : Int) < (stages.length : Int) := by omega
    clear hs hr hL hg hg2
    go_wp2_with fail
    go_returns
    exact ⟨rfl, hb1⟩
  have hgi : ¬ (5000 : Int) < (l.length : Int) := by omega
  have hgj : ¬ (20 : Int) < (stages.length : Int) := by omega
  have HR := Lib.hid (And.intro hr (And.intro hcap (And.intro (Nat.le_of_not_lt hg) (And.intro hn hp))))
  have HG := Lib.hid (Nat.le_of_not_lt hg2)
  have HB1 := Lib.hid hb1
  clear hs hr hL hg hg2 hb1 hcap hn hp
  go_wp2_with fail
  refine (codeErr_any n w1 HR.out.2.2.2.1 (HL.out.below HB1.out).tab).mono ?_
  rintro e w2 ⟨rfl, hb2⟩
  have HB2 := Lib.hid (below_then HB1.out hb2)
  clear hb2 HB1
  go_wp2_with fail
  refine (at_any p n w2).mono ?_
  rintro e w3 ⟨rfl, hw3⟩
  have hb3 : Below w2.heap.size w2 w3 := by rw [hw3]; exact (Below.refl _ _).alloc (Nat.le_refl _) _
  have c0 : w3.cell? ⟨w2.heap.size, 0, none⟩ = some (.int .i64 p) := by rw [hw3]; exact cell_new w2 _ _ 0 rfl
  have c1 : w3.cell? ⟨w2.heap.size, 1, none⟩ = some (.int .i64 n) := by rw [hw3]; exact cell_new w2 _ _ 1 rfl
  have htl : (spotT p n).length ≤ 100 + 102 * 0 := by
    have h1 := itoa_len p HR.out.2.2.2.2
    have h2 := codeT_len n HR.out.2.2.2.1
    unfold spotT; rw [List.length_append, List.length_cons, List.length_cons]; omega
  have hE : Er w3 n p true w2.heap.size 0 39 (.pointer (some ⟨w2.heap.size, 0, none⟩)) (spotT p n) := ⟨.spot _ c0 c1, by rw [if_pos rfl]; exact ⟨.core, c0⟩, htl⟩
  have HB3 := Lib.hid (And.intro (below_then HB2.out hb3) hE)
  obtain ⟨eb, heb⟩ : ∃ eb, w2.heap.size = eb := ⟨_, rfl⟩
  rw [heb] at HB3 ⊢
  clear hw3 hb3 c0 c1 htl hE heb
  have HI := Lib.hid (itoa_any p w3 HR.out.2.2.2.2 (HL.out.below HB3.out.1))
  have l1 := itoa_len p HR.out.2.2.2.2
  have l2 := codeT_len n HR.out.2.2.2.1
  have hst : spotT p n = Lib.itoa p ++ 58 :: 32 :: codeT n := rfl
  obtain ⟨I, hI⟩ : ∃ I, Lib.itoa p = I := ⟨_, rfl⟩
  obtain ⟨C, hC⟩ : ∃ C, codeT n = C := ⟨_, rfl⟩
  rw [hI] at HI l1 hst
  rw [hC] at l2 hst ⊢
  rw [hst] at HB3
  have a1 : ∀ w, (Op.stringOp .add (bstr I) ⟨#[58, 32]⟩).run Tryd.prog w = .ok (.string (bstr (I ++ [58, 32]))) w := add_bstr I [58, 32] _ rfl (by show I.length + 2 ≤ _; omega)
  have a2 := add_bstr (I ++ [58, 32]) C (I ++ 58 :: 32 :: C) (by simp) (by rw [List.length_append]; show I.length + 2 + C.length ≤ _; omega)
  clear hI hC l1 l2 hst
  go_wp2_with fail
  refine HI.out.mono ?_
  rintro e w4 ⟨rfl, hb4⟩
  have H4 := Lib.hid (And.intro (below_then HB3.out.1 hb4) (HB3.out.2.lower hb4))
  clear hb4 HB3 HI HB2
  obtain ⟨t0, ht0⟩ : ∃ t0, I ++ 58 :: 32 :: C = t0 := ⟨_, rfl⟩
  rw [ht0] at a2 H4
  go_wp2_with fail
  clear a1 a2 ht0
  go_loopw [12, 13, 14] (fun e tx i wr => ∃ (k : Nat) (ty : TypeId) (x : Value) (t : Str), e = .iface ty x ∧ tx = .string (bstr t) ∧ i = .int .i64 k ∧ k ≤ stages.length ∧ Er wr n p true eb k ty x t ∧ Below w.heap.size w wr) (fun _ _ i _ => stages.length - (intOf i).toNat)
  case atStart => exact ⟨0, _, _, t0, rfl, rfl, rfl, Nat.zero_le _, H4.out.2, H4.out.1⟩
  case round =>
    clear H4
    obtain ⟨k, ty, x, t, rfl, rfl, rfl, hk, hE, hb⟩ := hrel
    have HE := Lib.hid hE
    have HB := Lib.hid hb
    by_cases hlt : k < stages.length
    · clear hE hb
      obtain ⟨bb, oo, rfl, _, hcel⟩ := (HS.out.below HB.out).str (k := k) hlt
      have h1 := hcel k hlt
      obtain ⟨s, hx⟩ : ∃ s, stages[k] = s := ⟨_, rfl⟩
      rw [hx] at h1
      have hki : (k : Int) < (stages.length : Int) := by omega
      have hk5 : (k : Int) ≤ 20 := by have := HG.out; omega
      have hxs := bstr_size s
      clear hcel hx
      by_cases h100 : 100 < s.length
      · have h100i : (100 : Int) < (s.length : Int) := by omega
        clear h100
        go_wp2_with fail
        go_returns
        exact ⟨rfl, HB.out⟩
      · have h100i : ¬ (100 : Int) < (s.length : Int) := by omega
        have H100 := Lib.hid (Nat.le_of_not_lt h100)
        have htl := HE.out.tl
        have hg2 := HG.out
        have a1 : ∀ w, (Op.stringOp .add (bstr s) ⟨#[58, 32]⟩).run Tryd.prog w = .ok (.string (bstr (s ++ [58, 32]))) w := add_bstr s [58, 32] _ rfl (by show s.length + 2 ≤ _; omega)
        have a2 := add_bstr (s ++ [58, 32]) t (s ++ 58 :: 32 :: t) (by simp) (by rw [List.length_append]; show s.length + 2 + t.length ≤ _; omega)
        clear h100 htl hg2
        go_wp2_with fail
        refine (wrap_any _ ty x wr).mono ?_
        rintro e w5 ⟨rfl, hw5⟩
        have hb5 : Below wr.heap.size wr w5 := by rw [hw5]; exact (Below.refl _ _).alloc (Nat.le_refl _) _
        have hE5 := HE.out.more s H100.out
        rw [← hw5] at hE5
        have s5 := cell_below hb5 h1
        have H5 := Lib.hid (And.intro hE5 (below_then HB.out hb5))
        clear hw5 hE5 hb5 h1
        obtain ⟨gb, hgb⟩ : ∃ gb, wr.heap.size = gb := ⟨_, rfl⟩
        rw [hgb] at H5 ⊢
        clear hgb HE HB
        go_wp2_with fail
        go_roundw
        case rel => exact ⟨k + 1, _, _, _, rfl, rfl, by go_num, hlt, H5.out.1, H5.out.2⟩
        case measure => simp [intOf] <;> omega
    · have hki : ¬ (k : Int) < (stages.length : Int) := by omega
      have HK : RowKit.Hid (k ≤ 20) := Lib.hid (by have := HG.out; omega)
      clear hlt hb
      have hwc := hE.wc
      rw [if_pos rfl] at hwc
      obtain ⟨hwc, _⟩ := hwc
      have htc := hE.tc
      clear hE
      cases htc with
      | code => cases hwc
      | spot m g0 g1 =>
        clear hwc g0 g1
        obtain ⟨t, ht⟩ : ∃ t, spotT p n = t := ⟨_, rfl⟩
        rw [ht] at HE ⊢
        clear ht
        have hM := mErrS
        have hin := fun W (hb : Below wr.heap.size wr W) (hL2 : Lay W) => err_any HE.out.tc HR.out.2.2.2.1 HR.out.2.2.2.2 (by have := HE.out.tl; have := HK.out; omega) W hb hL2
        have HIN := Lib.hid hin
        clear hin
        go_wp2_with fail
        refine (HIN.out wr (Below.refl _ _) (HL.out.below HB.out)).mono ?_
        rintro e w2 ⟨rfl, hb2⟩
        have HB2 := Lib.hid (And.intro (below_then HB.out hb2) (HE.out.lower hb2))
        clear hb2 hM
        have htt : ((bstr t).toList != (bstr t).toList) = false := by simp
        have htu : ((bstr t).toList == (bstr t).toList) = true := by simp
        go_wp2_with fail
        refine (refWhere_any A l l.length c p w2 (HR.out.1.below HB2.out.1) HR.out.2.2.1).mono ?_
        rintro e w3 ⟨rfl, rfl⟩
        have hV : whereV l p = .tuple #[.int .i64 ((lineF (l.take (ahead l.length p)) : Nat) : Int), .int .i64 ((colF (l.take (ahead l.length p)) : Nat) : Int)] := rfl
        have hl1 : inR ((lineF (l.take (ahead l.length p)) : Nat) : Int) := inR_nat _ (Nat.le_trans (lineF_le _) (by have := List.length_take_le (ahead l.length p) l; have := HR.out.2.2.1; have := List.length_take_le' (ahead l.length p) l; omega))
        have hl2 : inR ((colF (l.take (ahead l.length p)) : Nat) : Int) := inR_nat _ (Nat.le_trans (colF_le _) (by have := HR.out.2.2.1; have := List.length_take_le' (ahead l.length p) l; omega))
        obtain ⟨ln, hln⟩ : ∃ ln : Int, ((lineF (l.take (ahead l.length p)) : Nat) : Int) = ln := ⟨_, rfl⟩
        obtain ⟨cl, hcl⟩ : ∃ cl : Int, ((colF (l.take (ahead l.length p)) : Nat) : Int) = cl := ⟨_, rfl⟩
        rw [hln] at hV hl1
        rw [hcl] at hV hl2
        rw [hV]
        have HV := Lib.hid (And.intro hV (And.intro hl1 hl2))
        have l1 := itoa_len ln hl1
        have l2 := itoa_len cl hl2
        clear hln hcl hV hl1 hl2
        go_wp2_with fail
        refine (itoa_any ln _ HV.out.2.1 (HL.out.below HB2.out.1)).mono ?_
        rintro e w4 ⟨rfl, hb4⟩
        have HB4 := Lib.hid (And.intro (below_then HB2.out.1 hb4) (HB2.out.2.lower hb4))
        clear hb4 HB2
        have hrd : rendT ln cl t = Lib.itoa ln ++ 58 :: (Lib.itoa cl ++ 58 :: 32 :: t) := rfl
        obtain ⟨I, hI⟩ : ∃ I, Lib.itoa ln = I := ⟨_, rfl⟩
        obtain ⟨J, hJ⟩ : ∃ J, Lib.itoa cl = J := ⟨_, rfl⟩
        rw [hI] at l1 hrd ⊢
        rw [hJ] at l2 hrd
        have htl : t.length ≤ 3000 := by have := HE.out.tl; have := HK.out; omega
        have a1 : ∀ w, (Op.stringOp .add (bstr I) ⟨#[58]⟩).run Tryd.prog w = .ok (.string (bstr (I ++ [58]))) w := add_bstr I [58] _ rfl (by show I.length + 1 ≤ _; omega)
        have a2 := add_bstr (I ++ [58]) J (I ++ 58 :: J) (by simp) (by rw [List.length_append]; show I.length + 1 + J.length ≤ _; omega)
        have a3 : ∀ w, (Op.stringOp .add (bstr (I ++ 58 :: J)) ⟨#[58, 32]⟩).run Tryd.prog w = .ok (.string (bstr (I ++ 58 :: (J ++ [58, 32])))) w := add_bstr (I ++ 58 :: J) [58, 32] _ (by simp) (by rw [List.length_append, List.length_cons]; show I.length + (J.length + 1) + 2 ≤ _; omega)
        have a4 := add_bstr (I ++ 58 :: (J ++ [58, 32])) t (I ++ 58 :: (J ++ 58 :: 32 :: t)) (by simp) (by rw [List.length_append, List.length_cons, List.length_append]; show I.length + (J.length + 2 + 1) + t.length ≤ _; omega)
        have HJ := Lib.hid (And.intro hJ hrd)
        clear hI hJ hrd l1 l2 htl
        go_wp2_with fail
        refine (itoa_any cl w4 HV.out.2.2 (HL.out.below HB4.out.1)).mono ?_
        rw [HJ.out.1]
        rintro e w5 ⟨rfl, hb5⟩
        have HB5 := Lib.hid (And.intro (below_then HB4.out.1 hb5) (HB4.out.2.lower hb5))
        clear hb5 HB4
        go_wp2_with fail
        have hwc := HB5.out.2.wc
        rw [if_pos rfl] at hwc
        refine (render_spot A l c w5 HB5.out.2.tc hwc.1 (by have := HK.out; omega) hwc.2 HR.out.2.2.2.1 HR.out.2.2.2.2 (by have := HB5.out.2.tl; have := HK.out; omega) (HL.out.below HB5.out.1) (HR.out.1.below HB5.out.1) HR.out.2.1 HR.out.2.2.1 ln cl HV.out.1 HV.out.2.1 HV.out.2.2).mono ?_
        rw [HJ.out.2]
        rintro e w6 ⟨rfl, hb6⟩
        have HB6 := Lib.hid (below_then HB5.out.1 hb6)
        clear hb6 HB5 hwc a1 a2 a3 a4
        have hru : ((bstr (I ++ 58 :: (J ++ 58 :: 32 :: t))).toList == (bstr (I ++ 58 :: (J ++ 58 :: 32 :: t))).toList) = true := by simp
        go_wp2_with fail
        go_returns
        exact ⟨rfl, HB6.out⟩
      | wrap m k2 ty2 x2 s2 t2 g0 g1 g3 =>
        clear hwc g0 g1 g3
        obtain ⟨t, ht⟩ : ∃ t, s2 ++ 58 :: 32 :: t2 = t := ⟨_, rfl⟩
        rw [ht] at HE ⊢
        clear ht
        have hM := mErrW
        have hin := fun W (hb : Below wr.heap.size wr W) (hL2 : Lay W) => err_any HE.out.tc HR.out.2.2.2.1 HR.out.2.2.2.2 (by have := HE.out.tl; have := HK.out; omega) W hb hL2
        have HIN := Lib.hid hin
        clear hin
        go_wp2_with fail
        refine (HIN.out wr (Below.refl _ _) (HL.out.below HB.out)).mono ?_
        rintro e w2 ⟨rfl, hb2⟩
        have HB2 := Lib.hid (And.intro (below_then HB.out hb2) (HE.out.lower hb2))
        clear hb2 hM
        have htt : ((bstr t).toList != (bstr t).toList) = false := by simp
        have htu : ((bstr t).toList == (bstr t).toList) = true := by simp
        go_wp2_with fail
        refine (refWhere_any A l l.length c p w2 (HR.out.1.below HB2.out.1) HR.out.2.2.1).mono ?_
        rintro e w3 ⟨rfl, rfl⟩
        have hV : whereV l p = .tuple #[.int .i64 ((lineF (l.take (ahead l.length p)) : Nat) : Int), .int .i64 ((colF (l.take (ahead l.length p)) : Nat) : Int)] := rfl
        have hl1 : inR ((lineF (l.take (ahead l.length p)) : Nat) : Int) := inR_nat _ (Nat.le_trans (lineF_le _) (by have := List.length_take_le (ahead l.length p) l; have := HR.out.2.2.1; have := List.length_take_le' (ahead l.length p) l; omega))
        have hl2 : inR ((colF (l.take (ahead l.length p)) : Nat) : Int) := inR_nat _ (Nat.le_trans (colF_le _) (by have := HR.out.2.2.1; have := List.length_take_le' (ahead l.length p) l; omega))
        obtain ⟨ln, hln⟩ : ∃ ln : Int, ((lineF (l.take (ahead l.length p)) : Nat) : Int) = ln := ⟨_, rfl⟩
        obtain ⟨cl, hcl⟩ : ∃ cl : Int, ((colF (l.take (ahead l.length p)) : Nat) : Int) = cl := ⟨_, rfl⟩
        rw [hln] at hV hl1
        rw [hcl] at hV hl2
        rw [hV]
        have HV := Lib.hid (And.intro hV (And.intro hl1 hl2))
        have l1 := itoa_len ln hl1
        have l2 := itoa_len cl hl2
        clear hln hcl hV hl1 hl2
        go_wp2_with fail
        refine (itoa_any ln _ HV.out.2.1 (HL.out.below HB2.out.1)).mono ?_
        rintro e w4 ⟨rfl, hb4⟩
        have HB4 := Lib.hid (And.intro (below_then HB2.out.1 hb4) (HB2.out.2.lower hb4))
        clear hb4 HB2
        have hrd : rendT ln cl t = Lib.itoa ln ++ 58 :: (Lib.itoa cl ++ 58 :: 32 :: t) := rfl
        obtain ⟨I, hI⟩ : ∃ I, Lib.itoa ln = I := ⟨_, rfl⟩
        obtain ⟨J, hJ⟩ : ∃ J, Lib.itoa cl = J := ⟨_, rfl⟩
        rw [hI] at l1 hrd ⊢
        rw [hJ] at l2 hrd
        have htl : t.length ≤ 3000 := by have := HE.out.tl; have := HK.out; omega
        have a1 : ∀ w, (Op.stringOp .add (bstr I) ⟨#[58]⟩).run Tryd.prog w = .ok (.string (bstr (I ++ [58]))) w := add_bstr I [58] _ rfl (by show I.length + 1 ≤ _; omega)
        have a2 := add_bstr (I ++ [58]) J (I ++ 58 :: J) (by simp) (by rw [List.length_append]; show I.length + 1 + J.length ≤ _; omega)
        have a3 : ∀ w, (Op.stringOp .add (bstr (I ++ 58 :: J)) ⟨#[58, 32]⟩).run Tryd.prog w = .ok (.string (bstr (I ++ 58 :: (J ++ [58, 32])))) w := add_bstr (I ++ 58 :: J) [58, 32] _ (by simp) (by rw [List.length_append, List.length_cons]; show I.length + (J.length + 1) + 2 ≤ _; omega)
        have a4 := add_bstr (I ++ 58 :: (J ++ [58, 32])) t (I ++ 58 :: (J ++ 58 :: 32 :: t)) (by simp) (by rw [List.length_append, List.length_cons, List.length_append]; show I.length + (J.length + 2 + 1) + t.length ≤ _; omega)
        have HJ := Lib.hid (And.intro hJ hrd)
        clear hI hJ hrd l1 l2 htl
        go_wp2_with fail
        refine (itoa_any cl w4 HV.out.2.2 (HL.out.below HB4.out.1)).mono ?_
        rw [HJ.out.1]
        rintro e w5 ⟨rfl, hb5⟩
        have HB5 := Lib.hid (And.intro (below_then HB4.out.1 hb5) (HB4.out.2.lower hb5))
        clear hb5 HB4
        go_wp2_with fail
        have hwc := HB5.out.2.wc
        rw [if_pos rfl] at hwc
        refine (render_spot A l c w5 HB5.out.2.tc hwc.1 (by have := HK.out; omega) hwc.2 HR.out.2.2.2.1 HR.out.2.2.2.2 (by have := HB5.out.2.tl; have := HK.out; omega) (HL.out.below HB5.out.1) (HR.out.1.below HB5.out.1) HR.out.2.1 HR.out.2.2.1 ln cl HV.out.1 HV.out.2.1 HV.out.2.2).mono ?_
        rw [HJ.out.2]
        rintro e w6 ⟨rfl, hb6⟩
        have HB6 := Lib.hid (below_then HB5.out.1 hb6)
        clear hb6 HB5 hwc a1 a2 a3 a4
        have hru : ((bstr (I ++ 58 :: (J ++ 58 :: 32 :: t))).toList == (bstr (I ++ 58 :: (J ++ 58 :: 32 :: t))).toList) = true := by simp
        go_wp2_with fail
        go_returns
        exact ⟨rfl, HB6.out⟩

set_option maxRecDepth 100000 in
set_option maxHeartbeats 2000000 in
theorem renders_false (l : Str) (stages : List Str) (p n : Int) (A B : Option Addr) (c N d : Nat) (w : World) (hL : Lay w) (hr : Rd w 1 A l.length (u8s l)) (hcap : l.length ≤ c) (hcm : c ≤ maxLen) (hs : Rd w 1 B N (strs stages)) (hd : N ≤ d) (hdm : d ≤ maxLen) (hn : inR n) (hp : inR p) :
    Calls Tryd.prog 4 #[.slice A l.length c, .int .i64 p, .int .i64 n, .slice B N d, .bool false] w fun e w' => e = .returned (.bool true) ∧ Below w.heap.size w w' := by
  unfold maxLen at hcm hdm
  have hlen := hs.strN
  subst hlen
  have HL := Lib.hid hL
  have HS := Lib.hid hs
  go_enter Tryd.func4, Tryd.ntmps4
  go_wp2_with fail
  refine (up_any w hL).mono ?_
  rintro e w1 ⟨rfl, hb1⟩
  by_cases hg : 5000 < l.length
  · have hgi : (5000 : Int) < (l.length : Int) := by omega
    clear hs hr hL hg
    go_wp2_with fail
    go_returns
    exact ⟨rfl, hb1⟩
  by_cases hg2 : 20 < stages.length
  · have hgi : ¬ (5000 : Int) < (l.length : Int) := by omega
    have hgj : (20 : Int) < (stages.length : Int) := by omega
    clear hs hr hL hg hg2
    go_wp2_with fail
    go_returns
    exact ⟨rfl, hb1⟩
  have hgi : ¬ (5000 : Int) < (l.length : Int) := by omega
  have hgj : ¬ (20 : Int) < (stages.length : Int) := by omega
  have HR := Lib.hid (And.intro hr (And.intro hcap (And.intro (Nat.le_of_not_lt hg) (And.intro hn hp))))
  have HG := Lib.hid (Nat.le_of_not_lt hg2)
  have HB1 := Lib.hid hb1
  clear hs hr hL hg hg2 hb1 hcap hn hp
  go_wp2_with fail
  refine (codeErr_any n w1 HR.out.2.2.2.1 (HL.out.below HB1.out).tab).mono ?_
  rintro e w2 ⟨rfl, hb2⟩
  have HB2 := Lib.hid (below_then HB1.out hb2)
  clear hb2 HB1
  have htl : (codeT n).length ≤ 100 + 102 * 0 := by
    have h2 := codeT_len n HR.out.2.2.2.1
    omega
  have hE : Er w2 n p false 0 0 28 (.int .i64 n) (codeT n) := ⟨.code, by rw [if_neg (by simp)]; exact .core, htl⟩
  have H4 := Lib.hid (And.intro HB2.out hE)
  clear htl hE HB2
  obtain ⟨t0, ht0⟩ : ∃ t0, codeT n = t0 := ⟨_, rfl⟩
  rw [ht0] at H4 ⊢
  clear ht0
  obtain ⟨eb, heb⟩ : ∃ eb, 0 = eb := ⟨_, rfl⟩
  have H4 : RowKit.Hid (Below w.heap.size w w2 ∧ Er w2 n p false eb 0 28 (.int .i64 n) t0) := by rw [← heb]; exact H4
  clear heb
  go_wp2_with fail
  go_loopw [12, 13, 14] (fun e tx i wr => ∃ (k : Nat) (ty : TypeId) (x : Value) (t : Str), e = .iface ty x ∧ tx = .string (bstr t) ∧ i = .int .i64 k ∧ k ≤ stages.length ∧ Er wr n p false eb k ty x t ∧ Below w.heap.size w wr) (fun _ _ i _ => stages.length - (intOf i).toNat)
  case atStart => exact ⟨0, _, _, t0, rfl, rfl, rfl, Nat.zero_le _, H4.out.2, H4.out.1⟩
  case round =>
    clear H4
    obtain ⟨k, ty, x, t, rfl, rfl, rfl, hk, hE, hb⟩ := hrel
    have HE := Lib.hid hE
    have HB := Lib.hid hb
    by_cases hlt : k < stages.length
    · clear hE hb
      obtain ⟨bb, oo, rfl, _, hcel⟩ := (HS.out.below HB.out).str (k := k) hlt
      have h1 := hcel k hlt
      obtain ⟨s, hx⟩ : ∃ s, stages[k] = s := ⟨_, rfl⟩
      rw [hx] at h1
      have hki : (k : Int) < (stages.length : Int) := by omega
      have hk5 : (k : Int) ≤ 20 := by have := HG.out; omega
      have hxs := bstr_size s
      clear hcel hx
      by_cases h100 : 100 < s.length
      · have h100i : (100 : Int) < (s.length : Int) := by omega
        clear h100
        go_wp2_with fail
        go_returns
        exact ⟨rfl, HB.out⟩
      · have h100i : ¬ (100 : Int) < (s.length : Int) := by omega
        have H100 := Lib.hid (Nat.le_of_not_lt h100)
        have htl := HE.out.tl
        have hg2 := HG.out
        have a1 : ∀ w, (Op.stringOp .add (bstr s) ⟨#[58, 32]⟩).run Tryd.prog w = .ok (.string (bstr (s ++ [58, 32]))) w := add_bstr s [58, 32] _ rfl (by show s.length + 2 ≤ _; omega)
        have a2 := add_bstr (s ++ [58, 32]) t (s ++ 58 :: 32 :: t) (by simp) (by rw [List.length_append]; show s.length + 2 + t.length ≤ _; omega)
        clear h100 htl hg2
        go_wp2_with fail
        refine (wrap_any _ ty x wr).mono ?_
        rintro e w5 ⟨rfl, hw5⟩
        have hb5 : Below wr.heap.size wr w5 := by rw [hw5]; exact (Below.refl _ _).alloc (Nat.le_refl _) _
        have hE5 := HE.out.more s H100.out
        rw [← hw5] at hE5
        have s5 := cell_below hb5 h1
        have H5 := Lib.hid (And.intro hE5 (below_then HB.out hb5))
        clear hw5 hE5 hb5 h1
        obtain ⟨gb, hgb⟩ : ∃ gb, wr.heap.size = gb := ⟨_, rfl⟩
        rw [hgb] at H5 ⊢
        clear hgb HE HB
        go_wp2_with fail
        go_roundw
        case rel => exact ⟨k + 1, _, _, _, rfl, rfl, by go_num, hlt, H5.out.1, H5.out.2⟩
        case measure => simp [intOf] <;> omega
    · have hki : ¬ (k : Int) < (stages.length : Int) := by omega
      have HK : RowKit.Hid (k ≤ 20) := Lib.hid (by have := HG.out; omega)
      clear hlt hb
      have hwc := hE.wc
      rw [if_neg (by simp)] at hwc
      have htc := hE.tc
      clear hE
      cases htc with
      | code =>
        clear hwc
        obtain ⟨t, ht⟩ : ∃ t, codeT n = t := ⟨_, rfl⟩
        rw [ht] at HE ⊢
        clear ht
        have hM := mErrC
        have hin := fun W (hb : Below wr.heap.size wr W) (hL2 : Lay W) => err_any HE.out.tc HR.out.2.2.2.1 HR.out.2.2.2.2 (by have := HE.out.tl; have := HK.out; omega) W hb hL2
        have HIN := Lib.hid hin
        clear hin
        go_wp2_with fail
        refine (HIN.out wr (Below.refl _ _) (HL.out.below HB.out)).mono ?_
        rintro e w2 ⟨rfl, hb2⟩
        have HB2 := Lib.hid (And.intro (below_then HB.out hb2) (HE.out.lower hb2))
        clear hb2 hM
        have htt : ((bstr t).toList != (bstr t).toList) = false := by simp
        have htu : ((bstr t).toList == (bstr t).toList) = true := by simp
        go_wp2_with fail
        have hwc := HB2.out.2.wc
        rw [if_neg (by simp)] at hwc
        refine (render_code _ w2 HB2.out.2.tc hwc (by have := HK.out; omega) HR.out.2.2.2.1 HR.out.2.2.2.2 (by have := HE.out.tl; have := HK.out; omega) (HL.out.below HB2.out.1)).mono ?_
        rintro e w6 ⟨rfl, hb6⟩
        have HB6 := Lib.hid (below_then HB2.out.1 hb6)
        clear hb6 HB2 hwc
        go_wp2_with fail
        go_returns
        exact ⟨rfl, HB6.out⟩
      | spot m g0 g1 => cases hwc
      | wrap m k2 ty2 x2 s2 t2 g0 g1 g3 =>
        clear hwc g0 g1 g3
        obtain ⟨t, ht⟩ : ∃ t, s2 ++ 58 :: 32 :: t2 = t := ⟨_, rfl⟩
        rw [ht] at HE ⊢
        clear ht
        have hM := mErrW
        have hin := fun W (hb : Below wr.heap.size wr W) (hL2 : Lay W) => err_any HE.out.tc HR.out.2.2.2.1 HR.out.2.2.2.2 (by have := HE.out.tl; have := HK.out; omega) W hb hL2
        have HIN := Lib.hid hin
        clear hin
        go_wp2_with fail
        refine (HIN.out wr (Below.refl _ _) (HL.out.below HB.out)).mono ?_
        rintro e w2 ⟨rfl, hb2⟩
        have HB2 := Lib.hid (And.intro (below_then HB.out hb2) (HE.out.lower hb2))
        clear hb2 hM
        have htt : ((bstr t).toList != (bstr t).toList) = false := by simp
        have htu : ((bstr t).toList == (bstr t).toList) = true := by simp
        go_wp2_with fail
        have hwc := HB2.out.2.wc
        rw [if_neg (by simp)] at hwc
        refine (render_code _ w2 HB2.out.2.tc hwc (by have := HK.out; omega) HR.out.2.2.2.1 HR.out.2.2.2.2 (by have := HE.out.tl; have := HK.out; omega) (HL.out.below HB2.out.1)).mono ?_
        rintro e w6 ⟨rfl, hb6⟩
        have HB6 := Lib.hid (below_then HB2.out.1 hb6)
        clear hb6 HB2 hwc
        go_wp2_with fail
        go_returns
        exact ⟨rfl, HB6.out⟩

theorem inR_wf {n : Int} (h : (Lit.int .i64 n).wf = true) : inR n := by
  have hr : -9223372036854775808 ≤ n ∧ n ≤ 9223372036854775807 := by simpa [Lit.wf, IntKind.min, IntKind.max, IntKind.signed, IntKind.bits] using h
  exact hr
theorem renders_any (l : Str) (stages : List Str) (p n : Int) (A B : Option Addr) (m c N d : Nat) (sp : Bool) (w : World) (hL : Lay w) (hr : Rd w 1 A m (u8s l)) (hcap : m ≤ c) (hcm : c ≤ maxLen) (hs : Rd w 1 B N (strs stages)) (hd : N ≤ d) (hdm : d ≤ maxLen) (hp : (Lit.int .i64 p).wf = true) (hn : (Lit.int .i64 n).wf = true) :
    Calls Tryd.prog 4 #[.slice A m c, .int .i64 p, .int .i64 n, .slice B N d, .bool sp] w fun e w' => e = .returned (.bool true) ∧ Below w.heap.size w w' := by
  have hm := hr.bytesN
  subst hm
  cases sp with
  | true => exact renders_true l stages p n A B c N d w hL hr hcap hcm hs hd hdm (inR_wf hn) (inR_wf hp)
  | false => exact renders_false l stages p n A B c N d w hL hr hcap hcm hs hd hdm (inR_wf hn) (inR_wf hp)
end Go.Proofs.YtbbhnahbfhjgeaaDoor
