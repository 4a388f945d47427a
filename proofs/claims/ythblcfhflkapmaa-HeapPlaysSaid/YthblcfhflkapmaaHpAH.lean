/-
  The heap: Make, where it is collected.
-/
import Derived.Test.YthblcfhflkapmaaHpAG
namespace Go.Proofs.Ythblcfhflkapmaa
open Go Go.ChangeShapes Go.WideShapes Go.ChangeAt Go.RowKit Go.Sort
set_option linter.unusedVariables false
set_option linter.unusedSimpArgs false

section
variable {w w' : World} {B hb : Nat} {size runs : Int} {L : List Ob} {V G V' G' V1 G1 : Value} {roots l : List Wd}
/-- A row beside the heap was written. -/
theorem CH.beside (h : CH w B hb size runs L V G V' G') {x : Value} (hk : ∀ b, some b ≠ x.ownBlock → w'.heap[b]? = w.heap[b]?) (hn : ∀ g, x.ownBlock = some g → Nh hb V G V' G' g) : CH w' B hb size runs L V G V' G' ∧ Tr w (fun b => Nh hb V G V' G' b ∧ some b ≠ x.ownBlock) w' (fun b => Nh hb V G V' G' b ∧ some b ≠ x.ownBlock) := by
  have hx : ∀ b, ¬ Nh hb V G V' G' b → w'.heap[b]? = w.heap[b]? := fun b hb' => hk b (fun e => hb' (hn b e.symm))
  obtain ⟨n1, x1, s1⟩ := h.sw
  obtain ⟨n2, x2, s2⟩ := h.sg
  refine ⟨⟨(hx hb (fun e => e.1 rfl)).trans h.hd, own_keep h.fw (fun g hg _ => hx g (fun e => e.2.1 hg.symm)), own_keep h.fg (fun g hg _ => hx g (fun e => e.2.2.1 hg.symm)), ⟨n1, x1, own_keep s1 (fun g hg _ => hx g (fun e => e.2.2.2.1 hg.symm))⟩, ⟨n2, x2, own_keep s2 (fun g hg _ => hx g (fun e => e.2.2.2.2 hg.symm))⟩, h.dw, h.dg, h.ge⟩, fun b hb' _ => ⟨hb', hk b hb'.2⟩⟩
set_option maxRecDepth 100000 in
set_option maxHeartbeats 8000000 in
theorem Make_coll (h : CH w B hb size runs L V G V' G') (hW : Wf L) (hBw : B ≤ w.heap.size) (hs : sizes L ≤ 4000000) (hz : -4000000 ≤ size ∧ size ≤ 4000000) (hru : 0 ≤ runs ∧ runs ≤ 4000000) (k : Int) (hk : headOk k (l.length : Nat)) (A1 A2 : Option Addr) (c1 c2 : Nat) (hl : Rd w 2 A1 l.length (wcells l)) (hr : Rd w 2 A2 roots.length (wcells roots)) (hrm : roots.length ≤ 1000000) (hf1 : ∀ u ∈ l, Fine L u) (hf2 : ∀ u ∈ roots, Fine L u) (hroom : ¬ (l.length : Int) < size - sizes L) :
    Calls Try.prog 9 #[.pointer (some ⟨hb, 0, none⟩), .int .i64 k, .slice A1 l.length c1, .slice A2 roots.length c2] w fun e w' => ∃ vl vr V1 G1 V1' G1' L', CH w' B hb size (runs + 1) L' V1 G1 V1' G1' ∧
      (((l.length : Int) < size - sizes (collO L (roots ++ l)) ∧ e = .returned (.tuple #[.int .i64 (sizes (collO L (roots ++ l)) : Nat), vl, vr, .nilIface]) ∧ L' = collO L (roots ++ l) ++ [(k, (collR L (roots ++ l)).drop roots.length)]) ∨
       (¬ (l.length : Int) < size - sizes (collO L (roots ++ l)) ∧ e = .returned (.tuple #[.int .i64 0, vl, vr, .iface 29 (.int .i64 7)]) ∧ L' = collO L (roots ++ l))) ∧
      (w'.ownsRow B WTy 2 vl l.length (wcells ((collR L (roots ++ l)).drop roots.length)) ∧ w'.ownsRow B WTy 2 vr roots.length (wcells ((collR L (roots ++ l)).take roots.length))) ∧ (∀ g, (vl.ownBlock = some g ∨ vr.ownBlock = some g) → Nh hb V1 G1 V1' G1' g ∧ w.heap.size ≤ g) ∧ Tr w (Nh hb V G V' G') w' (Nh hb V1 G1 V1' G1') ∧ Below B w w' := by
  have hlm : l.length ≤ 4000 := by have := hk.2.2.2; omega
  have HH := Lib.hid (head_yes k (l.length : Nat) hk)
  have HF1 := Lib.hid (fun (V1 : World) (hb1 : Below w.heap.size w V1) => fine_any (h.below hb1) hs A1 l c1 (hl.below hb1) (by omega))
  have HF2 := Lib.hid (fun (V1 : World) (hb1 : Below w.heap.size w V1) => fine_any (h.below hb1) hs A2 roots c2 (hr.below hb1) (by omega))
  rw [all_fine hf1] at HF1
  rw [all_fine hf2] at HF2
  have HC1 := Lib.hid (fun (V1 : World) (hb1 : Below w.heap.size w V1) => wclone_any V1 A1 l c1 (hl.below hb1) (by omega))
  have HC2 := Lib.hid (fun (V1 : World) (hb1 : Below w.heap.size w V1) => wclone_any V1 A2 roots c2 (hr.below hb1) (by omega))
  have HRM := Lib.hid (fun (V1 : World) (hb1 : Below w.heap.size w V1) => hasRoom_any (h.below hb1) hs hz (l.length : Nat))
  rw [decide_eq_false hroom] at HRM
  have hfa : ∀ u ∈ roots ++ l, Fine L u := fun u hu => (List.mem_append.1 hu).elim (hf2 u) (hf1 u)
  have hML : (roots ++ l).length = roots.length + l.length := List.length_append
  obtain ⟨M, hM⟩ : ∃ M, roots ++ l = M := ⟨_, rfl⟩
  have HM := Lib.hid hM
  rw [hM] at hfa hML ⊢
  have HX := Lib.hid (And.intro h (And.intro hBw (And.intro hs (And.intro hlm (And.intro hW (And.intro hz (And.intro hru (And.intro hrm (And.intro hfa hML)))))))))
  clear h hs hk hl hr hrm hlm hBw hz hf1 hf2 hroom hW hru hfa hML hM
  go_enter Try.func9, Try.ntmps9
  go_upto_region 2 with (go_at_call 28; (with_reducible refine (HH.out _).mono ?_); rintro e w1 ⟨rfl, hb1⟩; have HB := Lib.hid hb1; clear hb1)
  have HB1 := Lib.hid (HB.out.alloc HB.out.size (.cells #[.bool false, .int .i64 (16 * (l.length : Int) + k)] 36))
  have HX1 := Lib.hid (show (w1.alloc (.cells #[.bool false, .int .i64 (16 * (l.length : Int) + k)] 36)).heap[w1.heap.size]? = some (.cells #[.bool false, .int .i64 (16 * (l.length : Int) + k)] 36) from heap_new rfl)
  have HZ1 := Lib.hid HB.out.size
  generalize w1.alloc (.cells #[.bool false, .int .i64 (16 * (l.length : Int) + k)] 36) = w2 at *
  go_upto_region 4 with (first
    | (go_at_call 29; (with_reducible refine (HF1.out _ HB1.out).mono ?_); rintro e w3 ⟨rfl, hb3⟩; have HB3 := Lib.hid (And.intro (below_then HB1.out hb3) hb3); clear hb3)
    | (go_at_call 29; (with_reducible refine (HF2.out _ HB3.out.1).mono ?_); rintro e w4 ⟨rfl, hb4⟩; have HB4 := Lib.hid (And.intro (below_then HB3.out.1 hb4) (below_then HB3.out.2 hb4)); clear hb4))
  go_upto_region 5 with (first
    | (go_at_call 30; (with_reducible refine (HC1.out _ HB4.out.1).mono ?_); rintro e w5 ⟨vl, rfl, ho5, hb5⟩; have H45 := Lib.hid hb5.size; have H5 := Lib.hid (And.intro ho5 (And.intro (below_then HB4.out.1 hb5) (below_then HB4.out.2 hb5))); clear ho5 hb5)
    | (go_at_call 30; (with_reducible refine (HC2.out _ H5.out.2.1).mono ?_); rintro e w6 ⟨vr, rfl, ho6, hb6⟩; have H6 := Lib.hid (And.intro (own_below H5.out.1 hb6) (And.intro ho6 (And.intro (below_then H5.out.2.1 hb6) (below_then H5.out.2.2 hb6)))); clear ho6 hb6))
  obtain ⟨Al, cl, rfl, _⟩ := own_cap H6.out.1
  obtain ⟨Ar, cr, rfl, _⟩ := own_cap H6.out.2.1
  go_upto_region 6 with (go_at_call 31; (with_reducible refine (HRM.out _ H6.out.2.2.1).mono ?_); rintro e w7 ⟨rfl, hb7⟩; have H7 := Lib.hid (And.intro (below_then H6.out.2.2.1 hb7) hb7); clear hb7)
  have hba : Below w7.heap.size w7 (w7.alloc (.cells #[.slice Ar roots.length cr, .slice Al l.length cl] 34)) := (Below.refl _ _).alloc (Nat.le_refl _) _
  have HCA := Lib.hid (wconcat_any (w7.alloc (.cells #[.slice Ar roots.length cr, .slice Al l.length cl] 34)) roots l Ar Al cr cl w7.heap.size (heap_new rfl) ((Rd.of_own H6.out.2.1).below (below_then H7.out.2 hba)) ((Rd.of_own H6.out.1).below (below_then H7.out.2 hba)) (by have := HX.out.2.2.2.1; have := HX.out.2.2.2.2.2.2.2.1; omega))
  have HBA := Lib.hid (And.intro (below_then H7.out.1 hba) (below_then H7.out.2 hba))
  clear hba
  go_upto_region 7 with (first
    | (go_at_call 33; (with_reducible refine HCA.out.mono ?_); rintro e w9 ⟨v0, rfl, ho9, hb9⟩; rw [HM.out, ← HX.out.2.2.2.2.2.2.2.2.2] at ho9; obtain ⟨A0, c0, rfl, _⟩ := own_cap ho9; have H9 := Lib.hid (And.intro (below_then HBA.out.1 hb9) (And.intro (below_then HBA.out.2 hb9) (collect_any (HX.out.1.below (below_then HBA.out.1 hb9)) HX.out.2.2.2.2.1 HX.out.2.2.1 (Nat.le_trans HX.out.2.1 (below_then HBA.out.1 hb9).size) HX.out.2.2.2.2.2.2.1 A0 c0 (Rd.of_own ho9) HX.out.2.2.2.2.2.2.2.2.1 (by rw [HX.out.2.2.2.2.2.2.2.2.2]; have := HX.out.2.2.2.1; have := HX.out.2.2.2.2.2.2.2.1; omega)))); clear ho9 hb9)
    | (go_at_call 32; (with_reducible refine H9.out.2.2.mono ?_); rintro e w10 ⟨v, V1, G1, V1', G1', rfl, q1, q2, q3, q4, q5⟩; have H10 := Lib.hid (And.intro q1 (And.intro q2 (And.intro q3 (And.intro q4 q5)))); clear q1 q2 q3 q4 q5))
  -- the rows beside the heap
  have hfr : ∀ (S : Nat) (x : Value) (m : Nat) (xs : List Value), w6.ownsRow S WTy 2 x m xs → w.heap.size ≤ S → w10.ownsRow S WTy 2 x m xs ∧ ∀ g, x.ownBlock = some g → Nh hb V1 G1 V1' G1' g ∧ S ≤ g ∧ g < w6.heap.size := fun S x m xs ho hS => by
    have ho9 := own_below ho H9.out.2.1
    have h1 : ∀ g, x.ownBlock = some g → Nh hb V G V' G' g := fun g hg => HX.out.1.fresh (Nat.le_trans hS (ho.lt g hg).1)
    exact ⟨own_keep ho9 (fun g hg hl => (H10.out.2.2.2.1 g (h1 g hg) hl).2), fun g hg => ⟨(H10.out.2.2.2.1 g (h1 g hg) (ho9.lt g hg).2).1, (ho.lt g hg).1, (ho.lt g hg).2⟩⟩
  obtain ⟨hr10, hrn⟩ := hfr _ _ _ _ H6.out.2.1 H5.out.2.1.size
  obtain ⟨hl10, hln⟩ := hfr _ _ _ _ H6.out.1 HB4.out.1.size
  have hv10 := H10.out.2.1
  obtain ⟨Av, cv, rfl, hcv1, hcv2, hcvn⟩ := own_cap hv10
  have hML := HX.out.2.2.2.2.2.2.2.2.2
  have hM2 : (collR L M).length = M.length := by unfold collR; rw [List.length_map]
  have h69 := H9.out.2.1.size
  obtain ⟨w11, hrun1, ho11, hk11, hs11, hb11⟩ := run_copy_own elWord w10 3 hr10 Av M.length cv (wcells (collR L M)) (Rd.of_own hv10) (by omega) (wcells_ones _)
  have hch11 := H10.out.1.beside hk11 (fun g hg => (hrn g hg).1)
  have hv11 : w11.ownsRow B WTy 2 (.slice Av M.length cv) M.length (wcells (collR L M)) := own_keep hv10 (fun g hg _ => hk11 g (fun e => by have h1 := (hrn g e.symm).2.2; have h2 := (H10.out.2.2.1 g hg).2; omega))
  have hl11 := own_keep (w' := w11) hl10 (fun g hg _ => hk11 g (fun e => by have h1 := (hrn g e.symm).2.1; have h2 := (H5.out.1.lt g hg).2; omega))
  rw [show (wcells (collR L M)).take (roots.length * 2) = wcells ((collR L M).take roots.length) from by have := wcells_cut (collR L M) 0 roots.length; simpa using this] at ho11
  have HK := Lib.hid (And.intro hrun1 (And.intro ho11 (And.intro hk11 (And.intro hs11 (And.intro hb11 (And.intro hch11.1 (And.intro hv11 hl11)))))))
  have HNV := Lib.hid (And.intro hrn hln)
  have HCV := Lib.hid (And.intro hcv1 (And.intro hML (And.intro hM2 hcvn)))
  clear ho11 hk11 hs11 hb11 hch11 hv11 hl11 hr10 hl10 hrn hln hv10 hfr hcvn h69 hML hM2 hcv1
  go_upto_region 8 with fail
  clear hrun1
  have HS2 := Lib.hid (show sizes (collO L M) ≤ 4000000 from by
    have e : sizes (collO L M) = sizes (obs L (ordF L M)) := newO_sizes
    rw [e]
    exact Nat.le_trans (obs_le (ord_og L M L.length)) HX.out.2.2.1)
  have HRM2 := Lib.hid (fun (V3 : World) (hc : CH V3 B hb size (runs + 1) (collO L M) V1 G1 V1' G1') => hasRoom_any hc HS2.out HX.out.2.2.2.2.2.1 (l.length : Nat))
  have hcopy : ∀ (A' : Option Addr) (c' : Nat), ((∃ q, Av = some ⟨q, 0, none⟩ ∧ A' = some ⟨q, roots.length * 2, none⟩) ∨ l.length = 0) → ∃ w12, (Builtin.copy_ #[34, 34] 3 #[.slice Al l.length cl, .slice A' l.length c']).run Try.prog w11 = .ok (goInt l.length) w12 ∧ w12.ownsRow w4.heap.size WTy 2 (.slice Al l.length cl) l.length (wcells ((collR L M).drop roots.length)) ∧ (∀ b, some b ≠ (Value.slice Al l.length cl).ownBlock → w12.heap[b]? = w11.heap[b]?) ∧ w11.heap.size ≤ w12.heap.size ∧ Below w4.heap.size w11 w12 := fun A' c' hA => by
    have hdl : ((collR L M).drop roots.length).length = l.length := by rw [List.length_drop, HCV.out.2.2.1, HCV.out.2.1]; omega
    have hsrc : Rd w11 2 A' l.length (wcells ((collR L M).drop roots.length)) := by
      rcases hA with ⟨q, e1, rfl⟩ | h0
      · have h1 := (Rd.of_own HK.out.2.2.2.2.2.2.1).cut (lo := roots.length) (hi := M.length) (k := roots.length * 2) (by rw [HCV.out.2.1]; omega) (Nat.le_refl _) rfl
        rw [show M.length - roots.length = l.length by rw [HCV.out.2.1]; omega, wcells_cut, List.take_of_length_le (by rw [hdl]; exact Nat.le_refl _), e1] at h1
        have e2 : (some (⟨q, 0, none⟩ : Addr)).map (fun x => x.add (roots.length * 2)) = some ⟨q, roots.length * 2, none⟩ := by simp [Addr.add_lit]
        rwa [e2] at h1
      · rw [h0] at hdl ⊢
        rw [List.eq_nil_of_length_eq_zero hdl]
        exact Rd.nil _ _ _
    obtain ⟨w12, r1, r2, r3, r4, r5⟩ := run_copy_own elWord w11 3 HK.out.2.2.2.2.2.2.2 A' l.length c' _ hsrc (Nat.le_refl _) (wcells_ones _)
    rw [List.take_of_length_le (by rw [wcells_len, hdl]; exact Nat.le_refl _)] at r2
    exact ⟨w12, r1, r2, r3, r4, r5⟩
  have HCP := Lib.hid hcopy
  clear hcopy
  have HDONE := Lib.hid (fun (wx : World) (r2 : wx.ownsRow w4.heap.size WTy 2 (.slice Al l.length cl) l.length (wcells ((collR L M).drop roots.length))) (r3 : ∀ b, some b ≠ (Value.slice Al l.length cl).ownBlock → wx.heap[b]? = w11.heap[b]?) (r4 : w11.heap.size ≤ wx.heap.size) (r5 : Below w4.heap.size w11 wx) => (show CH wx B hb size (runs + 1) (collO L M) V1 G1 V1' G1' ∧ wx.ownsRow B WTy 2 (.slice Al l.length cl) l.length (wcells ((collR L M).drop roots.length)) ∧ wx.ownsRow B WTy 2 (.slice Ar roots.length cr) roots.length (wcells ((collR L M).take roots.length)) ∧ (∀ b, some b ≠ (Value.slice Ar roots.length cr).ownBlock → some b ≠ (Value.slice Al l.length cl).ownBlock → wx.heap[b]? = w10.heap[b]?) ∧ w10.heap.size ≤ wx.heap.size ∧ Below w4.heap.size w10 wx from by
    have hBw4 : B ≤ w4.heap.size := Nat.le_trans HX.out.2.1 HB4.out.1.size
    have h45 : w4.heap.size ≤ w5.heap.size := H45.out
    refine ⟨(HK.out.2.2.2.2.2.1.beside r3 (fun g hg => (HNV.out.2 g hg).1)).1, own_mono r2 hBw4, own_mono (own_keep HK.out.2.1 (fun g hg _ => r3 g (fun e => by have h1 := (HNV.out.1 g hg).2.1; have h2 := (H5.out.1.lt g e.symm).2; omega))) (Nat.le_trans hBw4 h45), fun b h1 h2 => (r3 b h2).trans (HK.out.2.2.1 b h1), Nat.le_trans HK.out.2.2.2.1 r4, (HK.out.2.2.2.2.1.mono h45).trans r5⟩))
  have i1 : (roots.length : Int) ≤ (M.length : Int) := by have := HCV.out.2.1; omega
  have i2 : (M.length : Int) ≤ (cv : Int) := by have := HCV.out.1; omega
  have i3 : (0 : Int) ≤ (roots.length : Int) := by omega
  have j3 : M.length - roots.length = l.length := by have := HCV.out.2.1; omega
  go_cut [] from 59 to 65 (fun wx => CH wx B hb size (runs + 1) (collO L M) V1 G1 V1' G1' ∧ wx.ownsRow B WTy 2 (.slice Al l.length cl) l.length (wcells ((collR L M).drop roots.length)) ∧ wx.ownsRow B WTy 2 (.slice Ar roots.length cr) roots.length (wcells ((collR L M).take roots.length)) ∧ (∀ b, some b ≠ (Value.slice Ar roots.length cr).ownBlock → some b ≠ (Value.slice Al l.length cl).ownBlock → wx.heap[b]? = w10.heap[b]?) ∧ w10.heap.size ≤ wx.heap.size ∧ Below w4.heap.size w10 wx)
  case first =>
    rcases HK.out.2.2.2.2.2.2.1.2 with ⟨e, h0⟩ | ⟨q, cap, cur, e, _⟩
    · injection e with e1 e2 e3
      subst e1 e3
      have hn0 : roots.length = 0 := by have := HCV.out.2.1; omega
      have hl0 : l.length = 0 := by have := HCV.out.2.1; omega
      obtain ⟨w12, r1, r2, r3, r4, r5⟩ := HCP.out none 0 (.inr hl0)
      have HD := Lib.hid (HDONE.out w12 r2 r3 r4 r5)
      clear r2 r3 r4 r5 hn0 hl0 h0 e2
      go_wp2_with fail
      go_meet
      exact HD.out
    · injection e with e1 e2 e3
      subst e1
      clear e2 e3
      by_cases hcv : cv = roots.length
      · obtain ⟨w12, r1, r2, r3, r4, r5⟩ := HCP.out (some ⟨q, 0, none⟩) 0 (.inr (by have := HCV.out.1; have := HCV.out.2.1; omega))
        have HD := Lib.hid (HDONE.out w12 r2 r3 r4 r5)
        clear r2 r3 r4 r5
        go_wp2_with fail
        go_meet
        exact HD.out
      · obtain ⟨w12, r1, r2, r3, r4, r5⟩ := HCP.out (some ⟨q, roots.length * 2, none⟩) (cv - roots.length) (.inl ⟨q, rfl, rfl⟩)
        have HD := Lib.hid (HDONE.out w12 r2 r3 r4 r5)
        clear r2 r3 r4 r5
        go_wp2_with fail
        go_meet
        exact HD.out
  case rest =>
    obtain ⟨h1, h2, h3, h4, h5, h6⟩ := hcut
    have hl2 : ((collR L M).drop roots.length).length = l.length := by rw [List.length_drop, HCV.out.2.2.1]; exact j3
    have hbx9 := (H9.out.2.1.block _ (lt_of_heap ((H6.out.2.2.2.block _ (lt_of_heap HX1.out)).trans HX1.out))).trans ((H6.out.2.2.2.block _ (lt_of_heap HX1.out)).trans HX1.out)
    have hbx10 := (H10.out.2.2.2.1 _ (HX.out.1.fresh HZ1.out) (lt_of_heap hbx9)).2.trans hbx9
    have hz12 : w1.heap.size < w4.heap.size := Nat.lt_of_lt_of_le (lt_of_heap HX1.out) HB4.out.2.size
    have h45 : w4.heap.size ≤ w5.heap.size := H45.out
    have hbxc := (h4 w1.heap.size (fun e => by have := (HNV.out.1 _ e.symm).2.1; omega) (fun e => by have := (HNV.out.2 _ e.symm).2.1; omega)).trans hbx10
    have hw4 : w.heap.size ≤ w4.heap.size := HB4.out.1.size
    have htr : Tr w (Nh hb V G V' G') wc (Nh hb V1 G1 V1' G1') := fun b hb' hl => by
      have hl9 : b < w9.heap.size := Nat.lt_of_lt_of_le hl H9.out.1.size
      obtain ⟨q1, q2⟩ := H10.out.2.2.2.1 b hb' hl9
      exact ⟨q1, (h4 b (fun e => by have := (HNV.out.1 _ e.symm).2.1; omega) (fun e => by have := (HNV.out.2 _ e.symm).2.1; omega)).trans (q2.trans (H9.out.1.block b hl))⟩
    have hbl : Below B w wc := (H9.out.1.mono HX.out.2.1).trans (H10.out.2.2.2.2.trans (h6.mono (Nat.le_trans HX.out.2.1 hw4)))
    have hown : ∀ g, ((Value.slice Al l.length cl).ownBlock = some g ∨ (Value.slice Ar roots.length cr).ownBlock = some g) → Nh hb V1 G1 V1' G1' g ∧ w.heap.size ≤ g := fun g hg => hg.elim (fun e => ⟨(HNV.out.2 g e).1, Nat.le_trans hw4 (HNV.out.2 g e).2.1⟩) (fun e => ⟨(HNV.out.1 g e).1, Nat.le_trans hw4 (Nat.le_trans h45 (HNV.out.1 g e).2.1)⟩)
    have hle : w.heap.size ≤ wc.heap.size := Nat.le_trans (Nat.le_trans H9.out.1.size H10.out.2.2.2.2.size) h5
    have HF := Lib.hid (And.intro h1 (And.intro h2 (And.intro h3 (And.intro htr (And.intro hbl (And.intro hown (And.intro hbxc (And.intro hl2 hle))))))))
    clear h1 h2 h3 h4 h5 h6 hbx9 hbx10 hz12 h45 hbxc hw4 htr hbl hown hl2 hle i1 i2 i3 j3
    by_cases hr2 : (l.length : Int) < size - sizes (collO L M)
    · have HR := Lib.hid (HRM2.out wc HF.out.1)
      rw [decide_eq_true hr2] at HR
      have HADD := Lib.hid (fun (V8 : World) (hb8 : Below wc.heap.size wc V8) => (show Calls Try.prog 34 #[.pointer (some ⟨hb, 2, none⟩), .agg #[.bool false, .int .i64 (16 * (l.length : Int) + k)], .slice Al l.length cl] V8 fun e w' => e = .returned (.int .i64 (sizes (collO L M) : Nat)) ∧ ∃ cs' V2 G2, AS V8 B hb 2 HTy #[.int .i64 size, .int .i64 (runs + 1), V1, G1, V1', G1'] V1 G1 (sizes (collO L M) + 1 + ((collR L M).drop roots.length).length) (wcells (flat (collO L M)) ++ wcells [hdW (k, (collR L M).drop roots.length)] ++ wcells ((collR L M).drop roots.length)) (sizes (collO L M) + 1 + ((collR L M).drop roots.length).length) (bcells (begs (collO L M)) ++ bcells (true :: List.replicate ((collR L M).drop roots.length).length false)) w' cs' V2 G2 from by
        have h := add_any (po := 2) (HF.out.1.below hb8).hd ⟨by decide, by decide⟩ rfl rfl (HF.out.1.below hb8).fw (HF.out.1.below hb8).fg HF.out.1.ge (hdW (k, (collR L M).drop roots.length)) Al ((collR L M).drop roots.length) cl (by rw [HF.out.2.2.2.2.2.2.2.1]; exact (Rd.of_own HF.out.2.1).below hb8) (fun a ha h0 e => by
          subst ha
          exact (HNV.out.2 a.block rfl).1.2.1 e) (by rw [HF.out.2.2.2.2.2.2.2.1]; have := HS2.out; have := HX.out.2.2.2.1; omega)
        have e1 : (Value.slice Al ((collR L M).drop roots.length).length cl) = .slice Al l.length cl := by rw [HF.out.2.2.2.2.2.2.2.1]
        have e2 : (hdW (k, (collR L M).drop roots.length)).v = 16 * (l.length : Int) + k := by show 16 * (((collR L M).drop roots.length).length : Int) + k = _; rw [HF.out.2.2.2.2.2.2.2.1]
        rw [e1, e2] at h
        exact h))
      go_upto_region 11 with (go_at_call 31; (with_reducible refine HR.out.mono ?_); rintro e w13 ⟨rfl, hb13⟩; have H13 := Lib.hid hb13; clear hb13)
      have HV8 := Lib.hid (below_then H13.out (below_drew1 w13))
      obtain ⟨y0, y1⟩ := cells2 ((H13.out.block _ (lt_of_heap HF.out.2.2.2.2.2.2.1)).trans HF.out.2.2.2.2.2.2.1)
      go_region_law (first
        | (go_simp; go_at_call 34; (with_reducible refine (HADD.out _ HV8.out).mono ?_); rintro e w14 ⟨rfl, cs', V2, G2, has⟩; have HS := Lib.hid has; clear has)
        | go_simp)
      all_goals
        obtain ⟨q1, q2⟩ := (HF.out.1.below HV8.out).added (k, (collR L M).drop roots.length) HS.out
        have HQ := Lib.hid (And.intro q1 q2)
        have HR2 := Lib.hid hr2
        clear q1 q2 y0 y1 hr2
        go_wp2_with fail
        go_returns
        have hkl : ∀ (x : Value) (m : Nat) (xs : List Value), wc.ownsRow B WTy 2 x m xs → (∀ g, x.ownBlock = some g → Nh hb V1 G1 V1' G1' g ∧ w.heap.size ≤ g) → (w14.ownsRow B WTy 2 x m xs ∧ ∀ g, x.ownBlock = some g → Nh hb V2 G2 V1' G1' g ∧ w.heap.size ≤ g) := fun x m xs ho hn => by
          have ho8 := own_below ho HV8.out
          exact ⟨own_keep ho8 (fun g hg hl => (HQ.out.2 g (hn g hg).1 hl).2), fun g hg => ⟨(HQ.out.2 g (hn g hg).1 (ho8.lt g hg).2).1, (hn g hg).2⟩⟩
        obtain ⟨u1, u2⟩ := hkl _ _ _ HF.out.2.1 (fun g hg => HF.out.2.2.2.2.2.1 g (.inl hg))
        obtain ⟨u3, u4⟩ := hkl _ _ _ HF.out.2.2.1 (fun g hg => HF.out.2.2.2.2.2.1 g (.inr hg))
        exact ⟨_, _, V2, G2, V1', G1', _, HQ.out.1, .inl ⟨HR2.out, rfl, rfl⟩, ⟨u1, u3⟩, fun g hg => hg.elim (u2 g) (u4 g), HF.out.2.2.2.1.trans HF.out.2.2.2.2.2.2.2.2 ((Tr.below HV8.out).trans HV8.out.size HQ.out.2), HF.out.2.2.2.2.1.trans ((HV8.out.mono (Nat.le_trans HX.out.2.1 HF.out.2.2.2.2.2.2.2.2)).trans HS.out.bl)⟩
    · have HR := Lib.hid (HRM2.out wc HF.out.1)
      rw [decide_eq_false hr2] at HR
      have HR2 := Lib.hid hr2
      clear hr2
      go_wp2_with (go_at_call 31; (with_reducible refine HR.out.mono ?_); rintro e w13 ⟨rfl, hb13⟩; have H13 := Lib.hid hb13; clear hb13)
      go_returns
      exact ⟨_, _, V1, G1, V1', G1', _, HF.out.1.below H13.out, .inr ⟨HR2.out, rfl, rfl⟩, ⟨own_below HF.out.2.1 H13.out, own_below HF.out.2.2.1 H13.out⟩, HF.out.2.2.2.2.2.1, HF.out.2.2.2.1.trans HF.out.2.2.2.2.2.2.2.2 (Tr.below H13.out), HF.out.2.2.2.2.1.trans (H13.out.mono (Nat.le_trans HX.out.2.1 HF.out.2.2.2.2.2.2.2.2))⟩
end
end Go.Proofs.Ythblcfhflkapmaa
