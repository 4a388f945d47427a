/-
  The heap: Set.
-/
import Derived.Test.YthblcfhflkapmaaHpR
namespace Go.Proofs.Ythblcfhflkapmaa
open Go Go.ChangeShapes Go.WideShapes Go.ChangeAt Go.RowKit Go.Sort
set_option linter.unusedVariables false
set_option linter.unusedSimpArgs false
attribute [local irreducible] Go.wpQuiet

theorem own_at {S n size g : Nat} {e : TypeId} {v : Value} {xs : List Value} {w : World} (h : w.ownsRow S e size v n xs) (hg : v.ownBlock = some g) : ∃ cur fr, w.heap[g]? = some (.cells cur e fr) := by
  rcases h.2 with ⟨rfl, _⟩ | ⟨g', cap, cur, rfl, _, hh, _⟩
  · simp [Value.ownBlock] at hg
  · simp only [Value.ownBlock, Option.some.injEq] at hg
    subst hg
    exact ⟨_, _, hh⟩
theorem own_ne {S n size b : Nat} {e T : TypeId} {v : Value} {xs : List Value} {w : World} {cs : Array Value} {fr : Nat × Nat} (h : w.ownsRow S e size v n xs) (hb : w.heap[b]? = some (.cells cs T fr)) (hT : T ≠ e) : some b ≠ v.ownBlock := by
  intro q
  obtain ⟨cur, fr', hh⟩ := own_at h q.symm
  rw [hh] at hb
  injection hb with hb
  injection hb with _ hb _
  exact hT hb.symm
theorem own_ne2 {S n size S' n' size' : Nat} {e T : TypeId} {v v' : Value} {xs xs' : List Value} {w : World} (h : w.ownsRow S e size v n xs) (h' : w.ownsRow S' T size' v' n' xs') (hT : T ≠ e) {g : Nat} (hg : v'.ownBlock = some g) : v.ownBlock ≠ some g := by
  obtain ⟨cur, fr, hh⟩ := own_at h' hg
  exact fun q => own_ne h hh hT q.symm
section
variable {w : World} {B hb : Nat} {size runs : Int} {L : List Ob} {V G V' G' : Value}
/-- A word of the heap, written. -/
theorem CH.setw (h : CH w B hb size runs L V G V' G') {j k q c : Nat} {u : Wd} (hj : j < L.length) (hk : k < (ob L j).2.length) (hV : V = .slice (some ⟨q, 0, none⟩) (sizes L) c) :
    CH ((w.setCell ⟨q, (place L j + 1 + k) * 2, none⟩ (.bool u.ptr)).setCell ⟨q, (place L j + 1 + k) * 2 + 1, none⟩ (.int .i64 u.v)) B hb size runs (L.set j ((ob L j).1, (ob L j).2.set k u)) V G V' G' ∧
    Tr w (Nh hb V G V' G') ((w.setCell ⟨q, (place L j + 1 + k) * 2, none⟩ (.bool u.ptr)).setCell ⟨q, (place L j + 1 + k) * 2 + 1, none⟩ (.int .i64 u.v)) (Nh hb V G V' G') ∧
    Below B w ((w.setCell ⟨q, (place L j + 1 + k) * 2, none⟩ (.bool u.ptr)).setCell ⟨q, (place L j + 1 + k) * 2 + 1, none⟩ (.int .i64 u.v)) := by
  have hfit := place_fit hj
  have hlen : (((ob L j).1, (ob L j).2.set k u) : Ob).2.length = (ob L j).2.length := List.length_set
  have hVo : V.ownBlock = some q := by rw [hV]; rfl
  have hq : ∀ b, b ≠ q → ((w.setCell ⟨q, (place L j + 1 + k) * 2, none⟩ (.bool u.ptr)).setCell ⟨q, (place L j + 1 + k) * 2 + 1, none⟩ (.int .i64 u.v)).heap[b]? = w.heap[b]? := fun b hb => by
    rw [set_other _ _ _ _ hb, set_other _ _ _ _ hb]
  obtain ⟨n1, y1, s1⟩ := h.sw
  obtain ⟨n2, y2, s2⟩ := h.sg
  have hhq : hb ≠ q := fun e => own_ne h.fw h.hd (by decide) (by rw [e, hVo])
  have hBq : B ≤ q := (h.fw.lt q hVo).1
  refine ⟨⟨(hq hb hhq).trans h.hd, ?_, ?_, ⟨n1, y1, own_keep s1 (fun g hg _ => hq g (fun e => h.dw q hVo (by rw [← e]; exact hg)))⟩, ⟨n2, y2, own_keep s2 (fun g hg _ => hq g (fun e => own_ne2 h.fw s2 (by decide) hg (by rw [e]; exact hVo)))⟩, h.dw, h.dg, h.ge⟩, fun b hb' hl => ⟨hb', hq b (fun e => hb'.2.1 (by rw [e, hVo]))⟩, ?_⟩
  · rw [sizes_setw (ob_get hj) hlen, flat_setw (ob_get hj) hk, wcells_set]
    have h1 := h.fw
    rw [hV] at h1 ⊢
    exact own_set (own_set h1 _ (by omega) _) _ (by omega) _
  · rw [sizes_setw (ob_get hj) hlen, begs_setw (ob_get hj) hlen]
    exact own_keep h.fg (fun g hg _ => hq g (fun e => own_ne2 h.fw h.fg (by decide) hg (by rw [e]; exact hVo)))
  · exact ((Below.refl B w).setCell (p := ⟨q, (place L j + 1 + k) * 2, none⟩) hBq _).setCell (p := ⟨q, (place L j + 1 + k) * 2 + 1, none⟩) hBq _
set_option maxRecDepth 100000 in
set_option maxHeartbeats 4000000 in
theorem Set_no (h : CH w B hb size runs L V G V' G') (hw : Wf L) (hs : sizes L ≤ 4000000) (p i : Int) (u : Wd) (hq : (wordB L p i && fineB L u) = false) :
    Calls Try.prog 15 #[.pointer (some ⟨hb, 0, none⟩), .int .i64 p, .int .i64 i, .agg #[.bool u.ptr, .int .i64 u.v]] w fun e w' => e = .returned (.iface 29 (.int .i64 1)) ∧ Below w.heap.size w w' := by
  have hb1 : Below w.heap.size w (w.alloc (.cells #[.bool u.ptr, .int .i64 u.v] 36)) := (Below.refl _ _).alloc (Nat.le_refl _) _
  have hx := heap_new (w := w) (o := .cells #[.bool u.ptr, .int .i64 u.v] 36) rfl
  obtain ⟨W1, hW1⟩ : ∃ W1, w.alloc (.cells #[.bool u.ptr, .int .i64 u.v] 36) = W1 := ⟨_, rfl⟩
  have HW1 := Lib.hid hW1
  rw [hW1] at hb1 hx
  have h1 := h.below hb1
  have HC := Lib.hid (fun d os => Calls.regrown_of (hasWord_any (h1.below (below_regrown W1 d os)) hw hs p i))
  have HF := Lib.hid (fun d os => Calls.regrown_of (isFine_any (h1.below (below_regrown W1 d os)) hs u))
  have HB := Lib.hid hb1
  obtain ⟨c0, c1⟩ := cells2 hx
  have k0 := cell_regrown c0
  have k1 := cell_regrown c1
  clear h hw hs hb1 hx hW1 h1 c0 c1
  rcases Bool.eq_false_or_eq_true (wordB L p i) with q1 | q1
  · have q2 : fineB L u = false := by rw [q1, Bool.true_and] at hq; exact hq
    rw [q1] at HC
    rw [q2] at HF
    clear hq q1 q2
    go_enter Try.func15, Try.ntmps15
    go_upto_region 1 with fail
    rw [HW1.out]
    refine wp_region_quiet_below (by kernel_rfl) (by kernel_rfl) ?_
    repeat (quiet_step (first | (go_at_call 37; with_reducible exact HC.out _ _) | (go_at_call 38; with_reducible exact HF.out _ _)))
    refine wpQuiet_nil ?_
    intro _ hw'
    obtain ⟨⟨dq, osq⟩, hw''⟩ := hw'
    subst hw''
    have HQ := Lib.hid (below_regrown W1 dq osq)
    go_wp2_with fail
    go_returns
    exact ⟨rfl, below_then HB.out HQ.out⟩
  · rw [q1] at HC
    clear hq q1
    go_enter Try.func15, Try.ntmps15
    go_upto_region 1 with fail
    rw [HW1.out]
    refine wp_region_quiet_below (by kernel_rfl) (by kernel_rfl) ?_
    repeat (quiet_step (first | (go_at_call 37; with_reducible exact HC.out _ _) | (go_at_call 38; with_reducible exact HF.out _ _)))
    refine wpQuiet_nil ?_
    intro _ hw'
    obtain ⟨⟨dq, osq⟩, hw''⟩ := hw'
    subst hw''
    have HQ := Lib.hid (below_regrown W1 dq osq)
    go_wp2_with fail
    go_returns
    exact ⟨rfl, below_then HB.out HQ.out⟩
set_option maxRecDepth 100000 in
set_option maxHeartbeats 4000000 in
theorem Set_yes (h : CH w B hb size runs L V G V' G') (hw : Wf L) (hs : sizes L ≤ 4000000) (hBw : B ≤ w.heap.size) (j k : Nat) (u : Wd) (hj : j < L.length) (hk : k < (ob L j).2.length) (hu : Fine L u) :
    Calls Try.prog 15 #[.pointer (some ⟨hb, 0, none⟩), .int .i64 (place L j : Nat), .int .i64 (k : Nat), .agg #[.bool u.ptr, .int .i64 u.v]] w fun e w' => e = .returned .nilIface ∧ CH w' B hb size runs (L.set j ((ob L j).1, (ob L j).2.set k u)) V G V' G' ∧ Tr w (Nh hb V G V' G') w' (Nh hb V G V' G') ∧ Below B w w' := by
  have hb1 : Below w.heap.size w (w.alloc (.cells #[.bool u.ptr, .int .i64 u.v] 36)) := (Below.refl _ _).alloc (Nat.le_refl _) _
  have hx := heap_new (w := w) (o := .cells #[.bool u.ptr, .int .i64 u.v] 36) rfl
  obtain ⟨W1, hW1⟩ : ∃ W1, w.alloc (.cells #[.bool u.ptr, .int .i64 u.v] 36) = W1 := ⟨_, rfl⟩
  have HW1 := Lib.hid hW1
  rw [hW1] at hb1 hx
  have h1 := h.below hb1
  have hfit := place_fit hj
  have q1 : wordB L (place L j : Nat) (k : Nat) = true := by
    unfold wordB
    rw [at_some.2 ⟨hj, rfl⟩]
    simp
    omega
  have q2 : fineB L u = true := (fineB_iff L u).2 hu
  have HC := Lib.hid (fun d os => Calls.regrown_of (hasWord_any (h1.below (below_regrown W1 d os)) hw hs (place L j : Nat) (k : Nat)))
  have HF := Lib.hid (fun d os => Calls.regrown_of (isFine_any (h1.below (below_regrown W1 d os)) hs u))
  rw [q1] at HC
  rw [q2] at HF
  have HSZ := Lib.hid hs
  have HB := Lib.hid hb1
  have HBW := Lib.hid hBw
  have HX := Lib.hid hx
  have H1 := Lib.hid h1
  have HJ := Lib.hid (And.intro hj hk)
  obtain ⟨c0, c1⟩ := cells2 hx
  have k0 := cell_regrown c0
  have k1 := cell_regrown c1
  obtain ⟨P, hP⟩ : ∃ P, place L j = P := ⟨_, rfl⟩
  have HP := Lib.hid hP
  rw [hP] at HC hfit ⊢
  have HFI := Lib.hid hfit
  clear h hw hs hb1 hx hW1 h1 c0 c1 hfit q1 q2 hu hBw hj hP
  go_enter Try.func15, Try.ntmps15
  go_upto_region 1 with fail
  rw [HW1.out]
  refine wp_region_quiet_below (by kernel_rfl) (by kernel_rfl) ?_
  repeat (quiet_step (first | (go_at_call 37; with_reducible exact HC.out _ _) | (go_at_call 38; with_reducible exact HF.out _ _)))
  refine wpQuiet_nil ?_
  intro _ hw'
  obtain ⟨⟨dq, osq⟩, hw''⟩ := hw'
  subst hw''
  have hbq := below_regrown W1 dq osq
  have HQ := Lib.hid (And.intro hbq (H1.out.below hbq))
  have hx2 := (hbq.block _ (lt_of_heap HX.out)).trans HX.out
  clear k0 k1 hbq
  generalize grow (redrawn W1 dq) osq = w2 at *
  obtain ⟨c0, c1⟩ := cells2 hx2
  obtain ⟨x0, x1, x2, x3, x4, x5⟩ := cells6 HQ.out.2.hd
  obtain ⟨q, c, rfl, hql, ⟨hc1, hc2⟩, hrow⟩ := HQ.out.2.row (by have := HFI.out; omega)
  obtain ⟨r0, r1, f0, f1⟩ := hrow _ _ (flat_word (ob_get HJ.out.1) (List.getElem?_eq_getElem HJ.out.2))
  rw [HP.out] at r0 r1 f0 f1
  have i3 : (sizes L : Int) ≤ 4000000 := by have := HSZ.out; omega
  have i2 : (P : Int) + 1 + (k : Int) < (sizes L : Int) := by have := HFI.out; omega
  have i0 : (0 : Int) ≤ (P : Int) + 1 + (k : Int) := by omega
  have HST := Lib.hid ((HQ.out.2.below (below_drew1 w2)).setw (u := u) HJ.out.1 HJ.out.2 rfl)
  rw [HP.out] at HST
  have i4 : (P : Int) + 1 ≤ 4000000 := by omega
  have e1 : IntKind.i64.wrap ((P : Int) + 1) = (P : Int) + 1 := by rw [IntKind.wrap_i64]; omega
  have e2 : IntKind.i64.wrap ((P : Int) + 1 + (k : Int)) = (P : Int) + 1 + (k : Int) := by rw [IntKind.wrap_i64]; omega
  have e3 : ((P : Int) + 1 + (k : Int)).toNat = P + 1 + k := by omega
  clear hrow hx2 HC HF
  go_upto_region 3 with fail
  go_region_law fail
  all_goals
    go_wp2_with fail
    go_returns
    exact ⟨rfl, HST.out.1, (((Tr.below HB.out).trans HB.out.size (Tr.below HQ.out.1)).trans (Nat.le_trans HB.out.size HQ.out.1.size) (Tr.below (below_drew1 w2))).trans (Nat.le_trans HB.out.size HQ.out.1.size) HST.out.2.1, ((HB.out.mono HBW.out).trans (HQ.out.1.mono (Nat.le_trans HBW.out HB.out.size))).trans (((below_drew1 w2).mono (Nat.le_trans HBW.out (Nat.le_trans HB.out.size HQ.out.1.size))).trans HST.out.2.2)⟩
end
end Go.Proofs.Ythblcfhflkapmaa
