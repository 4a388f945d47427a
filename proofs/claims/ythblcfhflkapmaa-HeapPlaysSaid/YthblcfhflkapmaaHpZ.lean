/-
  The heap: 'moveAll'.
-/
import Derived.Test.YthblcfhflkapmaaHpY
namespace Go.Proofs.Ythblcfhflkapmaa
open Go Go.ChangeShapes Go.WideShapes Go.ChangeAt Go.RowKit Go.Sort
set_option linter.unusedVariables false
set_option linter.unusedSimpArgs false

section
variable {w wr w' : World} {B hb tb : Nat} {size runs : Int} {L : List Ob} {order order0 : List Nat} {a i : Nat} {V G V' G' TV TG TV0 TG0 v : Value} {l : List Wd}
/-- So many words of a row are moved. -/
structure MA (w : World) (B hb tb : Nat) (size runs : Int) (L : List Ob) (order0 : List Nat) (a i : Nat) (V G V' G' TV0 TG0 v : Value) (l : List Wd) (k : Nat) (wr : World) (TV TG : Value) : Prop where
  mv : MV wr B hb tb size runs L (reachP L order0 (l.take k)) a i V G V' G' TV TG
  row : wr.ownsRow B WTy 2 v l.length (wcells (tw L (reachP L order0 (l.take k)) k l))
  nv : ∀ g, v.ownBlock = some g → Nm tb V G TV TG g
  tr : Tr w (fun b => Nm tb V G TV0 TG0 b ∧ some b ≠ v.ownBlock) wr (fun b => Nm tb V G TV TG b ∧ some b ≠ v.ownBlock)
  le : w.heap.size ≤ wr.heap.size
  bl : Below B w wr
theorem reachP_take {L : List Ob} {order0 : List Nat} {l : List Wd} {k : Nat} {u : Wd} (h : l[k]? = some u) : reachP L order0 (l.take (k + 1)) = rstep L (reachP L order0 (l.take k)) u := by
  obtain ⟨h1, h2⟩ := List.getElem?_eq_some_iff.1 h
  rw [List.take_succ_eq_append_getElem h1, h2, reachP_snoc]
/-- One more. -/
theorem MA.next {k : Nat} {u : Wd} (h : MA w B hb tb size runs L order0 a i V G V' G' TV0 TG0 v l k wr TV TG) (hf : ∀ x ∈ l, Fine L x) (hu : l[k]? = some u) {w2 : World} {TV1 TG1 : Value} (hm : MV w2 B hb tb size runs L (rstep L (reachP L order0 (l.take k)) u) a i V G V' G' TV1 TG1) (ht : Tr wr (Nm tb V G TV TG) w2 (Nm tb V G TV1 TG1)) (hb2 : Below B wr w2) {q c : Nat} (hv : v = .slice (some ⟨q, 0, none⟩) l.length c) :
    (w2.cell? ⟨q, k * 2, none⟩ = some (.bool u.ptr) ∧ w2.cell? ⟨q, k * 2 + 1, none⟩ = some (.int .i64 u.v) ∧ w2.frozen? ⟨q, k * 2, none⟩ = false ∧ w2.frozen? ⟨q, k * 2 + 1, none⟩ = false) ∧
    MA w B hb tb size runs L order0 a i V G V' G' TV0 TG0 v l (k + 1) ((w2.setCell ⟨q, k * 2, none⟩ (.bool (turn L (rstep L (reachP L order0 (l.take k)) u) u).ptr)).setCell ⟨q, k * 2 + 1, none⟩ (.int .i64 (turn L (rstep L (reachP L order0 (l.take k)) u) u).v)) TV1 TG1 := by
  have hkl := (List.getElem?_eq_some_iff.1 hu).1
  have hvo : v.ownBlock = some q := by rw [hv]; rfl
  have hql := (h.row.lt q hvo).2
  have hqB := (h.row.lt q hvo).1
  have hqn := ht q (h.nv q hvo) hql
  have hrow2 : w2.ownsRow B WTy 2 v l.length (wcells (tw L (reachP L order0 (l.take k)) k l)) := own_keep h.row (fun g hg hl => by rw [hvo] at hg; injection hg with hg; rw [← hg]; exact hqn.2)
  have hr := hrow2
  rw [hv] at hr
  obtain ⟨g1, g2⟩ := wcells_at (tw_raw (L := L) (order := reachP L order0 (l.take k)) hu)
  have a1 := own_cell hr g1
  have a2 := own_cell hr g2
  have hot : ∀ (x y : Value) (b : Nat), b ≠ q → ((w2.setCell ⟨q, k * 2, none⟩ x).setCell ⟨q, k * 2 + 1, none⟩ y).heap[b]? = w2.heap[b]? := fun x y b hb => by
    rw [set_other _ _ _ _ hb, set_other _ _ _ _ hb]
  have hqh : q ≠ hb := fun e => own_ne hrow2 hm.hd (by decide) (by rw [hvo, e])
  refine ⟨⟨a1.1, a2.1, a1.2, a2.2⟩, ?_, ?_, fun g hg => ?_, fun b hb hl => ?_, ?_, ?_⟩
  · rw [reachP_take hu]
    exact hm.box hqn.1 (fun b hb => hot _ _ b hb) hqh
  · rw [reachP_take hu, tw_step hu]
    obtain ⟨r, e⟩ := rstep_ext L (reachP L order0 (l.take k)) u
    have hin : ∀ x ∈ l.take k, In L (reachP L order0 (l.take k)) x := In.all _ _ (fun x hx => hf x (List.mem_of_mem_take hx))
    have e2 : tw L (rstep L (reachP L order0 (l.take k)) u) k l = tw L (reachP L order0 (l.take k)) k l := by rw [e]; exact tw_ext r hin
    rw [e2, wcells_set]
    rw [hv]
    exact own_set (own_set hr _ (by omega) _) _ (by omega) _
  · rw [hvo] at hg
    injection hg with hg
    rw [← hg]
    exact hqn.1
  · obtain ⟨⟨h1, h2⟩, h3⟩ := h.tr b hb hl
    obtain ⟨h4, h5⟩ := ht b h1 (Nat.lt_of_lt_of_le hl h.le)
    exact ⟨⟨h4, h2⟩, (hot _ _ b (fun e => h2 (by rw [e, hvo]))).trans (h5.trans h3)⟩
  · rw [World.size_setCell, World.size_setCell]
    exact Nat.le_trans h.le hb2.size
  · exact h.bl.trans ((hb2.setCell (p := ⟨q, k * 2, none⟩) hqB _).setCell (p := ⟨q, k * 2 + 1, none⟩) hqB _)
set_option maxRecDepth 100000 in
set_option maxHeartbeats 4000000 in
theorem moveAll_any (h : MV w B hb tb size runs L order0 a i V G V' G' TV TG) (hL : Lk L order0 a i) (hW : Wf L) (hO : Og L order0) (hs : sizes L ≤ 4000000) (hBw : B ≤ w.heap.size) (hv : w.ownsRow B WTy 2 v l.length (wcells l)) (hn : ∀ g, v.ownBlock = some g → Nm tb V G TV TG g) (hf : ∀ u ∈ l, Fine L u) (hm : l.length ≤ 4000000) :
    Calls Try.prog 43 #[.pointer (some ⟨hb, 2, none⟩), v, .pointer (some ⟨tb, 0, none⟩)] w fun e w' => e = .returned v ∧ ∃ TV1 TG1, MA w B hb tb size runs L order0 a i V G V' G' TV TG v l l.length w' TV1 TG1 := by
  have H0 := Lib.hid (show MA w B hb tb size runs L order0 a i V G V' G' TV TG v l 0 w TV TG from ⟨by simpa [reachP] using h, by rw [tw_zero]; exact hv, hn, Tr.refl _ _, Nat.le_refl _, Below.refl _ _⟩)
  have HH := Lib.hid (And.intro hL (And.intro hW (And.intro hO (And.intro hs (And.intro hBw (And.intro hf hm))))))
  obtain ⟨A, c, rfl, hc1, hc2, hcn⟩ := own_cap hv
  have HV := Lib.hid hv
  clear h hL hW hO hs hBw hv hn hf hm
  go_enter Try.func43, Try.ntmps43
  go_wp2_with fail
  go_loopw [7, 8, 11] (fun _ _ i' wr => ∃ (k : Nat) (TV1 TG1 : Value), i' = .int .i64 k ∧ k ≤ l.length ∧ MA w B hb tb size runs L order0 a i V G V' G' TV TG (.slice A l.length c) l k wr TV1 TG1) (fun _ _ i' _ => l.length - (intOf i').toNat)
  case atStart => exact ⟨0, TV, TG, rfl, Nat.zero_le _, H0.out⟩
  case round =>
    obtain ⟨k, TV1, TG1, rfl, hk, hma⟩ := hrel
    have HM := Lib.hid hma
    clear hma
    by_cases hlt : k < l.length
    · obtain ⟨u, hu⟩ : ∃ u, l[k]? = some u := ⟨_, List.getElem?_eq_getElem hlt⟩
      obtain ⟨m, hlm⟩ : ∃ m, l.length = m + 1 := ⟨l.length - 1, by omega⟩
      have hv1 := HV.out
      rw [hlm] at hv1
      obtain ⟨q, c', e⟩ := own_some hv1
      rw [← hlm] at e
      injection e with e1 e2 e3
      subst e1 e3
      have hr := HM.out.row
      obtain ⟨g1, g2⟩ := wcells_at (tw_raw (L := L) (order := reachP L order0 (l.take k)) hu)
      have a1 := (own_cell hr g1).1
      have a2 := (own_cell hr g2).1
      have n1 : (k : Int) < (l.length : Int) := by omega
      have n0 : (0 : Int) ≤ (k : Int) := by omega
      have n2 : (l.length : Int) ≤ 4000000 := by have := HH.out.2.2.2.2.2.2; omega
      have hb1 : Below wr.heap.size wr (wr.alloc (wdO u)) := (Below.refl _ _).alloc (Nat.le_refl _) _
      obtain ⟨c0, c1⟩ := cells2 (heap_new (w := wr) (o := wdO u) rfl)
      have HBr := Lib.hid (Nat.le_trans HH.out.2.2.2.2.1 HM.out.le)
      have hfu := HH.out.2.2.2.2.2.1 u (List.mem_of_getElem? hu)
      obtain ⟨r, er⟩ := reachP_ext L order0 (l.take k)
      have hmv := move_any (HM.out.mv.below hb1) (by rw [er]; exact HH.out.1.ext r) HH.out.2.1 (HH.out.2.2.1.rp _) HH.out.2.2.2.1 (Nat.le_trans HBr.out hb1.size) u hfu
      have HMV := Lib.hid hmv
      have HU := Lib.hid hu
      have HB1 := Lib.hid hb1
      obtain ⟨t, ht⟩ : ∃ t, turn L (rstep L (reachP L order0 (l.take k)) u) u = t := ⟨_, rfl⟩
      rw [ht] at HMV
      have HT := Lib.hid ht
      clear hr g1 g2 hmv hu hv1 hb1 hlm hfu er ht
      go_wp2_with (go_at_call 44; (with_reducible refine HMV.out.mono ?_); rintro e w2 ⟨rfl, TV2, TG2, hm2, ht2, hb2⟩; obtain ⟨⟨d0, d1, f0, f1⟩, hn2⟩ := HM.out.next HH.out.2.2.2.2.2.1 HU.out hm2 ((Tr.below HB1.out).trans HB1.out.size ht2) ((HB1.out.mono HBr.out).trans hb2) rfl; rw [HT.out] at hn2; have HN := Lib.hid hn2; clear hm2 ht2 hb2 hn2)
      go_roundw
      case rel => exact ⟨k + 1, TV2, TG2, by go_num, hlt, HN.out⟩
      case measure => simp [intOf] <;> omega
    · have hkk : k = l.length := by omega
      subst hkk
      clear hk
      go_wp2_with fail
      go_returns
      exact ⟨rfl, TV1, TG1, HM.out⟩
end
end Go.Proofs.Ythblcfhflkapmaa
