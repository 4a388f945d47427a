/-
  The heap: what stands while objects are looked through.
-/
import Derived.Test.YthblcfhflkapmaaHpZ
namespace Go.Proofs.Ythblcfhflkapmaa
open Go Go.ChangeShapes Go.WideShapes Go.ChangeAt Go.RowKit Go.Sort
set_option linter.unusedVariables false
set_option linter.unusedSimpArgs false

section
variable {w wr w' w2 : World} {B hb tb : Nat} {size runs : Int} {L : List Ob} {order : List Nat} {a i : Nat} {V G V' G' TV TG TV1 TG1 v : Value} {roots : List Wd}
/-- Midway, with the roots as they point then. -/
structure CS (w : World) (B hb tb : Nat) (size runs : Int) (L : List Ob) (roots : List Wd) (V G V' G' v : Value) (order : List Nat) (a i : Nat) (wr : World) (TV TG : Value) : Prop where
  mv : MV wr B hb tb size runs L order a i V G V' G' TV TG
  lk : Lk L order a i
  og : Og L order
  row : wr.ownsRow B WTy 2 v roots.length (wcells (roots.map (turn L (reachP L [] roots))))
  nv : ∀ g, v.ownBlock = some g → Nm tb V G TV TG g
  fr : ∀ g, v.ownBlock = some g → w.heap.size ≤ g
  tr : Tr w (Nh hb V G V' G') wr (fun b => Nm tb V G TV TG b ∧ b ≠ hb)
  le : w.heap.size ≤ wr.heap.size
  bl : Below B w wr
theorem CS.below (h : CS w B hb tb size runs L roots V G V' G' v order a i wr TV TG) (hb2 : Below wr.heap.size wr w2) (hB : B ≤ wr.heap.size) : CS w B hb tb size runs L roots V G V' G' v order a i w2 TV TG :=
  ⟨h.mv.below hb2, h.lk, h.og, own_below h.row hb2, h.nv, h.fr, h.tr.trans h.le (Tr.below hb2), Nat.le_trans h.le hb2.size, h.bl.trans (hb2.mono hB)⟩
/-- One word is moved, and written where it stood. -/
theorem CS.step (h : CS w B hb tb size runs L roots V G V' G' v order a i wr TV TG) {j : Nat} {u : Wd} (hj : order[a]? = some j) (hu : (ob L j).2[i]? = some u) (hf : Fine L u) (hm : MV w2 B hb tb size runs L (rstep L order u) a i V G V' G' TV1 TG1) (ht : Tr wr (Nm tb V G TV TG) w2 (Nm tb V G TV1 TG1)) (hb2 : Below B wr w2) :
    ∃ q c, TV1 = .slice (some ⟨q, 0, none⟩) (sizes (obs L (rstep L order u))) c ∧ place (obs L order) a + 1 + i < sizes (obs L (rstep L order u)) ∧
    (w2.cell? ⟨q, (place (obs L order) a + 1 + i) * 2, none⟩ = some (.bool u.ptr) ∧ w2.cell? ⟨q, (place (obs L order) a + 1 + i) * 2 + 1, none⟩ = some (.int .i64 u.v) ∧ w2.frozen? ⟨q, (place (obs L order) a + 1 + i) * 2, none⟩ = false ∧ w2.frozen? ⟨q, (place (obs L order) a + 1 + i) * 2 + 1, none⟩ = false) ∧
    CS w B hb tb size runs L roots V G V' G' v (rstep L order u) a (i + 1) ((w2.setCell ⟨q, (place (obs L order) a + 1 + i) * 2, none⟩ (.bool (turn L (rstep L order u) u).ptr)).setCell ⟨q, (place (obs L order) a + 1 + i) * 2 + 1, none⟩ (.int .i64 (turn L (rstep L order u) u).v)) TV1 TG1 := by
  obtain ⟨r, er⟩ := rstep_ext L order u
  have hal := (List.getElem?_eq_some_iff.1 hj).1
  have hil := (List.getElem?_eq_some_iff.1 hu).1
  have hj' : (rstep L order u)[a]? = some j := by rw [er, List.getElem?_append_left hal]; exact hj
  have hpl : place (obs L (rstep L order u)) a = place (obs L order) a := by
    unfold obs
    rw [er, List.map_append]
    exact place_app (by rw [List.length_map]; omega)
  have hto := tobjs_get (L := L) (a := a) (i := i) hj'
  have hlen : (tob L (rstep L order u) a i a j).2.length = (ob L j).2.length := tw_len _ _ _ _
  have hnt : nt a i a (ob L j).2.length = i := by unfold nt; rw [if_neg (Nat.lt_irrefl a), if_pos rfl]
  have hraw : (tob L (rstep L order u) a i a j).2[i]? = some u := by
    show (tw L (rstep L order u) (nt a i a (ob L j).2.length) (ob L j).2)[i]? = some u
    rw [hnt]
    exact tw_raw hu
  have hfit := place_fit (L := obs L (rstep L order u)) (j := a) (by rw [obs_len]; exact (List.getElem?_eq_some_iff.1 hj').1)
  have hobo : ob (obs L (rstep L order u)) a = ob L j := by
    show (obs L (rstep L order u))[a]?.getD zO = ob L j
    rw [obs_get hj']
    rfl
  rw [hobo, hpl] at hfit
  have hrow := hm.tw
  obtain ⟨m, hmm⟩ : ∃ m, sizes (obs L (rstep L order u)) = m + 1 := ⟨sizes (obs L (rstep L order u)) - 1, by omega⟩
  rw [hmm] at hrow
  obtain ⟨q, c, hTV⟩ := own_some hrow
  rw [← hmm] at hrow hTV
  have hTVo : TV1.ownBlock = some q := by rw [hTV]; rfl
  have hqB := (hm.tw.lt q hTVo).1
  obtain ⟨cq, fq, hq⟩ := own_at hm.tw hTVo
  rw [hTV] at hrow
  have hw := flat_word hto hraw
  rw [tobjs_place, hpl] at hw
  have hcells := own_word hrow hw
  have hot : ∀ (x y : Value) (b : Nat), b ≠ q → ((w2.setCell ⟨q, (place (obs L order) a + 1 + i) * 2, none⟩ x).setCell ⟨q, (place (obs L order) a + 1 + i) * 2 + 1, none⟩ y).heap[b]? = w2.heap[b]? := fun x y b hb => by
    rw [set_other _ _ _ _ hb, set_other _ _ _ _ hb]
  have hqh : hb ≠ q := fun e => own_ne hm.tw hm.hd (by decide) (by rw [hTVo, e])
  have hqt : tb ≠ q := fun e => own_ne hm.tw hm.td (by decide) (by rw [hTVo, e])
  have hvq : ∀ g, v.ownBlock = some g → g ≠ q := fun g hg e => by
    have h1 := (ht g (h.nv g hg) (h.row.lt g hg).2).1.2.2.2.1
    exact h1 (by rw [e, hTVo])
  refine ⟨q, c, hTV, by omega, hcells, ⟨⟨(hot _ _ hb hqh).trans hm.hd, own_keep hm.fw (fun g hg _ => hot _ _ g (fun e => hm.dw g hg (by rw [hTVo, e]))), own_keep hm.fg (fun g hg _ => hot _ _ g (fun e => own_ne2 hm.tw hm.fg (by decide) hg (by rw [hTVo, e]))), (hot _ _ tb hqt).trans hm.td, ?_, own_keep hm.tg (fun g hg _ => hot _ _ g (fun e => own_ne2 hm.tw hm.tg (by decide) hg (by rw [hTVo, e]))), hm.dw, hm.dg, hm.gh, hm.gt⟩, h.lk.step hj hu hf, h.og.rs u, ?_, fun g hg => (ht g (h.nv g hg) (h.row.lt g hg).2).1, h.fr, fun b hb' hl => ?_, ?_, ?_⟩⟩
  · rw [to_step hj' hu, flat_setw hto (by rw [hlen]; exact hil), wcells_set, tobjs_place, hpl, hTV]
    exact own_set (own_set hrow _ (by omega) _) _ (by omega) _
  · exact own_keep h.row (fun g hg hl => (hot _ _ g (hvq g hg)).trans (ht g (h.nv g hg) hl).2)
  · obtain ⟨⟨h1, h2⟩, h3⟩ := h.tr b hb' hl
    obtain ⟨h4, h5⟩ := ht b h1 (Nat.lt_of_lt_of_le hl h.le)
    exact ⟨⟨h4, h2⟩, (hot _ _ b (fun e => h4.2.2.2.1 (by rw [e, hTVo]))).trans (h5.trans h3)⟩
  · rw [World.size_setCell, World.size_setCell]
    exact Nat.le_trans h.le hb2.size
  · exact h.bl.trans ((hb2.setCell (p := ⟨q, (place (obs L order) a + 1 + i) * 2, none⟩) hqB _).setCell (p := ⟨q, (place (obs L order) a + 1 + i) * 2 + 1, none⟩) hqB _)
/-- The next object. -/
theorem CS.next {j : Nat} (h : CS w B hb tb size runs L roots V G V' G' v order a (ob L j).2.length wr TV TG) (hj : order[a]? = some j) : CS w B hb tb size runs L roots V G V' G' v order (a + 1) 0 wr TV TG :=
  ⟨⟨h.mv.hd, h.mv.fw, h.mv.fg, h.mv.td, by rw [← to_next hj]; exact h.mv.tw, h.mv.tg, h.mv.dw, h.mv.dg, h.mv.gh, h.mv.gt⟩, Lk.next hj h.lk, h.og, h.row, h.nv, h.fr, h.tr, h.le, h.bl⟩
theorem own_zero {w : World} {base n c : Nat} {A : Option Addr} {e : TypeId} {size : Nat} {xs : List Value} (h : w.ownsRow base e size (.slice A n c) n xs) : w.ownsRow base e size (.slice A 0 c) 0 [] := by
  rcases h.2 with ⟨q, _⟩ | ⟨g, cap, cur, hv, _⟩
  · injection q with q1 q2 q3
    subst q1 q2 q3
    exact World.ownsRow_nil _ _ _ _
  · injection hv with e1 e2 e3
    subst e1
    have h1 := own_cut h 0 (Nat.zero_le _)
    rw [Nat.zero_mul, List.take_zero] at h1
    exact h1
theorem blk_len (A : Option Addr) (n m c d : Nat) : (Value.slice A n c).ownBlock = (Value.slice A m d).ownBlock := by cases A <;> rfl
/-- At a collection's beginning. -/
theorem MV.start {A4 A5 : Option Addr} {n4 c4 n5 c5 : Nat} {wc : World} (h : CH w B hb size runs L V G (.slice A4 n4 c4) (.slice A5 n5 c5)) (hBw : B ≤ w.heap.size) (s4 : ∃ y, w.ownsRow B WTy 2 (.slice A4 n4 c4) n4 y) (s5 : ∃ y, w.ownsRow B BTy 1 (.slice A5 n5 c5) n5 y) (hb1 : Below w.heap.size w wc) (ht : wc.heap[w.heap.size]? = some (.cells #[.slice A4 0 c4, .slice A5 0 c5] FTy)) :
    MV wc B hb w.heap.size size runs L [] 0 0 V G (.slice A4 n4 c4) (.slice A5 n5 c5) (.slice A4 0 c4) (.slice A5 0 c5) := by
  have h1 := h.below hb1
  obtain ⟨y4, s4⟩ := s4
  obtain ⟨y5, s5⟩ := s5
  refine ⟨h1.hd, by rw [from_nil]; exact h1.fw, h1.fg, ht, own_zero (own_below s4 hb1), own_zero (own_below s5 hb1), fun q hq e => h.dw q hq ((blk_len _ _ _ _ _).trans e), fun q hq e => h.dg q hq ((blk_len _ _ _ _ _).trans e), h.ge, hBw⟩
theorem CS.start {A4 A5 : Option Addr} {n4 c4 n5 c5 : Nat} {wc V2 w3 : World} (h : CH w B hb size runs L V G (.slice A4 n4 c4) (.slice A5 n5 c5)) (hBw : B ≤ w.heap.size) (hb1 : Below w.heap.size w wc) (hb2 : Below wc.heap.size wc V2) (hv : ∀ g, v.ownBlock = some g → wc.heap.size ≤ g)
    (ma : MA V2 B hb w.heap.size size runs L [] 0 0 V G (.slice A4 n4 c4) (.slice A5 n5 c5) (.slice A4 0 c4) (.slice A5 0 c5) v roots roots.length w3 TV1 TG1) : CS w B hb w.heap.size size runs L roots V G (.slice A4 n4 c4) (.slice A5 n5 c5) v (ord L roots 0) 0 0 w3 TV1 TG1 := by
  have h1 := ma.mv
  have h2 := ma.row
  rw [List.take_length] at h1 h2
  rw [tw_all] at h2
  refine ⟨h1, Lk.start _ _, ord_og L roots 0, h2, ma.nv, fun g hg => Nat.le_trans hb1.size (hv g hg), fun b hn hl => ?_, Nat.le_trans hb1.size (Nat.le_trans hb2.size ma.le), ((hb1.mono hBw).trans (hb2.mono (Nat.le_trans hBw hb1.size))).trans ma.bl⟩
  have hlv : b < V2.heap.size := Nat.lt_of_lt_of_le hl (Nat.le_trans hb1.size hb2.size)
  obtain ⟨⟨q1, q2⟩, q3⟩ := ma.tr b ⟨⟨by omega, hn.2.1, hn.2.2.1, fun e => hn.2.2.2.1 (e.trans (blk_len _ _ _ _ _)), fun e => hn.2.2.2.2 (e.trans (blk_len _ _ _ _ _))⟩, fun e => by have := hv b e.symm; have := hb1.size; omega⟩ hlv
  exact ⟨⟨q1, hn.1⟩, q3.trans ((hb2.block b (Nat.lt_of_lt_of_le hl hb1.size)).trans (hb1.block b hl))⟩
/-- The halves are changed for each other. -/
theorem CS.swap {n : Nat} {wx : World} (h : CS w B hb tb size runs L roots V G V' G' v (ord L roots n) (ord L roots n).length 0 wr TV TG) (hle : (ord L roots n).length ≤ n) (hf : ∀ u ∈ roots, Fine L u) {r : Int} (hx : wx.heap[hb]? = some (.cells #[.int .i64 size, .int .i64 r, TV, TG, V, G] HTy)) (hk : ∀ b, b ≠ hb → wx.heap[b]? = wr.heap[b]?) (hb2 : Below B wr wx) :
    CH wx B hb size r (collO L roots) TV TG V G ∧ wx.ownsRow B WTy 2 v roots.length (wcells (collR L roots)) ∧ (∀ g, v.ownBlock = some g → Nh hb TV TG V G g ∧ w.heap.size ≤ g) ∧ Tr w (Nh hb V G V' G') wx (Nh hb TV TG V G) ∧ Below B w wx := by
  have hto := to_coll (L := L) (roots := roots) hle
  have hsz : sizes (obs L (ord L roots n)) = sizes (collO L roots) := by rw [← hto, tobjs_sizes]
  have hbg : begs (obs L (ord L roots n)) = begs (collO L roots) := by rw [← hto, tobjs_begs]
  have htw := h.mv.tw
  have htg := h.mv.tg
  rw [hsz, hto] at htw
  rw [hsz, hbg] at htg
  have hkh : ∀ {S m sz : Nat} {e : TypeId} {x : Value} {xs : List Value}, wr.ownsRow S e sz x m xs → HTy ≠ e → wx.ownsRow S e sz x m xs := fun ho he => own_keep ho (fun g hg _ => hk g (fun e' => own_ne ho h.mv.hd he (by rw [← e', hg])))
  have hvh : ∀ g, v.ownBlock = some g → g ≠ hb := fun g hg e => own_ne h.row h.mv.hd (by decide) (by rw [← e, hg])
  refine ⟨⟨hx, hkh htw (by decide), hkh htg (by decide), ⟨_, _, hkh h.mv.fw (by decide)⟩, ⟨_, _, hkh h.mv.fg (by decide)⟩, fun q hq e => h.mv.dw q e hq, fun q hq e => h.mv.dg q e hq, h.mv.gh⟩, ?_, fun g hg => ⟨⟨hvh g hg, (h.nv g hg).2.2.2.1, (h.nv g hg).2.2.2.2, (h.nv g hg).2.1, (h.nv g hg).2.2.1⟩, h.fr g hg⟩, fun b hn hl => ?_, h.bl.trans hb2⟩
  · have e : collR L roots = roots.map (turn L (reachP L [] roots)) := by
      unfold collR
      obtain ⟨r', er⟩ := ord_prefix L roots 0
      rw [er]
      exact List.map_congr_left (fun x hx => turn_ext (In.all roots [] hf x hx))
    rw [e]
    exact own_keep h.row (fun g hg _ => hk g (hvh g hg))
  · obtain ⟨⟨q1, q2⟩, q3⟩ := h.tr b hn hl
    exact ⟨⟨q2, q1.2.2.2.1, q1.2.2.2.2, q1.2.1, q1.2.2.1⟩, (hk b q2).trans q3⟩
end
end Go.Proofs.Ythblcfhflkapmaa
