/-
  The heap: midway in a collection; a word is moved.
-/
import Derived.Test.YthblcfhflkapmaaHpU
import Derived.Test.YthblcfhflkapmaaWordA
namespace Go.Proofs.Ythblcfhflkapmaa
open Go Go.ChangeShapes Go.WideShapes Go.ChangeAt Go.RowKit Go.Sort
set_option linter.unusedVariables false
set_option linter.unusedSimpArgs false

/-- Blocks that a collection does not write. -/
def Nm (tb : Nat) (V G TV TG : Value) (b : Nat) : Prop := b ≠ tb ∧ some b ≠ V.ownBlock ∧ some b ≠ G.ownBlock ∧ some b ≠ TV.ownBlock ∧ some b ≠ TG.ownBlock
/-- Midway. -/
structure MV (w : World) (B hb tb : Nat) (size runs : Int) (L : List Ob) (order : List Nat) (a i : Nat) (V G V' G' TV TG : Value) : Prop where
  hd : w.heap[hb]? = some (.cells #[.int .i64 size, .int .i64 runs, V, G, V', G'] HTy)
  fw : w.ownsRow B WTy 2 V (sizes L) (wcells (fromW L order))
  fg : w.ownsRow B BTy 1 G (sizes L) (bcells (begs L))
  td : w.heap[tb]? = some (.cells #[TV, TG] FTy)
  tw : w.ownsRow B WTy 2 TV (sizes (obs L order)) (wcells (flat (tobjs L order a i)))
  tg : w.ownsRow B BTy 1 TG (sizes (obs L order)) (bcells (begs (obs L order)))
  dw : ∀ q, V.ownBlock = some q → TV.ownBlock ≠ some q
  dg : ∀ q, G.ownBlock = some q → TG.ownBlock ≠ some q
  gh : B ≤ hb
  gt : B ≤ tb
section
variable {w w' : World} {B hb tb : Nat} {size runs : Int} {L : List Ob} {order : List Nat} {a i : Nat} {V G V' G' TV TG : Value}
theorem MV.below (h : MV w B hb tb size runs L order a i V G V' G' TV TG) (hb' : Below w.heap.size w w') : MV w' B hb tb size runs L order a i V G V' G' TV TG :=
  ⟨(hb'.block hb (lt_of_heap h.hd)).trans h.hd, own_below h.fw hb', own_below h.fg hb', (hb'.block tb (lt_of_heap h.td)).trans h.td, own_below h.tw hb', own_below h.tg hb', h.dw, h.dg, h.gh, h.gt⟩
/-- The left half's row. -/
theorem MV.row (h : MV w B hb tb size runs L order a i V G V' G' TV TG) (h0 : 0 < sizes L) : ∃ q c, V = .slice (some ⟨q, 0, none⟩) (sizes L) c ∧ (sizes L ≤ c ∧ c ≤ maxLen) ∧ ∀ (k : Nat) (u : Wd), (fromW L order)[k]? = some u → w.cell? ⟨q, k * 2, none⟩ = some (.bool u.ptr) ∧ w.cell? ⟨q, k * 2 + 1, none⟩ = some (.int .i64 u.v) ∧ w.frozen? ⟨q, k * 2, none⟩ = false ∧ w.frozen? ⟨q, k * 2 + 1, none⟩ = false := by
  obtain ⟨m, hm⟩ : ∃ m, sizes L = m + 1 := ⟨sizes L - 1, by omega⟩
  have hfw := h.fw
  rw [hm] at hfw
  obtain ⟨q, c, rfl⟩ := own_some hfw
  rw [← hm] at hfw
  obtain ⟨A', c', e, h1, h2, _⟩ := own_cap hfw
  injection e with e1 e2 e3
  subst e3
  refine ⟨q, c, by rw [hm], ⟨h1, h2⟩, fun k u hk => ?_⟩
  obtain ⟨g1, g2⟩ := wcells_at hk
  have a1 := own_cell hfw g1
  have a2 := own_cell hfw g2
  exact ⟨a1.1, a2.1, a1.2, a2.2⟩
theorem MV.cut (h : MV w B hb tb size runs L order a i V G V' G' TV TG) {j : Nat} (hj : j < L.length) {q c : Nat} (hV : V = .slice (some ⟨q, 0, none⟩) (sizes L) c) : Rd w 2 (some ⟨q, (place L j + 1) * 2, none⟩) (ob L j).2.length (wcells (ob L j).2) := by
  have hr := h.fw
  rw [hV] at hr
  have hfit := place_fit hj
  have h1 := (Rd.of_own hr).cut (lo := place L j + 1) (hi := place L j + 1 + (ob L j).2.length) (k := (place L j + 1) * 2) (by omega) (by omega) rfl
  rw [show place L j + 1 + (ob L j).2.length - (place L j + 1) = (ob L j).2.length by omega, wcells_cut, from_cut hj] at h1
  have e2 : (some (⟨q, 0, none⟩ : Addr)).map (fun x => x.add ((place L j + 1) * 2)) = some ⟨q, (place L j + 1) * 2, none⟩ := by simp [Addr.add_lit]
  rwa [e2] at h1
theorem two_of {cs : Array Value} {x y : Value} (h : cs.size = 2) (h0 : cs[0]? = some x) (h1 : cs[1]? = some y) : cs = #[x, y] := by
  apply Array.ext_getElem?
  intro i
  match i with
  | 0 => exact h0
  | 1 => exact h1
  | i + 2 => rw [Array.getElem?_eq_none (by omega), Array.getElem?_eq_none (by simp)]
/-- An object was added to the other half; its head tells where. -/
theorem MV.moved (h : MV w B hb tb size runs L order a i V G V' G' TV TG) (hL : Lk L order a i) {j : Nat} (hj : j < L.length) (hjo : j ∉ order) {q c : Nat} (hV : V = .slice (some ⟨q, 0, none⟩) (sizes L) c) {cs' : Array Value} {TV1 TG1 : Value}
    (ha : AS w B tb 0 FTy #[TV, TG] TV TG (sizes (obs L order) + 1 + (ob L j).2.length) (wcells (flat (tobjs L order a i)) ++ wcells [hdW (ob L j)] ++ wcells (ob L j).2) (sizes (obs L order) + 1 + (ob L j).2.length) (bcells (begs (obs L order)) ++ bcells (true :: List.replicate (ob L j).2.length false)) w' cs' TV1 TG1) :
    MV ((w'.setCell ⟨q, place L j * 2, none⟩ (.bool true)).setCell ⟨q, place L j * 2 + 1, none⟩ (.int .i64 (sizes (obs L order)))) B hb tb size runs L (order ++ [j]) a i V G V' G' TV1 TG1 ∧
    Tr w (Nm tb V G TV TG) ((w'.setCell ⟨q, place L j * 2, none⟩ (.bool true)).setCell ⟨q, place L j * 2 + 1, none⟩ (.int .i64 (sizes (obs L order)))) (Nm tb V G TV1 TG1) ∧
    Below B w ((w'.setCell ⟨q, place L j * 2, none⟩ (.bool true)).setCell ⟨q, place L j * 2 + 1, none⟩ (.int .i64 (sizes (obs L order)))) := by
  have hVo : V.ownBlock = some q := by rw [hV]; rfl
  have hfit := place_fit hj
  have hBq := (h.fw.lt q hVo).1
  have hql := (h.fw.lt q hVo).2
  obtain ⟨cq, fq, hq⟩ := own_at h.fw hVo
  have hqt : q ≠ tb := fun e => by
    rw [e, h.td] at hq
    injection hq with hq
    injection hq with _ hq _
    exact absurd hq (by decide)
  have hqTV : some q ≠ TV.ownBlock := fun e => h.dw q hVo e.symm
  have hqTG : some q ≠ TG.ownBlock := own_ne h.tg hq (by decide)
  have hqw : w'.heap[q]? = w.heap[q]? := ha.kp q hql hqt hqTV hqTG
  have hhb : hb ≠ q := fun e => by
    have := h.hd
    rw [e, hq] at this
    injection this with this
    injection this with _ this _
    exact absurd this (by decide)
  have hht : hb ≠ tb := fun e => by
    have := h.hd
    rw [e, h.td] at this
    injection this with this
    injection this with _ this _
    exact absurd this (by decide)
  have hhw : w'.heap[hb]? = w.heap[hb]? := ha.kp hb (lt_of_heap h.hd) hht (own_ne h.tw h.hd (by decide)) (own_ne h.tg h.hd (by decide))
  have hot : ∀ b, b ≠ q → ((w'.setCell ⟨q, place L j * 2, none⟩ (.bool true)).setCell ⟨q, place L j * 2 + 1, none⟩ (.int .i64 (sizes (obs L order)))).heap[b]? = w'.heap[b]? := fun b hb => by
    rw [set_other _ _ _ _ hb, set_other _ _ _ _ hb]
  have hcs := two_of ha.sz ha.c0 ha.c1
  have hgk : ∀ g, G.ownBlock = some g → g < w.heap.size → w'.heap[g]? = w.heap[g]? := fun g hg hl => ha.kp g hl (fun e => own_ne h.fg h.td (by decide) (by rw [← e, hg])) (fun e => own_ne2 h.fg h.tw (by decide) e.symm hg) (fun e => h.dg g hg e.symm)
  have hgq : ∀ g, G.ownBlock = some g → g ≠ q := fun g hg e => own_ne2 h.fw h.fg (by decide) hg (by rw [e]; exact hVo)
  have htvq : ∀ g, TV1.ownBlock = some g → g ≠ q := fun g hg e => by
    rcases ha.nv with r | ⟨g', r1, r2⟩
    · rw [hg, e] at r; exact hqTV r
    · rw [hg] at r1; injection r1 with r1; omega
  have htgq : ∀ g, TG1.ownBlock = some g → g ≠ q := fun g hg e => by
    rcases ha.ng with r | ⟨g', r1, r2⟩
    · rw [hg, e] at r; exact hqTG r
    · rw [hg] at r1; injection r1 with r1; omega
  have hso : sizes (obs L (order ++ [j])) = sizes (obs L order) + 1 + (ob L j).2.length := by
    unfold obs
    rw [List.map_append, sizes_append]
    simp [sizes, osz]
    omega
  refine ⟨⟨(hot hb hhb).trans (hhw.trans h.hd), ?_, own_keep (own_keep h.fg hgk) (fun g hg _ => hot g (hgq g hg)), ?_, ?_, ?_, fun p hp e => ?_, fun p hp e => ?_, h.gh, h.gt⟩, fun b hn hl => ⟨⟨hn.1, hn.2.1, hn.2.2.1, fun e => ?_, fun e => ?_⟩, ?_⟩, ?_⟩
  · rw [from_new hj hjo, wcells_set]
    have h1 : w'.ownsRow B WTy 2 V (sizes L) (wcells (fromW L order)) := own_keep h.fw (fun g hg _ => by rw [hVo] at hg; injection hg with hg; rw [← hg]; exact hqw)
    rw [hV] at h1 ⊢
    exact own_set (own_set h1 _ (by omega) _) _ (by omega) _
  · rw [hot tb (Ne.symm hqt), ha.hp, hcs]
  · rw [hso, to_new hL, flat_app, wcells_append]
    have h1 := own_keep (w' := (w'.setCell ⟨q, place L j * 2, none⟩ (.bool true)).setCell ⟨q, place L j * 2 + 1, none⟩ (.int .i64 (sizes (obs L order)))) ha.fw (fun g hg _ => hot g (htvq g hg))
    rw [List.append_assoc, ← wcells_append] at h1
    exact h1
  · rw [hso]
    have h1 := own_keep (w' := (w'.setCell ⟨q, place L j * 2, none⟩ (.bool true)).setCell ⟨q, place L j * 2 + 1, none⟩ (.int .i64 (sizes (obs L order)))) ha.fg (fun g hg _ => hot g (htgq g hg))
    have e : begs (obs L (order ++ [j])) = begs (obs L order) ++ (true :: List.replicate (ob L j).2.length false) := by
      unfold obs
      rw [List.map_append]
      exact begs_snoc _ _
    rw [e, bcells_append]
    exact h1
  · exact htvq p e (by rw [hVo] at hp; injection hp with hp; exact hp.symm)
  · rcases ha.ng with r | ⟨g', r1, r2⟩
    · exact h.dg p hp (r.symm.trans e)
    · rw [e] at r1
      injection r1 with r1
      have := (h.fg.lt p hp).2
      omega
  · rcases ha.nv with r | ⟨g', r1, r2⟩
    · exact hn.2.2.2.1 (e.trans r)
    · rw [r1] at e; injection e with e; omega
  · rcases ha.ng with r | ⟨g', r1, r2⟩
    · exact hn.2.2.2.2 (e.trans r)
    · rw [r1] at e; injection e with e; omega
  · rw [hot b (fun e => hn.2.1 (by rw [e, hVo]))]
    exact ha.kp b hl hn.1 hn.2.2.2.1 hn.2.2.2.2
  · exact (ha.bl.setCell (p := ⟨q, place L j * 2, none⟩) hBq _).setCell (p := ⟨q, place L j * 2 + 1, none⟩) hBq _
end
end Go.Proofs.Ythblcfhflkapmaa
