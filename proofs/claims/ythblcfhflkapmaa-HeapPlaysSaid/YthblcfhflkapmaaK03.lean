/-
  The law HeapPlays: words whose pointers point to objects that there are.
  The law HeapPlays: what holds between two deeds; the law's text cut into pieces.
  The law HeapPlays: a deed that collects.
  The law HeapPlays: a deed that collects, of some of the roots.
  The law HeapPlays: a Make by both heaps comes to the same.
-/
import Derived.Test.YthblcfhflkapmaaK02
import Derived.Test.YthblcfhflkapmaaHpAO
namespace Go.Proofs.Ythblcfhflkapmaa
open Go Go.ChangeShapes Go.WideShapes Go.ChangeAt Go.RowKit Go.Sort
set_option linter.unusedVariables false
set_option linter.unusedSimpArgs false

def nearW (L : List Ob) (u : Wd) : Wd := if u.ptr = true then (if L.length = 0 then ⟨false, u.v⟩ else ⟨true, (place L (pickN u.v L.length) : Nat)⟩) else u
theorem near_fine (L : List Ob) (u : Wd) : Fine L (nearW L u) := by
  unfold nearW
  by_cases hp : u.ptr = true
  · rw [if_pos hp]
    by_cases h0 : L.length = 0
    · rw [if_pos h0]; exact fun e => nomatch e
    · rw [if_neg h0]
      intro _
      have := (pickN_lt u.v L.length (by omega)).1
      exact ⟨pickN u.v L.length, at_some.2 ⟨by omega, rfl⟩⟩
  · rw [if_neg hp]
    exact fun e => absurd e hp
section
variable {w w' : World} {B mb : Nat} {half runs : Int} {L : List Ob} {x : Value} {xs : List RO}
set_option maxRecDepth 100000 in
set_option maxHeartbeats 4000000 in
theorem near_any (r : RH w B mb half runs L x xs) (hm : L.length ≤ 4000000) (A : Option Addr) (c : Nat) (l : List Wd) (hr : Rd w 2 A l.length (wcells l)) (hlm : l.length ≤ 4000000) (hg : ∀ u ∈ l, I64 u.v) :
    Calls Try.prog 7 #[.slice A l.length c, .pointer (some ⟨mb, 0, none⟩)] w fun e w' => ∃ v, e = .returned v ∧ w'.ownsRow w.heap.size WTy 2 v l.length (wcells (l.map (nearW L))) ∧ Below w.heap.size w w' := by
  have H := Lib.hid (And.intro r (And.intro hm (And.intro hr hg)))
  have HXL := Lib.hid r.len
  have hl' : (l.length : Int) ≤ 4000000 := by omega
  obtain ⟨Ax, cx, rfl, _⟩ := own_cap r.row
  clear r hm hr hg
  go_enter Try.func7, Try.ntmps7
  go_wp2_with fail
  go_loopw [5, 6] (fun y i wr => ∃ (k : Nat), i = .int .i64 k ∧ k ≤ l.length ∧ wr.ownsRow w.heap.size WTy 2 y k (wcells ((l.take k).map (nearW L))) ∧ Below w.heap.size w wr) (fun _ i _ => l.length - (intOf i).toNat)
  case atStart => exact ⟨0, rfl, Nat.zero_le _, World.ownsRow_nil _ _ _ _, Below.refl _ _⟩
  case round =>
    obtain ⟨k, rfl, hk, hown, hb⟩ := hrel
    have k0 : (0 : Int) ≤ (k : Int) := by omega
    by_cases hlt : k < l.length
    · have k1 : (k : Int) < (l.length : Int) := by omega
      have k2 : (k : Int) < 4000000 := by omega
      obtain ⟨u, hu⟩ : ∃ u, l[k]? = some u := ⟨_, List.getElem?_eq_getElem hlt⟩
      obtain ⟨b, o, hA, _, f0, f1⟩ := (H.out.2.2.1.below hb).word hu
      subst hA
      have HW := Lib.hid (And.intro hown (And.intro hb (And.intro hu hlt)))
      have HLB := Lib.hid (show (k + 1) * 16 ≤ 140737488355328 by omega)
      have HT : Hid ((l.take (k + 1)).map (nearW L) = (l.take k).map (nearW L) ++ [nearW L u]) := by
        show (l.take (k + 1)).map (nearW L) = _
        rw [List.take_add_one, hu, List.map_append]; rfl
      clear hown hb hu hk
      go_upto_region 6 with fail
      have hx3 := heap_new (w := wr) (o := .cells #[.bool u.ptr, .int .i64 u.v] WTy) rfl
      have hb3 : Below wr.heap.size wr (wr.alloc (.cells #[.bool u.ptr, .int .i64 u.v] WTy)) := (Below.refl _ _).alloc (Nat.le_refl _) _
      generalize wr.alloc (.cells #[.bool u.ptr, .int .i64 u.v] WTy) = w3 at *
      obtain ⟨d0, d1⟩ := cells2 hx3
      have z0 := frozenN hx3 0
      have z1 := frozenN hx3 1
      have H3 := Lib.hid (And.intro hx3 hb3)
      have HB3 := Lib.hid (HW.out.2.1.trans (hb3.mono HW.out.2.1.size))
      clear hx3 hb3 f0 f1
      rcases Bool.eq_false_or_eq_true u.ptr with hp | hp
      · have HPT := Lib.hid hp
        rw [hp] at d0
        obtain ⟨c0, cx1, cx2⟩ := cells3 (H.out.1.below HB3.out).hd
        clear hp
        by_cases hL : xs.length = 0
        · have HE : Hid (nearW L u = ⟨false, u.v⟩) := by show nearW L u = _; unfold nearW; rw [if_pos HPT.out, if_pos (by rw [← HXL.out]; exact hL)]
          rw [hL] at cx1
          clear hL
          go_upto_region 10 with fail
          have hx5 := set_cells H3.out.1 0 (.bool false)
          have hb5 : Below wr.heap.size w3 (w3.setCell ⟨wr.heap.size, 0, none⟩ (.bool false)) := (Below.refl _ _).setCell (p := ⟨wr.heap.size, 0, none⟩) (Nat.le_refl _) _
          have H5 := Lib.hid (And.intro hx5 (H3.out.2.trans hb5))
          clear d0 d1 z0 z1 c0 cx1 cx2 hx5 hb5
          generalize w3.setCell ⟨wr.heap.size, 0, none⟩ (.bool false) = w5 at *
          obtain ⟨d0, d1⟩ := cells2 (x0 := .bool false) (x1 := .int .i64 u.v) H5.out.1
          have HB5 := Lib.hid (HW.out.2.1.trans (H5.out.2.mono HW.out.2.1.size))
          have HE4 := Lib.hid (rd_one w5 ⟨false, u.v⟩)
          have HA4 := Lib.hid ((Below.refl w5.heap.size w5).alloc (Nat.le_refl _) (.cells #[.bool false, .int .i64 u.v] WTy))
          have HO4 := Lib.hid (own_below (own_below HW.out.1 H5.out.2) HA4.out)
          have HL4 := Lib.hid (Nat.le_trans HB5.out.size HA4.out.size)
          go_wp2_with (at_builtin; refine wpList_app elWord _ rfl (.tmp 43) (.tmp 45) rfl _ _ k _ rfl HO4.out (some ⟨w5.heap.size, 0, none⟩) 1 1 _ rfl HE4.out (wcells_ones _) HLB.out HL4.out ?_; intro v6 w6 hown6 hb6 hg6 hat6; rw [← wcells_append] at hown6; have H6 := Lib.hid (And.intro hown6 (HB5.out.trans ((HA4.out.mono HB5.out.size).trans hb6))); clear hown6 hb6 hg6 hat6)
          exact ⟨⟨k + 1, by go_num, by omega, by rw [HT.out, HE.out]; exact H6.out.1, H6.out.2⟩, by simp [intOf] <;> omega⟩
        · have hpos : 0 < xs.length := by omega
          have HPK := Lib.hid (fun W : World => pick_val u.v xs.length (H.out.2.2.2 u (List.mem_of_getElem? HW.out.2.2.1)) ⟨by omega, by rw [HXL.out]; have := H.out.2.1; omega⟩ W)
          have hplt := (pickN_lt u.v xs.length (by omega)).1
          have HE : Hid (nearW L u = ⟨true, (place L (pickN u.v xs.length) : Nat)⟩) := by show nearW L u = _; unfold nearW; rw [if_pos HPT.out, if_neg (by rw [← HXL.out]; exact hL), HXL.out]
          obtain ⟨r, hr⟩ : ∃ r, pickN u.v xs.length = r := ⟨_, rfl⟩
          rw [hr] at HPK hplt HE
          have r0 : (0 : Int) ≤ (r : Int) := by omega
          obtain ⟨y, hy⟩ : ∃ y, xs[r]? = some y := ⟨_, List.getElem?_eq_getElem (by omega)⟩
          obtain ⟨b9, o9, hA9, f9, _, _⟩ := (H.out.1.below HB3.out).at rfl hy
          subst hA9
          rw [H.out.1.pl r y hy] at f9
          obtain ⟨nx, hnx⟩ : ∃ nx, xs.length = nx := ⟨_, rfl⟩
          have HNX := Lib.hid hnx
          rw [hnx] at cx1 hplt HPK hL
          have hq0 : ((nx : Int) == 0) = false := by simp; omega
          clear hr hy hpos hnx
          go_upto_region 9 with fail
          refine wp_region_still_tail 16 (by kernel_rfl) (by kernel_rfl) ?_
          simp only [List.take_succ_cons, List.take_zero, List.drop_succ_cons, List.drop_zero]
          repeat still_step
          still_call (HPK.out _)
          repeat still_step
          try refine wpStill_nil ?_
          change wpList _ _ _ _ _ w3.drew
          have H3d := Lib.hid (And.intro (show w3.drew.heap[wr.heap.size]? = _ from H3.out.1) (H3.out.2.trans ((below_drew1 w3).mono H3.out.2.size)))
          clear d0 d1 z0 z1 c0 cx1 cx2 f9
          generalize w3.drew = wd at *
          obtain ⟨d0, d1⟩ := cells2 H3d.out.1
          have z1 := frozenN H3d.out.1 1
          go_upto_region 10 with fail
          have hx5 := set_cells H3d.out.1 1 (.int .i64 (place L r : Nat))
          have hb5 : Below wr.heap.size wd (wd.setCell ⟨wr.heap.size, 1, none⟩ (.int .i64 (place L r : Nat))) := (Below.refl _ _).setCell (p := ⟨wr.heap.size, 1, none⟩) (Nat.le_refl _) _
          have H5 := Lib.hid (And.intro hx5 (H3d.out.2.trans hb5))
          clear d0 d1 z1 hx5 hb5
          generalize wd.setCell ⟨wr.heap.size, 1, none⟩ (.int .i64 (place L r : Nat)) = w5 at *
          obtain ⟨d0, d1⟩ := cells2 (x0 := .bool u.ptr) (x1 := .int .i64 (place L r : Nat)) H5.out.1
          rw [HPT.out] at d0
          have HB5 := Lib.hid (HW.out.2.1.trans (H5.out.2.mono HW.out.2.1.size))
          have HE4 := Lib.hid (rd_one w5 ⟨true, (place L r : Nat)⟩)
          have HA4 := Lib.hid ((Below.refl w5.heap.size w5).alloc (Nat.le_refl _) (.cells #[.bool true, .int .i64 (place L r : Nat)] WTy))
          have HO4 := Lib.hid (own_below (own_below HW.out.1 H5.out.2) HA4.out)
          have HL4 := Lib.hid (Nat.le_trans HB5.out.size HA4.out.size)
          go_wp2_with (at_builtin; refine wpList_app elWord _ rfl (.tmp 43) (.tmp 45) rfl _ _ k _ rfl HO4.out (some ⟨w5.heap.size, 0, none⟩) 1 1 _ rfl HE4.out (wcells_ones _) HLB.out HL4.out ?_; intro v6 w6 hown6 hb6 hg6 hat6; rw [← wcells_append] at hown6; have H6 := Lib.hid (And.intro hown6 (HB5.out.trans ((HA4.out.mono HB5.out.size).trans hb6))); clear hown6 hb6 hg6 hat6)
          exact ⟨⟨k + 1, by go_num, by omega, by rw [HT.out, HE.out]; exact H6.out.1, H6.out.2⟩, by simp [intOf] <;> omega⟩
      · rw [hp] at d0
        have HE : Hid (nearW L u = ⟨false, u.v⟩) := by show nearW L u = _; unfold nearW; rw [if_neg (by simp [hp])]; obtain ⟨a, b⟩ := u; simp at hp; rw [hp]
        clear hp
        have HE4 := Lib.hid (rd_one w3 ⟨false, u.v⟩)
        have HA4 := Lib.hid ((Below.refl w3.heap.size w3).alloc (Nat.le_refl _) (.cells #[.bool false, .int .i64 u.v] WTy))
        have HO4 := Lib.hid (own_below (own_below HW.out.1 H3.out.2) HA4.out)
        have HL4 := Lib.hid (Nat.le_trans HB3.out.size HA4.out.size)
        go_wp2_with (at_builtin; refine wpList_app elWord _ rfl (.tmp 43) (.tmp 45) rfl _ _ k _ rfl HO4.out (some ⟨w3.heap.size, 0, none⟩) 1 1 _ rfl HE4.out (wcells_ones _) HLB.out HL4.out ?_; intro v6 w6 hown6 hb6 hg6 hat6; rw [← wcells_append] at hown6; have H6 := Lib.hid (And.intro hown6 (HB3.out.trans ((HA4.out.mono HB3.out.size).trans hb6))); clear hown6 hb6 hg6 hat6)
        exact ⟨⟨k + 1, by go_num, by omega, by rw [HT.out, HE.out]; exact H6.out.1, H6.out.2⟩, by simp [intOf] <;> omega⟩
    · have HB := Lib.hid (And.intro hown hb)
      have hkk : k = l.length := by omega
      clear hown hb hk
      go_wp2_with fail
      go_returns
      exact ⟨_, rfl, by have := HB.out.1; rw [hkk, List.take_length] at this; exact this, HB.out.2⟩
end
end Go.Proofs.Ythblcfhflkapmaa

namespace Go.Proofs.Ythblcfhflkapmaa
open Go Go.ChangeShapes Go.WideShapes Go.ChangeAt Go.RowKit Go.Sort
set_option linter.unusedVariables false
set_option linter.unusedSimpArgs false

noncomputable def tlP (n : Nat) : Code := dropSeqR n (Try.f3.body.getD .skip)
def headSeqR : Code → Code
  | .seq a _ => a
  | c => c
def loopIn : Code → Code
  | .seq _ (.block _ (.loop c)) => c
  | c => c
def bodyIn : Code → Code
  | .seq _ (.seq (.block _ b) _) => b
  | c => c
def blockIn : Code → Code
  | .block _ b => b
  | c => c
def thenIn : Code → Code
  | .cond _ t _ => t
  | c => c
def elseIn : Code → Code
  | .cond _ _ e => e
  | c => c
/-- A deed's text. -/
noncomputable def deedC : Code := bodyIn (loopIn (headSeqR (tlP 8)))
/-- What is done by its number: a switch. -/
noncomputable def switchC : Code := dropSeqR 1 (blockIn (dropSeqR 1 (headSeqR (dropSeqR 6 deedC))))
/-- The four ways. -/
noncomputable def makeC : Code := thenIn switchC
noncomputable def setC : Code := thenIn (dropSeqR 1 (elseIn switchC))
noncomputable def readC : Code := thenIn (dropSeqR 1 (elseIn (dropSeqR 1 (elseIn switchC))))
noncomputable def collC : Code := elseIn (dropSeqR 1 (elseIn (dropSeqR 1 (elseIn switchC))))

section
variable {w w' : World} {B hb mb : Nat} {size runs : Int} {L : List Ob} {V G V' G' : Value}
theorem CH.keep (h : CH w B hb size runs L V G V' G') (hk : ∀ b, ¬ Nh hb V G V' G' b → b < w.heap.size → w'.heap[b]? = w.heap[b]?) : CH w' B hb size runs L V G V' G' := by
  obtain ⟨n1, x1, s1⟩ := h.sw
  obtain ⟨n2, x2, s2⟩ := h.sg
  exact ⟨(hk hb (fun e => e.1 rfl) (lt_of_heap h.hd)).trans h.hd, own_keep h.fw (fun g hg hl => hk g (fun e => e.2.1 hg.symm) hl), own_keep h.fg (fun g hg hl => hk g (fun e => e.2.2.1 hg.symm) hl), ⟨n1, x1, own_keep s1 (fun g hg hl => hk g (fun e => e.2.2.2.1 hg.symm) hl)⟩, ⟨n2, x2, own_keep s2 (fun g hg hl => hk g (fun e => e.2.2.2.2 hg.symm) hl)⟩, h.dw, h.dg, h.ge⟩
end
/-- What holds between two deeds: the heap and the document's heap hold the same, and lie apart; the roots lie apart of both. -/
structure HP (w0 w : World) (N hb mb : Nat) (half : Int) (i : Nat) (L : List Ob) (runs : Int) (rs : List Wd) (V G V' G' x : Value) (xs : List RO) (A : Option Addr) : Prop where
  ch : CH w N hb half runs L V G V' G'
  rh : RH w N mb half runs L x xs
  wf : Wf L
  sz : (sizes L : Int) ≤ half
  ru : 0 ≤ runs ∧ runs ≤ i
  ln : rs.length ≤ i
  dj : ∀ b, b < w.heap.size → Nh hb V G V' G' b ∨ Nr mb x xs b
  rt : Rd w 2 A rs.length (wcells rs)
  ra : ∀ a, A = some a → a.block < w.heap.size ∧ Nh hb V G V' G' a.block ∧ Nr mb x xs a.block
  fn : ∀ u ∈ rs, Fine L u
  bl : Below N w0 w
  le : N ≤ w.heap.size
section
variable {w0 w w' : World} {N hb mb i : Nat} {half runs : Int} {L : List Ob} {V G V' G' x : Value} {xs : List RO} {A : Option Addr} {rs : List Wd}
theorem HP.below (h : HP w0 w N hb mb half i L runs rs V G V' G' x xs A) (hb' : Below w.heap.size w w') : HP w0 w' N hb mb half i L runs rs V G V' G' x xs A :=
  ⟨h.ch.below hb', h.rh.below hb', h.wf, h.sz, h.ru, h.ln, fun b hl => by
    rcases Nat.lt_or_ge b w.heap.size with q | q
    · exact h.dj b q
    · exact .inl (h.ch.fresh q), h.rt.below hb', fun a ha => ⟨Nat.lt_of_lt_of_le (h.ra a ha).1 hb'.size, (h.ra a ha).2⟩, h.fn, h.bl.trans (hb'.mono h.le), Nat.le_trans h.le hb'.size⟩
theorem HP.up (h : HP w0 w N hb mb half i L runs rs V G V' G' x xs A) : HP w0 w N hb mb half (i + 1) L runs rs V G V' G' x xs A :=
  ⟨h.ch, h.rh, h.wf, h.sz, ⟨h.ru.1, by have := h.ru.2; omega⟩, by have := h.ln; omega, h.dj, h.rt, h.ra, h.fn, h.bl, h.le⟩
/-- What the heap does leaves the document's heap. -/
theorem RH.beside {V1 G1 V1' G1' : Value} {hb1 : Nat} (h : RH w N mb half runs L x xs) (dj : ∀ b, b < w.heap.size → Nh hb V G V' G' b ∨ Nr mb x xs b) (ht : Tr w (Nh hb V G V' G') w' (Nh hb1 V1 G1 V1' G1')) : RH w' N mb half runs L x xs :=
  h.keep fun b hn hl => (ht b ((dj b hl).resolve_right hn) hl).2
theorem CH.aside {x1 : Value} {xs1 : List RO} (h : CH w N hb half runs L V G V' G') (dj : ∀ b, b < w.heap.size → Nh hb V G V' G' b ∨ Nr mb x xs b) (ht : Tr w (Nr mb x xs) w' (Nr mb x1 xs1)) : CH w' N hb half runs L V G V' G' :=
  h.keep fun b hn hl => (ht b ((dj b hl).resolve_left hn) hl).2
/-- One behind the other: first the heap, then the document's. -/
theorem dj_two {w1 w2 w3 : World} {V1 G1 V1' G1' x1 : Value} {xs1 : List RO} {L1 : List Ob} {runs1 : Int} (h : RH w N mb half runs L x xs) (dj : ∀ b, b < w.heap.size → Nh hb V G V' G' b ∨ Nr mb x xs b) (t1 : Tr w (Nh hb V G V' G') w1 (Nh hb V1 G1 V1' G1')) (h1 : CH w1 N hb half runs1 L1 V1 G1 V1' G1') (hs : w1.heap.size ≤ w2.heap.size) (t2 : Tr w2 (Nr mb x xs) w3 (Nr mb x1 xs1)) :
    ∀ b, Nh hb V1 G1 V1' G1' b ∨ Nr mb x1 xs1 b := by
  intro b
  rcases Nat.lt_or_ge b w1.heap.size with q1 | q1
  · rcases Nat.lt_or_ge b w.heap.size with q | q
    · rcases dj b q with h2 | h2
      · exact .inl (t1 b h2 q).1
      · exact .inr (t2 b h2 (by omega)).1
    · exact .inr (t2 b (h.fresh q) (by omega)).1
  · exact .inl (h1.fresh q1)
end
/-- A deed's cells, all. -/
theorem DR.all {w : World} {A : Option Addr} {ds : List Dd} (h : DR w A ds) {k : Nat} {d : Dd} (hk : ds[k]? = some d) : ∃ b o, A = some ⟨b, o, none⟩ ∧ b < w.heap.size ∧ ∀ (j : Nat) (u : Value), d.cells[j]? = some u → w.cell? ⟨b, o + k * 8 + j, none⟩ = some u := by
  have hkl := (List.getElem?_eq_some_iff.1 hk).1
  obtain ⟨b, o, rfl, hb, hh⟩ := h.row.base (by rw [dds_len]; omega)
  refine ⟨b, o, rfl, hb, fun j u hu => ?_⟩
  have hj : j < 8 := (List.getElem?_eq_some_iff.1 hu).1
  rw [Nat.add_assoc]
  exact hh _ _ (dd_at hk j u hj hu)
theorem cells8 {w : World} {g : Nat} {x0 x1 x2 x3 x4 x5 x6 x7 : Value} {T : TypeId} {fr : Nat × Nat} (h : w.heap[g]? = some (.cells #[x0, x1, x2, x3, x4, x5, x6, x7] T fr)) :
    w.cell? ⟨g, 0, none⟩ = some x0 ∧ w.cell? ⟨g, 1, none⟩ = some x1 ∧ w.cell? ⟨g, 2, none⟩ = some x2 ∧ w.cell? ⟨g, 3, none⟩ = some x3 ∧ w.cell? ⟨g, 4, none⟩ = some x4 ∧ w.cell? ⟨g, 5, none⟩ = some x5 ∧ w.cell? ⟨g, 6, none⟩ = some x6 ∧ w.cell? ⟨g, 7, none⟩ = some x7 := by
  refine ⟨?_, ?_, ?_, ?_, ?_, ?_, ?_, ?_⟩ <;> (rw [Lib.cell_of_heap h]; rfl)
end Go.Proofs.Ythblcfhflkapmaa

namespace Go.Proofs.Ythblcfhflkapmaa
open Go Go.ChangeShapes Go.WideShapes Go.ChangeAt Go.RowKit Go.Sort
set_option linter.unusedVariables false
set_option linter.unusedSimpArgs false

abbrev DeTy : TypeId := 38
/-- A deed that is under way: it and its word in boxes, its words; all of it apart of both heaps (P). -/
structure DS (w : World) (P : Nat → Prop) (bx bw : Nat) (d : Dd) (Al : Option Addr) (l : List Wd) (u : Wd) : Prop where
  cx : w.heap[bx]? = some (.cells #[.int .i64 d.what, .int .i64 d.kind, .int .i64 d.place, .int .i64 d.i, .bool d.near, .bool d.u.ptr, .int .i64 d.u.v, .slice d.A d.l.length d.c] DeTy)
  pb : P bx
  cw : w.heap[bw]? = some (.cells #[.bool u.ptr, .int .i64 u.v] WTy)
  pw : P bw
  rl : Rd w 2 Al l.length (wcells l)
  ll : l.length ≤ 60
  pl : 0 < l.length → ∀ a, Al = some a → a.block < w.heap.size ∧ P a.block
theorem DS.keep {w w' : World} {P P' : Nat → Prop} {bx bw : Nat} {d : Dd} {Al : Option Addr} {l : List Wd} {u : Wd} (h : DS w P bx bw d Al l u) (hk : ∀ b, P b → b < w.heap.size → P' b ∧ w'.heap[b]? = w.heap[b]?) (hs : w.heap.size ≤ w'.heap.size) : DS w' P' bx bw d Al l u :=
  ⟨(hk bx h.pb (lt_of_heap h.cx)).2.trans h.cx, (hk bx h.pb (lt_of_heap h.cx)).1, (hk bw h.pw (lt_of_heap h.cw)).2.trans h.cw, (hk bw h.pw (lt_of_heap h.cw)).1, h.rl.keepB (fun a ha h0 hl => (hk _ (h.pl (by rw [wcells_len] at h0; omega) a ha).2 hl).2), h.ll, fun h0 a ha => ⟨Nat.lt_of_lt_of_le (h.pl h0 a ha).1 hs, (hk _ (h.pl h0 a ha).2 (h.pl h0 a ha).1).1⟩⟩
theorem DS.below {w w' : World} {P : Nat → Prop} {bx bw : Nat} {d : Dd} {Al : Option Addr} {l : List Wd} {u : Wd} (h : DS w P bx bw d Al l u) (hb : Below w.heap.size w w') : DS w' P bx bw d Al l u := h.keep (fun b hp hl => ⟨hp, hb.block b hl⟩) hb.size
/-- What holds behind a deed. -/
def SP (w0 w' : World) (N hb mb : Nat) (half : Int) (i : Nat) (A' : Option Addr) (n' c' : Nat) : Prop := ∃ L runs rs V G V' G' x xs, n' = rs.length ∧ n' ≤ c' ∧ HP w0 w' N hb mb half i L runs rs V G V' G' x xs A'
set_option maxRecDepth 100000 in
set_option maxHeartbeats 8000000 in
theorem coll_go {u0 u1 u2 u3 u4 u7 u15 u16 u17 u18 u19 u20 u21 u22 u23 u24 u25 u26 u27 u28 u29 u30 u31 u32 u33 u34 u35 u36 u37 u38 u39 u40 u41 u42 u43 u44 u45 u46 u47 u48 u49 u50 u51 u52 u53 u54 u55 u56 u57 u58 u59 u60 u61 u62 u63 u64 u65 u66 u67 u68 u69 u70 u71 u72 u73 u74 u75 u76 u77 u78 u79 u80 u81 u82 u83 u84 u85 u86 u87 u88 u89 u90 u91 u92 u93 u94 u95 u96 u97 u98 u99 u100 u101 u102 u103 u104 u105 u106 u107 u108 u109 u110 u111 u112 u113 u114 u115 u116 u117 u118 u119 u120 u121 u122 u123 u124 u125 u126 u127 u128 u129 u130 u131 u132 u133 u134 u135 u136 u137 u138 u139 u140 u141 u142 u143 u144 u145 u146 u147 u148 u149 u150 u151 u152 u153 u154 u155 u156 u157 u158 u159 u160 u161 u162 u163 u164 u165 u166 u167 u168 u169 u170 u171 u172 u173 u174 u175 u176 u177 u178 u179 u180 u181 u182 u183 u184 u185 u186 u187 u188 u189 u190 u191 u192 u193 u194 u195 u196 u197 u198 u199 u200 u201 u202 u203 u204 u205 u206 u207 u208 u209 u210 u211 u212 u213 u214 u215 u216 u217 u218 u219 u220 u221 u222 u223 u224 u225 u226 u227 u228 u229 u230 u231 u232 u233 u234 u235 u236 u237 u238 u239 u240 u241 u242 u243 u244 u245 u246 u247 u248 u249 u250 u251 u252 u253 u254 u255 u256 u257 u258 u259 u260 u261 u262 u263 u264 u265 u266 u267 u268 u269 u270 u271 u272 u273 u274 u275 u276 u277 u278 u279 u280 u281 u282 u283 u284 u285 u286 u287 u288 u289 u290 u291 u292 u293 u294 u295 u296 u297 u298 u299 u300 u301 u302 u303 u304 u305 u306 u307 u308 u309 u310 u311 u312 u313 u314 u315 u316 u317 u318 u319 u320 u321 u322 u323 u324 u325 u326 u327 u328 u329 u330 u331 u332 u333 u334 u335 u336 u337 u338 u339 u340 u341 u342 u343 u344 u345 u346 u347 u348 u349 u350 u351 u352 u353 u354 u355 u356 u357 u358 u359 u360 u361 u362 u363 u364 u365 u366 u367 u368 u369 u370 u371 u372 u373 u374 u375 u376 u377 u378 u379 : Value} {Q : Exit → Act → World → Prop} (w0 w : World) (N hb mb i bx bw : Nat) (half runs p : Int) (L : List Ob) (rs l : List Wd) (V G V' G' x : Value) (xs : List RO) (A Al : Option Addr) (c9 c12 : Nat) (d : Dd) (u : Wd) (hP : HP w0 w N hb mb half i L runs rs V G V' G' x xs A) (hD : DS w (fun b => Nh hb V G V' G' b ∧ Nr mb x xs b) bx bw d Al l u) (hi : i ≤ 60) (hz : 1 ≤ half ∧ half ≤ 5000) (hI : I64 d.i) (hc9 : rs.length ≤ c9)
    (hQ : ∀ (v4 v11 v12 v13 v14 v15 v16 v17 v18 v19 v20 v21 v22 v23 v24 v25 v26 v27 v28 v29 v30 v31 v32 v33 v34 v35 v36 v81 v82 v83 v84 v85 v86 v87 v88 v89 v90 v91 v92 v93 v94 v95 v96 v97 v98 v99 v100 v101 v102 v103 v104 v105 v106 v107 v108 v109 v110 v111 v112 v113 v114 v115 v116 v117 v118 v119 v120 v121 v122 v123 v124 v125 v126 v127 v128 v129 v130 v131 v132 v133 v134 v135 v136 v137 v138 v139 v140 v141 v142 v143 v144 v145 v146 v147 v148 v149 v150 v151 v152 v153 v154 v155 v156 v157 v158 v159 v160 v161 v162 v163 v164 v165 v166 v167 v168 v169 v170 v171 v172 v173 v174 v175 v176 v177 v178 v179 v180 v181 v182 v183 v184 v185 v186 v187 v188 v189 v190 v191 v192 v193 v194 v195 v196 v197 v198 v199 v200 v201 v202 v203 v204 v205 v206 v207 v208 v209 v210 v211 v212 v213 v214 v215 v216 v217 v218 v219 v220 v221 v222 v223 v224 v225 v226 v227 v228 v229 v230 v231 v232 v233 v234 v235 v236 v237 v238 v239 v240 v241 v242 v243 v244 v245 v246 v247 v248 v249 v250 v251 v252 v253 v254 v255 v256 v257 v258 v259 v260 v261 v262 v263 v264 v265 v266 v267 v268 v269 v270 v271 v272 v273 v274 v275 v276 v277 v278 v279 v280 v281 v282 v283 v284 v285 v286 v287 v288 v289 v290 v291 v292 v293 v294 v295 v296 v297 v298 v299 v300 v301 v302 v303 v304 v305 v306 v307 v308 v309 v310 v311 v312 v313 v314 v315 v316 v317 v318 v319 v320 v321 v322 v323 v324 v325 v326 v327 v328 v329 v330 v331 v332 v333 v334 v335 v336 v337 v338 v339 v340 v341 v342 v343 v344 v345 v346 v347 v348 v349 v350 v351 v352 v353 v354 v355 v356 v357 v358 v359 v360 v361 v362 v363 v364 v365 v366 v367 v368 v369 v370 v371 v372 v373 v374 v375 v376 v377 v378 : Value) (w' : World) (A' : Option Addr) (n' c' : Nat), SP w0 w' N hb mb half (i + 1) A' n' c' → Q .normal ⟨#[u0, u1, u2, u3, v4, .bool true, .pointer (some ⟨hb, 0, none⟩), u7, .pointer (some ⟨mb, 0, none⟩), (.slice A' n' c'), .int .i64 (i : Nat), v11, v12, v13, v14, v15, v16, v17, v18, v19, v20, v21, v22, v23, v24, v25, v26, v27, v28, v29, v30, v31, v32, v33, v34, v35, v36, u37, u38, u39, u40, u41, u42, u43, u44, u45, u46, u47, u48, u49, u50, u51, u52, u53, u54, u55, u56, u57, u58, u59, u60, u61, u62, u63, u64, u65, u66, u67, u68, u69, u70, u71, u72, u73, u74, u75, u76, u77, u78, u79, u80, v81, v82, v83, v84, v85, v86, v87, v88, v89, v90, v91, v92, v93, v94, v95, v96, v97, v98, v99, v100, v101, v102, v103, v104, v105, v106, v107, v108, v109, v110, v111, v112, v113, v114, v115, v116, v117, v118, v119, v120, v121, v122, v123, v124, v125, v126, v127, v128, v129, v130, v131, v132, v133, v134, v135, v136, v137, v138, v139, v140, v141, v142, v143, v144, v145, v146, v147, v148, v149, v150, v151, v152, v153, v154, v155, v156, v157, v158, v159, v160, v161, v162, v163, v164, v165, v166, v167, v168, v169, v170, v171, v172, v173, v174, v175, v176, v177, v178, v179, v180, v181, v182, v183, v184, v185, v186, v187, v188, v189, v190, v191, v192, v193, v194, v195, v196, v197, v198, v199, v200, v201, v202, v203, v204, v205, v206, v207, v208, v209, v210, v211, v212, v213, v214, v215, v216, v217, v218, v219, v220, v221, v222, v223, v224, v225, v226, v227, v228, v229, v230, v231, v232, v233, v234, v235, v236, v237, v238, v239, v240, v241, v242, v243, v244, v245, v246, v247, v248, v249, v250, v251, v252, v253, v254, v255, v256, v257, v258, v259, v260, v261, v262, v263, v264, v265, v266, v267, v268, v269, v270, v271, v272, v273, v274, v275, v276, v277, v278, v279, v280, v281, v282, v283, v284, v285, v286, v287, v288, v289, v290, v291, v292, v293, v294, v295, v296, v297, v298, v299, v300, v301, v302, v303, v304, v305, v306, v307, v308, v309, v310, v311, v312, v313, v314, v315, v316, v317, v318, v319, v320, v321, v322, v323, v324, v325, v326, v327, v328, v329, v330, v331, v332, v333, v334, v335, v336, v337, v338, v339, v340, v341, v342, v343, v344, v345, v346, v347, v348, v349, v350, v351, v352, v353, v354, v355, v356, v357, v358, v359, v360, v361, v362, v363, v364, v365, v366, v367, v368, v369, v370, v371, v372, v373, v374, v375, v376, v377, v378, u379], []⟩ w') :
    Code.wp Try.prog (dropSeqR 1 collC) Q ⟨#[u0, u1, u2, u3, u4, .bool true, .pointer (some ⟨hb, 0, none⟩), u7, .pointer (some ⟨mb, 0, none⟩), .slice A rs.length c9, .int .i64 (i : Nat), .pointer (some ⟨bx, 0, none⟩), .slice Al l.length c12, .pointer (some ⟨bw, 0, none⟩), .int .i64 p, u15, u16, u17, u18, u19, u20, u21, u22, u23, u24, u25, u26, u27, u28, u29, u30, u31, u32, u33, u34, u35, u36, u37, u38, u39, u40, u41, u42, u43, u44, u45, u46, u47, u48, u49, u50, u51, u52, u53, u54, u55, u56, u57, u58, u59, u60, u61, u62, u63, u64, u65, u66, u67, u68, u69, u70, u71, u72, u73, u74, u75, u76, u77, u78, u79, u80, u81, u82, u83, u84, u85, u86, u87, u88, u89, u90, u91, u92, u93, u94, u95, u96, u97, u98, u99, u100, u101, u102, u103, u104, u105, u106, u107, u108, u109, u110, u111, u112, u113, u114, u115, u116, u117, u118, u119, u120, u121, u122, u123, u124, u125, u126, u127, u128, u129, u130, u131, u132, u133, u134, u135, u136, u137, u138, u139, u140, u141, u142, u143, u144, u145, u146, u147, u148, u149, u150, u151, u152, u153, u154, u155, u156, u157, u158, u159, u160, u161, u162, u163, u164, u165, u166, u167, u168, u169, u170, u171, u172, u173, u174, u175, u176, u177, u178, u179, u180, u181, u182, u183, u184, u185, u186, u187, u188, u189, u190, u191, u192, u193, u194, u195, u196, u197, u198, u199, u200, u201, u202, u203, u204, u205, u206, u207, u208, u209, u210, u211, u212, u213, u214, u215, u216, u217, u218, u219, u220, u221, u222, u223, u224, u225, u226, u227, u228, u229, u230, u231, u232, u233, u234, u235, u236, u237, u238, u239, u240, u241, u242, u243, u244, u245, u246, u247, u248, u249, u250, u251, u252, u253, u254, u255, u256, u257, u258, u259, u260, u261, u262, u263, u264, u265, u266, u267, u268, u269, u270, u271, u272, u273, u274, u275, u276, u277, u278, u279, u280, u281, u282, u283, u284, u285, u286, u287, u288, u289, u290, u291, u292, u293, u294, u295, u296, u297, u298, u299, u300, u301, u302, u303, u304, u305, u306, u307, u308, u309, u310, u311, u312, u313, u314, u315, u316, u317, u318, u319, u320, u321, u322, u323, u324, u325, u326, u327, u328, u329, u330, u331, u332, u333, u334, u335, u336, u337, u338, u339, u340, u341, u342, u343, u344, u345, u346, u347, u348, u349, u350, u351, u352, u353, u354, u355, u356, u357, u358, u359, u360, u361, u362, u363, u364, u365, u366, u367, u368, u369, u370, u371, u372, u373, u374, u375, u376, u377, u378, u379], []⟩ w := by
  have hL : sizes L ≤ 4000000 := by have := hP.sz; omega
  have hLl : L.length ≤ 4000000 := by
    have h : L.length ≤ sizes L := by
      clear hP hD hQ hL
      induction L with
      | nil => simp
      | cons o L ih => simp only [List.length_cons, sizes, osz]; omega
    omega
  have hln := hP.ln
  have HC := Lib.hid (Collect_any hP.ch hP.wf hL hP.le ⟨hP.ru.1, by have := hP.ru.2; omega⟩ A c9 hP.rt hP.fn (by omega))
  have H := Lib.hid hP
  have HQ := Lib.hid hQ
  have HX := Lib.hid (And.intro hL (And.intro hLl (And.intro hi (And.intro hz (And.intro hln hc9)))))
  clear hP hD hi hz hI hc9 hQ hL hLl hln
  conv => arg 2; whnf
  go_wp2_with fail
  refine HC.out.mono ?_
  rintro e w1 ⟨v, V1, G1, V1', G1', rfl, hch, hown, hnh, htr, hbl⟩
  obtain ⟨Av, cv, rfl, _⟩ := own_cap hown
  have H1 := Lib.hid (And.intro hch (And.intro hown (And.intro hnh (And.intro htr hbl))))
  clear hch hown hnh htr hbl
  dsimp only
  go_upto_region 29 with fail
  have hr1 : Rd w1 2 A rs.length (wcells rs) := H.out.rt.keepB (fun a ha _ hl => (H1.out.2.2.2.1 _ (H.out.ra a ha).2.1 hl).2)
  have HALL := Lib.hid (all_any w1 A rs c9 hr1 (by have := HX.out.2.2.1; have := HX.out.2.2.2.2.1; omega))
  have HRH := Lib.hid (H.out.rh.beside H.out.dj H1.out.2.2.2.1)
  have HRC := Lib.hid (fun (W : World) (hW : Below w1.heap.size w1 W) (A2 : Option Addr) (c2 : Nat) (hr : Rd W 2 A2 rs.length (wcells rs)) => RCollect_any W A2 c2 (HRH.out.below hW) (Nat.le_trans (Nat.le_trans H.out.le H1.out.2.2.2.2.size) hW.size) H.out.wf HX.out.2.1 HX.out.1 hr (by have := HX.out.2.2.1; have := HX.out.2.2.2.2.1; omega) H.out.fn ⟨H.out.ru.1, by have := H.out.ru.2; have := HX.out.2.2.1; omega⟩)
  clear hr1
  go_upto_region 30 with (first
    | (go_at_call 11; (with_reducible refine HALL.out.mono ?_); rintro e w2 ⟨v2, rfl, hown2, hb2⟩; obtain ⟨A2, c2, rfl, _⟩ := own_cap hown2; have H2 := Lib.hid (And.intro (Rd.of_own hown2) hb2); clear hown2 hb2; dsimp only)
    | (go_at_call 22; (with_reducible refine (HRC.out _ H2.out.2 _ _ H2.out.1).mono ?_); rintro e w3 ⟨v3, x', xs', rfl, hown3, hrh3, hnr3, htr3, hbl3⟩; obtain ⟨A3, c3, rfl, _⟩ := own_cap hown3; have H3 := Lib.hid (And.intro hown3 (And.intro hrh3 (And.intro hnr3 (And.intro htr3 hbl3)))); clear hown3 hrh3 hnr3 htr3 hbl3; dsimp only))
  have hcl : (collR L rs).length = rs.length := by simp [collR]
  have hg : ∀ a, Av = some a → w.heap.size ≤ a.block ∧ a.block < w1.heap.size ∧ Nh hb V1 G1 V1' G1' a.block := fun a ha => ⟨(H1.out.2.2.1 a.block (by rw [ha]; rfl)).2, (H1.out.2.1.lt a.block (by rw [ha]; rfl)).2, (H1.out.2.2.1 a.block (by rw [ha]; rfl)).1⟩
  have hnr : ∀ a, Av = some a → Nr mb x' xs' a.block ∧ w3.heap[a.block]? = w2.heap[a.block]? := fun a ha => H3.out.2.2.2.1 _ (H.out.rh.fresh (hg a ha).1) (by have := (hg a ha).2.1; have := H2.out.2.size; omega)
  have hr3 : Rd w3 2 Av rs.length (wcells (collR L rs)) := (Rd.of_own H1.out.2.1).keepB (fun a ha _ hl => (hnr a ha).2.trans (H2.out.2.block _ hl))
  have HG := Lib.hid (And.intro hg (And.intro hnr hr3))
  have HCLN := Lib.hid hcl
  have HA3 := all_any w3 Av (collR L rs) cv (by rw [hcl]; exact hr3) (by rw [hcl]; have := HX.out.2.2.1; have := HX.out.2.2.2.2.1; omega)
  have HSM := Lib.hid (fun (W : World) (hW : Below w3.heap.size w3 W) (A4 : Option Addr) (c4 : Nat) (hr : Rd W 2 A4 (collR L rs).length (wcells (collR L rs))) => same_any W A4 A3 (collR L rs) c4 c3 hr (by rw [hcl]; exact (Rd.of_own H3.out.1).below hW) (by rw [hcl]; have := HX.out.2.2.1; have := HX.out.2.2.2.2.1; omega))
  rw [hcl] at HA3 HSM
  have HA4 := Lib.hid HA3
  clear hcl hg hnr hr3 HA3
  go_wp2_with (first
    | (go_at_call 11; (with_reducible refine HA4.out.mono ?_); rintro e w4 ⟨v4, rfl, hown4, hb4⟩; obtain ⟨A4, c4, rfl, _⟩ := own_cap hown4; have H4 := Lib.hid (And.intro (Rd.of_own hown4) hb4); clear hown4 hb4; dsimp only)
    | (go_at_call 13; (with_reducible refine (HSM.out _ H4.out.2 _ _ H4.out.1).mono ?_); rintro e w5 ⟨rfl, hb5⟩; have H5 := Lib.hid (below_then H4.out.2 hb5); clear hb5; dsimp only))
  refine HQ.out _ _ _ _ _ _ _ _ _ _ _ _ _ _ _ _ _ _ _ _ _ _ _ _ _ _ _ _ _ _ _ _ _ _ _ _ _ _ _ _ _ _ _ _ _ _ _ _ _ _ _ _ _ _ _ _ _ _ _ _ _ _ _ _ _ _ _ _ _ _ _ _ _ _ _ _ _ _ _ _ _ _ _ _ _ _ _ _ _ _ _ _ _ _ _ _ _ _ _ _ _ _ _ _ _ _ _ _ _ _ _ _ _ _ _ _ _ _ _ _ _ _ _ _ _ _ _ _ _ _ _ _ _ _ _ _ _ _ _ _ _ _ _ _ _ _ _ _ _ _ _ _ _ _ _ _ _ _ _ _ _ _ _ _ _ _ _ _ _ _ _ _ _ _ _ _ _ _ _ _ _ _ _ _ _ _ _ _ _ _ _ _ _ _ _ _ _ _ _ _ _ _ _ _ _ _ _ _ _ _ _ _ _ _ _ _ _ _ _ _ _ _ _ _ _ _ _ _ _ _ _ _ _ _ _ _ _ _ _ _ _ _ _ _ _ _ _ _ _ _ _ _ _ _ _ _ _ _ _ _ _ _ _ _ _ _ _ _ _ _ _ _ _ _ _ _ _ _ _ _ _ _ _ _ _ _ _ _ _ _ _ _ _ _ _ _ _ _ _ _ _ _ _ _ _ _ _ _ _ _ _ _ _ _ _ _ _ _ _ _ _ _ _ _ _ _ _ _ _ ⟨collO L rs, runs + 1, collR L rs, V1, G1, V1', G1', x', xs', HCLN.out.symm, ?_, ?_⟩
  · have := (own_cap H1.out.2.1)
    obtain ⟨A', c', e, h1, _⟩ := this
    injection e with _ _ e
    omega
  · have hs1 := H1.out.2.2.2.2.size
    have hd1 : ∀ b, Nh hb V1 G1 V1' G1' b ∨ Nr mb x xs b := dj_two H.out.rh H.out.dj H1.out.2.2.2.1 H1.out.1 (Nat.le_refl _) (Tr.refl w1 _)
    have hd3 : ∀ b, Nh hb V1 G1 V1' G1' b ∨ Nr mb x' xs' b := dj_two H.out.rh H.out.dj H1.out.2.2.2.1 H1.out.1 H2.out.2.size H3.out.2.2.2.1
    have hc3 := (H1.out.1.below H2.out.2).aside (fun b _ => hd1 b) H3.out.2.2.2.1
    have hbl : Below N w0 w3 := H.out.bl.trans (H1.out.2.2.2.2.trans ((H2.out.2.mono (Nat.le_trans H.out.le hs1)).trans H3.out.2.2.2.2))
    have hle : N ≤ w3.heap.size := Nat.le_trans H.out.le (Nat.le_trans hs1 (Nat.le_trans H2.out.2.size H3.out.2.2.2.2.size))
    have hP3 : HP w0 w3 N hb mb half (i + 1) (collO L rs) (runs + 1) (collR L rs) V1 G1 V1' G1' x' xs' Av :=
      ⟨hc3, H3.out.2.1, H.out.wf.coll _, coll_le L _ H.out.sz, ⟨by have := H.out.ru.1; omega, by have := H.out.ru.2; omega⟩, by rw [HCLN.out]; have := H.out.ln; omega, fun b _ => hd3 b, by rw [HCLN.out]; exact HG.out.2.2, fun a ha => ⟨Nat.lt_of_lt_of_le (HG.out.1 a ha).2.1 (Nat.le_trans H2.out.2.size H3.out.2.2.2.2.size), (HG.out.1 a ha).2.2, (HG.out.2.1 a ha).1⟩, collR_fine H.out.fn, hbl, hle⟩
    exact hP3.below H5.out
end Go.Proofs.Ythblcfhflkapmaa

namespace Go.Proofs.Ythblcfhflkapmaa
open Go Go.ChangeShapes Go.WideShapes Go.ChangeAt Go.RowKit Go.Sort
set_option linter.unusedVariables false
set_option linter.unusedSimpArgs false

theorem coll_go2 {u0 u1 u2 u3 u4 u7 u15 u16 u17 u18 u19 u20 u21 u22 u23 u24 u25 u26 u27 u28 u29 u30 u31 u32 u33 u34 u35 u36 u37 u38 u39 u40 u41 u42 u43 u44 u45 u46 u47 u48 u49 u50 u51 u52 u53 u54 u55 u56 u57 u58 u59 u60 u61 u62 u63 u64 u65 u66 u67 u68 u69 u70 u71 u72 u73 u74 u75 u76 u77 u78 u79 u80 u81 u82 u83 u84 u85 u86 u87 u88 u89 u90 u91 u92 u93 u94 u95 u96 u97 u98 u99 u100 u101 u102 u103 u104 u105 u106 u107 u108 u109 u110 u111 u112 u113 u114 u115 u116 u117 u118 u119 u120 u121 u122 u123 u124 u125 u126 u127 u128 u129 u130 u131 u132 u133 u134 u135 u136 u137 u138 u139 u140 u141 u142 u143 u144 u145 u146 u147 u148 u149 u150 u151 u152 u153 u154 u155 u156 u157 u158 u159 u160 u161 u162 u163 u164 u165 u166 u167 u168 u169 u170 u171 u172 u173 u174 u175 u176 u177 u178 u179 u180 u181 u182 u183 u184 u185 u186 u187 u188 u189 u190 u191 u192 u193 u194 u195 u196 u197 u198 u199 u200 u201 u202 u203 u204 u205 u206 u207 u208 u209 u210 u211 u212 u213 u214 u215 u216 u217 u218 u219 u220 u221 u222 u223 u224 u225 u226 u227 u228 u229 u230 u231 u232 u233 u234 u235 u236 u237 u238 u239 u240 u241 u242 u243 u244 u245 u246 u247 u248 u249 u250 u251 u252 u253 u254 u255 u256 u257 u258 u259 u260 u261 u262 u263 u264 u265 u266 u267 u268 u269 u270 u271 u272 u273 u274 u275 u276 u277 u278 u279 u280 u281 u282 u283 u284 u285 u286 u287 u288 u289 u290 u291 u292 u293 u294 u295 u296 u297 u298 u299 u300 u301 u302 u303 u304 u305 u306 u307 u308 u309 u310 u311 u312 u313 u314 u315 u316 u317 u318 u319 u320 u321 u322 u323 u324 u325 u326 u327 u328 u329 u330 u331 u332 u333 u334 u335 u336 u337 u338 u339 u340 u341 u342 u343 u344 u345 u346 u347 u348 u349 u350 u351 u352 u353 u354 u355 u356 u357 u358 u359 u360 u361 u362 u363 u364 u365 u366 u367 u368 u369 u370 u371 u372 u373 u374 u375 u376 u377 u378 u379 : Value} {Q : Exit → Act → World → Prop} (n9 : Nat) (w0 w : World) (N hb mb i bx bw : Nat) (half runs p : Int) (L : List Ob) (rs l : List Wd) (V G V' G' x : Value) (xs : List RO) (A Al : Option Addr) (c9 c12 : Nat) (d : Dd) (u : Wd) (e9 : rs.length = n9) (hP : HP w0 w N hb mb half i L runs rs V G V' G' x xs A) (hD : DS w (fun b => Nh hb V G V' G' b ∧ Nr mb x xs b) bx bw d Al l u) (hi : i ≤ 60) (hz : 1 ≤ half ∧ half ≤ 5000) (hI : I64 d.i) (hc9 : n9 ≤ c9)
    (hQ : ∀ (v4 v11 v12 v13 v14 v15 v16 v17 v18 v19 v20 v21 v22 v23 v24 v25 v26 v27 v28 v29 v30 v31 v32 v33 v34 v35 v36 v81 v82 v83 v84 v85 v86 v87 v88 v89 v90 v91 v92 v93 v94 v95 v96 v97 v98 v99 v100 v101 v102 v103 v104 v105 v106 v107 v108 v109 v110 v111 v112 v113 v114 v115 v116 v117 v118 v119 v120 v121 v122 v123 v124 v125 v126 v127 v128 v129 v130 v131 v132 v133 v134 v135 v136 v137 v138 v139 v140 v141 v142 v143 v144 v145 v146 v147 v148 v149 v150 v151 v152 v153 v154 v155 v156 v157 v158 v159 v160 v161 v162 v163 v164 v165 v166 v167 v168 v169 v170 v171 v172 v173 v174 v175 v176 v177 v178 v179 v180 v181 v182 v183 v184 v185 v186 v187 v188 v189 v190 v191 v192 v193 v194 v195 v196 v197 v198 v199 v200 v201 v202 v203 v204 v205 v206 v207 v208 v209 v210 v211 v212 v213 v214 v215 v216 v217 v218 v219 v220 v221 v222 v223 v224 v225 v226 v227 v228 v229 v230 v231 v232 v233 v234 v235 v236 v237 v238 v239 v240 v241 v242 v243 v244 v245 v246 v247 v248 v249 v250 v251 v252 v253 v254 v255 v256 v257 v258 v259 v260 v261 v262 v263 v264 v265 v266 v267 v268 v269 v270 v271 v272 v273 v274 v275 v276 v277 v278 v279 v280 v281 v282 v283 v284 v285 v286 v287 v288 v289 v290 v291 v292 v293 v294 v295 v296 v297 v298 v299 v300 v301 v302 v303 v304 v305 v306 v307 v308 v309 v310 v311 v312 v313 v314 v315 v316 v317 v318 v319 v320 v321 v322 v323 v324 v325 v326 v327 v328 v329 v330 v331 v332 v333 v334 v335 v336 v337 v338 v339 v340 v341 v342 v343 v344 v345 v346 v347 v348 v349 v350 v351 v352 v353 v354 v355 v356 v357 v358 v359 v360 v361 v362 v363 v364 v365 v366 v367 v368 v369 v370 v371 v372 v373 v374 v375 v376 v377 v378 : Value) (w' : World) (A' : Option Addr) (n' c' : Nat), SP w0 w' N hb mb half (i + 1) A' n' c' → Q .normal ⟨#[u0, u1, u2, u3, v4, .bool true, .pointer (some ⟨hb, 0, none⟩), u7, .pointer (some ⟨mb, 0, none⟩), (.slice A' n' c'), .int .i64 (i : Nat), v11, v12, v13, v14, v15, v16, v17, v18, v19, v20, v21, v22, v23, v24, v25, v26, v27, v28, v29, v30, v31, v32, v33, v34, v35, v36, u37, u38, u39, u40, u41, u42, u43, u44, u45, u46, u47, u48, u49, u50, u51, u52, u53, u54, u55, u56, u57, u58, u59, u60, u61, u62, u63, u64, u65, u66, u67, u68, u69, u70, u71, u72, u73, u74, u75, u76, u77, u78, u79, u80, v81, v82, v83, v84, v85, v86, v87, v88, v89, v90, v91, v92, v93, v94, v95, v96, v97, v98, v99, v100, v101, v102, v103, v104, v105, v106, v107, v108, v109, v110, v111, v112, v113, v114, v115, v116, v117, v118, v119, v120, v121, v122, v123, v124, v125, v126, v127, v128, v129, v130, v131, v132, v133, v134, v135, v136, v137, v138, v139, v140, v141, v142, v143, v144, v145, v146, v147, v148, v149, v150, v151, v152, v153, v154, v155, v156, v157, v158, v159, v160, v161, v162, v163, v164, v165, v166, v167, v168, v169, v170, v171, v172, v173, v174, v175, v176, v177, v178, v179, v180, v181, v182, v183, v184, v185, v186, v187, v188, v189, v190, v191, v192, v193, v194, v195, v196, v197, v198, v199, v200, v201, v202, v203, v204, v205, v206, v207, v208, v209, v210, v211, v212, v213, v214, v215, v216, v217, v218, v219, v220, v221, v222, v223, v224, v225, v226, v227, v228, v229, v230, v231, v232, v233, v234, v235, v236, v237, v238, v239, v240, v241, v242, v243, v244, v245, v246, v247, v248, v249, v250, v251, v252, v253, v254, v255, v256, v257, v258, v259, v260, v261, v262, v263, v264, v265, v266, v267, v268, v269, v270, v271, v272, v273, v274, v275, v276, v277, v278, v279, v280, v281, v282, v283, v284, v285, v286, v287, v288, v289, v290, v291, v292, v293, v294, v295, v296, v297, v298, v299, v300, v301, v302, v303, v304, v305, v306, v307, v308, v309, v310, v311, v312, v313, v314, v315, v316, v317, v318, v319, v320, v321, v322, v323, v324, v325, v326, v327, v328, v329, v330, v331, v332, v333, v334, v335, v336, v337, v338, v339, v340, v341, v342, v343, v344, v345, v346, v347, v348, v349, v350, v351, v352, v353, v354, v355, v356, v357, v358, v359, v360, v361, v362, v363, v364, v365, v366, v367, v368, v369, v370, v371, v372, v373, v374, v375, v376, v377, v378, u379], []⟩ w') :
    Code.wp Try.prog (dropSeqR 1 collC) Q ⟨#[u0, u1, u2, u3, u4, .bool true, .pointer (some ⟨hb, 0, none⟩), u7, .pointer (some ⟨mb, 0, none⟩), .slice A n9 c9, .int .i64 (i : Nat), .pointer (some ⟨bx, 0, none⟩), .slice Al l.length c12, .pointer (some ⟨bw, 0, none⟩), .int .i64 p, u15, u16, u17, u18, u19, u20, u21, u22, u23, u24, u25, u26, u27, u28, u29, u30, u31, u32, u33, u34, u35, u36, u37, u38, u39, u40, u41, u42, u43, u44, u45, u46, u47, u48, u49, u50, u51, u52, u53, u54, u55, u56, u57, u58, u59, u60, u61, u62, u63, u64, u65, u66, u67, u68, u69, u70, u71, u72, u73, u74, u75, u76, u77, u78, u79, u80, u81, u82, u83, u84, u85, u86, u87, u88, u89, u90, u91, u92, u93, u94, u95, u96, u97, u98, u99, u100, u101, u102, u103, u104, u105, u106, u107, u108, u109, u110, u111, u112, u113, u114, u115, u116, u117, u118, u119, u120, u121, u122, u123, u124, u125, u126, u127, u128, u129, u130, u131, u132, u133, u134, u135, u136, u137, u138, u139, u140, u141, u142, u143, u144, u145, u146, u147, u148, u149, u150, u151, u152, u153, u154, u155, u156, u157, u158, u159, u160, u161, u162, u163, u164, u165, u166, u167, u168, u169, u170, u171, u172, u173, u174, u175, u176, u177, u178, u179, u180, u181, u182, u183, u184, u185, u186, u187, u188, u189, u190, u191, u192, u193, u194, u195, u196, u197, u198, u199, u200, u201, u202, u203, u204, u205, u206, u207, u208, u209, u210, u211, u212, u213, u214, u215, u216, u217, u218, u219, u220, u221, u222, u223, u224, u225, u226, u227, u228, u229, u230, u231, u232, u233, u234, u235, u236, u237, u238, u239, u240, u241, u242, u243, u244, u245, u246, u247, u248, u249, u250, u251, u252, u253, u254, u255, u256, u257, u258, u259, u260, u261, u262, u263, u264, u265, u266, u267, u268, u269, u270, u271, u272, u273, u274, u275, u276, u277, u278, u279, u280, u281, u282, u283, u284, u285, u286, u287, u288, u289, u290, u291, u292, u293, u294, u295, u296, u297, u298, u299, u300, u301, u302, u303, u304, u305, u306, u307, u308, u309, u310, u311, u312, u313, u314, u315, u316, u317, u318, u319, u320, u321, u322, u323, u324, u325, u326, u327, u328, u329, u330, u331, u332, u333, u334, u335, u336, u337, u338, u339, u340, u341, u342, u343, u344, u345, u346, u347, u348, u349, u350, u351, u352, u353, u354, u355, u356, u357, u358, u359, u360, u361, u362, u363, u364, u365, u366, u367, u368, u369, u370, u371, u372, u373, u374, u375, u376, u377, u378, u379], []⟩ w := by
  subst e9
  exact coll_go w0 w N hb mb i bx bw half runs p L rs l V G V' G' x xs A Al c9 c12 d u hP hD hi hz hI hc9 hQ
theorem HP.cut {w0 w : World} {N hb mb i : Nat} {half runs : Int} {L : List Ob} {V G V' G' x : Value} {xs : List RO} {b o : Nat} {rs : List Wd} (h : HP w0 w N hb mb half i L runs rs V G V' G' x xs (some ⟨b, o, none⟩)) {k : Nat} (hk : k ≤ rs.length) : HP w0 w N hb mb half i L runs (rs.take k) V G V' G' x xs (some ⟨b, o, none⟩) := by
  have hl : (rs.take k).length = k := by rw [List.length_take]; omega
  refine ⟨h.ch, h.rh, h.wf, h.sz, h.ru, by rw [hl]; have := h.ln; omega, h.dj, ?_, h.ra, fun u hu => h.fn u (List.mem_of_mem_take hu), h.bl, h.le⟩
  have hr := h.rt.cut (lo := 0) (hi := k) (k := 0) (Nat.zero_le _) hk rfl
  simp only [Option.map_some, Addr.add_lit, Nat.zero_mul, List.drop_zero, Nat.sub_zero, Nat.add_zero] at hr
  have hw := wcells_cut rs 0 k
  simp only [Nat.zero_mul, List.drop_zero] at hw
  rw [hw] at hr
  rw [hl]
  exact hr
set_option maxRecDepth 100000 in
set_option maxHeartbeats 8000000 in
theorem case_coll {u0 u1 u2 u3 u4 u7 u15 u16 u17 u18 u19 u20 u21 u22 u23 u24 u25 u26 u27 u28 u29 u30 u31 u32 u33 u34 u35 u36 u37 u38 u39 u40 u41 u42 u43 u44 u45 u46 u47 u48 u49 u50 u51 u52 u53 u54 u55 u56 u57 u58 u59 u60 u61 u62 u63 u64 u65 u66 u67 u68 u69 u70 u71 u72 u73 u74 u75 u76 u77 u78 u79 u80 u81 u82 u83 u84 u85 u86 u87 u88 u89 u90 u91 u92 u93 u94 u95 u96 u97 u98 u99 u100 u101 u102 u103 u104 u105 u106 u107 u108 u109 u110 u111 u112 u113 u114 u115 u116 u117 u118 u119 u120 u121 u122 u123 u124 u125 u126 u127 u128 u129 u130 u131 u132 u133 u134 u135 u136 u137 u138 u139 u140 u141 u142 u143 u144 u145 u146 u147 u148 u149 u150 u151 u152 u153 u154 u155 u156 u157 u158 u159 u160 u161 u162 u163 u164 u165 u166 u167 u168 u169 u170 u171 u172 u173 u174 u175 u176 u177 u178 u179 u180 u181 u182 u183 u184 u185 u186 u187 u188 u189 u190 u191 u192 u193 u194 u195 u196 u197 u198 u199 u200 u201 u202 u203 u204 u205 u206 u207 u208 u209 u210 u211 u212 u213 u214 u215 u216 u217 u218 u219 u220 u221 u222 u223 u224 u225 u226 u227 u228 u229 u230 u231 u232 u233 u234 u235 u236 u237 u238 u239 u240 u241 u242 u243 u244 u245 u246 u247 u248 u249 u250 u251 u252 u253 u254 u255 u256 u257 u258 u259 u260 u261 u262 u263 u264 u265 u266 u267 u268 u269 u270 u271 u272 u273 u274 u275 u276 u277 u278 u279 u280 u281 u282 u283 u284 u285 u286 u287 u288 u289 u290 u291 u292 u293 u294 u295 u296 u297 u298 u299 u300 u301 u302 u303 u304 u305 u306 u307 u308 u309 u310 u311 u312 u313 u314 u315 u316 u317 u318 u319 u320 u321 u322 u323 u324 u325 u326 u327 u328 u329 u330 u331 u332 u333 u334 u335 u336 u337 u338 u339 u340 u341 u342 u343 u344 u345 u346 u347 u348 u349 u350 u351 u352 u353 u354 u355 u356 u357 u358 u359 u360 u361 u362 u363 u364 u365 u366 u367 u368 u369 u370 u371 u372 u373 u374 u375 u376 u377 u378 u379 : Value} {Q : Exit → Act → World → Prop} (w0 w : World) (N hb mb i bx bw : Nat) (half runs p : Int) (L : List Ob) (rs l : List Wd) (V G V' G' x : Value) (xs : List RO) (A Al : Option Addr) (c9 c12 : Nat) (d : Dd) (u : Wd) (hP : HP w0 w N hb mb half i L runs rs V G V' G' x xs A) (hD : DS w (fun b => Nh hb V G V' G' b ∧ Nr mb x xs b) bx bw d Al l u) (hi : i ≤ 60) (hz : 1 ≤ half ∧ half ≤ 5000) (hI : I64 d.i) (hc9 : rs.length ≤ c9)
    (hQ : ∀ (v4 v11 v12 v13 v14 v15 v16 v17 v18 v19 v20 v21 v22 v23 v24 v25 v26 v27 v28 v29 v30 v31 v32 v33 v34 v35 v36 v81 v82 v83 v84 v85 v86 v87 v88 v89 v90 v91 v92 v93 v94 v95 v96 v97 v98 v99 v100 v101 v102 v103 v104 v105 v106 v107 v108 v109 v110 v111 v112 v113 v114 v115 v116 v117 v118 v119 v120 v121 v122 v123 v124 v125 v126 v127 v128 v129 v130 v131 v132 v133 v134 v135 v136 v137 v138 v139 v140 v141 v142 v143 v144 v145 v146 v147 v148 v149 v150 v151 v152 v153 v154 v155 v156 v157 v158 v159 v160 v161 v162 v163 v164 v165 v166 v167 v168 v169 v170 v171 v172 v173 v174 v175 v176 v177 v178 v179 v180 v181 v182 v183 v184 v185 v186 v187 v188 v189 v190 v191 v192 v193 v194 v195 v196 v197 v198 v199 v200 v201 v202 v203 v204 v205 v206 v207 v208 v209 v210 v211 v212 v213 v214 v215 v216 v217 v218 v219 v220 v221 v222 v223 v224 v225 v226 v227 v228 v229 v230 v231 v232 v233 v234 v235 v236 v237 v238 v239 v240 v241 v242 v243 v244 v245 v246 v247 v248 v249 v250 v251 v252 v253 v254 v255 v256 v257 v258 v259 v260 v261 v262 v263 v264 v265 v266 v267 v268 v269 v270 v271 v272 v273 v274 v275 v276 v277 v278 v279 v280 v281 v282 v283 v284 v285 v286 v287 v288 v289 v290 v291 v292 v293 v294 v295 v296 v297 v298 v299 v300 v301 v302 v303 v304 v305 v306 v307 v308 v309 v310 v311 v312 v313 v314 v315 v316 v317 v318 v319 v320 v321 v322 v323 v324 v325 v326 v327 v328 v329 v330 v331 v332 v333 v334 v335 v336 v337 v338 v339 v340 v341 v342 v343 v344 v345 v346 v347 v348 v349 v350 v351 v352 v353 v354 v355 v356 v357 v358 v359 v360 v361 v362 v363 v364 v365 v366 v367 v368 v369 v370 v371 v372 v373 v374 v375 v376 v377 v378 : Value) (w' : World) (A' : Option Addr) (n' c' : Nat), SP w0 w' N hb mb half (i + 1) A' n' c' → Q .normal ⟨#[u0, u1, u2, u3, v4, .bool true, .pointer (some ⟨hb, 0, none⟩), u7, .pointer (some ⟨mb, 0, none⟩), (.slice A' n' c'), .int .i64 (i : Nat), v11, v12, v13, v14, v15, v16, v17, v18, v19, v20, v21, v22, v23, v24, v25, v26, v27, v28, v29, v30, v31, v32, v33, v34, v35, v36, u37, u38, u39, u40, u41, u42, u43, u44, u45, u46, u47, u48, u49, u50, u51, u52, u53, u54, u55, u56, u57, u58, u59, u60, u61, u62, u63, u64, u65, u66, u67, u68, u69, u70, u71, u72, u73, u74, u75, u76, u77, u78, u79, u80, v81, v82, v83, v84, v85, v86, v87, v88, v89, v90, v91, v92, v93, v94, v95, v96, v97, v98, v99, v100, v101, v102, v103, v104, v105, v106, v107, v108, v109, v110, v111, v112, v113, v114, v115, v116, v117, v118, v119, v120, v121, v122, v123, v124, v125, v126, v127, v128, v129, v130, v131, v132, v133, v134, v135, v136, v137, v138, v139, v140, v141, v142, v143, v144, v145, v146, v147, v148, v149, v150, v151, v152, v153, v154, v155, v156, v157, v158, v159, v160, v161, v162, v163, v164, v165, v166, v167, v168, v169, v170, v171, v172, v173, v174, v175, v176, v177, v178, v179, v180, v181, v182, v183, v184, v185, v186, v187, v188, v189, v190, v191, v192, v193, v194, v195, v196, v197, v198, v199, v200, v201, v202, v203, v204, v205, v206, v207, v208, v209, v210, v211, v212, v213, v214, v215, v216, v217, v218, v219, v220, v221, v222, v223, v224, v225, v226, v227, v228, v229, v230, v231, v232, v233, v234, v235, v236, v237, v238, v239, v240, v241, v242, v243, v244, v245, v246, v247, v248, v249, v250, v251, v252, v253, v254, v255, v256, v257, v258, v259, v260, v261, v262, v263, v264, v265, v266, v267, v268, v269, v270, v271, v272, v273, v274, v275, v276, v277, v278, v279, v280, v281, v282, v283, v284, v285, v286, v287, v288, v289, v290, v291, v292, v293, v294, v295, v296, v297, v298, v299, v300, v301, v302, v303, v304, v305, v306, v307, v308, v309, v310, v311, v312, v313, v314, v315, v316, v317, v318, v319, v320, v321, v322, v323, v324, v325, v326, v327, v328, v329, v330, v331, v332, v333, v334, v335, v336, v337, v338, v339, v340, v341, v342, v343, v344, v345, v346, v347, v348, v349, v350, v351, v352, v353, v354, v355, v356, v357, v358, v359, v360, v361, v362, v363, v364, v365, v366, v367, v368, v369, v370, v371, v372, v373, v374, v375, v376, v377, v378, u379], []⟩ w') :
    Code.wp Try.prog collC Q ⟨#[u0, u1, u2, u3, u4, .bool true, .pointer (some ⟨hb, 0, none⟩), u7, .pointer (some ⟨mb, 0, none⟩), .slice A rs.length c9, .int .i64 (i : Nat), .pointer (some ⟨bx, 0, none⟩), .slice Al l.length c12, .pointer (some ⟨bw, 0, none⟩), .int .i64 p, u15, u16, u17, u18, u19, u20, u21, u22, u23, u24, u25, u26, u27, u28, u29, u30, u31, u32, u33, u34, u35, u36, u37, u38, u39, u40, u41, u42, u43, u44, u45, u46, u47, u48, u49, u50, u51, u52, u53, u54, u55, u56, u57, u58, u59, u60, u61, u62, u63, u64, u65, u66, u67, u68, u69, u70, u71, u72, u73, u74, u75, u76, u77, u78, u79, u80, u81, u82, u83, u84, u85, u86, u87, u88, u89, u90, u91, u92, u93, u94, u95, u96, u97, u98, u99, u100, u101, u102, u103, u104, u105, u106, u107, u108, u109, u110, u111, u112, u113, u114, u115, u116, u117, u118, u119, u120, u121, u122, u123, u124, u125, u126, u127, u128, u129, u130, u131, u132, u133, u134, u135, u136, u137, u138, u139, u140, u141, u142, u143, u144, u145, u146, u147, u148, u149, u150, u151, u152, u153, u154, u155, u156, u157, u158, u159, u160, u161, u162, u163, u164, u165, u166, u167, u168, u169, u170, u171, u172, u173, u174, u175, u176, u177, u178, u179, u180, u181, u182, u183, u184, u185, u186, u187, u188, u189, u190, u191, u192, u193, u194, u195, u196, u197, u198, u199, u200, u201, u202, u203, u204, u205, u206, u207, u208, u209, u210, u211, u212, u213, u214, u215, u216, u217, u218, u219, u220, u221, u222, u223, u224, u225, u226, u227, u228, u229, u230, u231, u232, u233, u234, u235, u236, u237, u238, u239, u240, u241, u242, u243, u244, u245, u246, u247, u248, u249, u250, u251, u252, u253, u254, u255, u256, u257, u258, u259, u260, u261, u262, u263, u264, u265, u266, u267, u268, u269, u270, u271, u272, u273, u274, u275, u276, u277, u278, u279, u280, u281, u282, u283, u284, u285, u286, u287, u288, u289, u290, u291, u292, u293, u294, u295, u296, u297, u298, u299, u300, u301, u302, u303, u304, u305, u306, u307, u308, u309, u310, u311, u312, u313, u314, u315, u316, u317, u318, u319, u320, u321, u322, u323, u324, u325, u326, u327, u328, u329, u330, u331, u332, u333, u334, u335, u336, u337, u338, u339, u340, u341, u342, u343, u344, u345, u346, u347, u348, u349, u350, u351, u352, u353, u354, u355, u356, u357, u358, u359, u360, u361, u362, u363, u364, u365, u366, u367, u368, u369, u370, u371, u372, u373, u374, u375, u376, u377, u378, u379], []⟩ w := by
  rw [show collC = .seq (headSeqR collC) (dropSeqR 1 collC) from by kernel_rfl]
  refine wp_seq_k (fun K hK => ?_)
  have HK := Lib.hid hK
  have H := Lib.hid (And.intro hP (And.intro hD (And.intro hi (And.intro hz (And.intro hI hc9)))))
  have HQ := Lib.hid hQ
  have q0 : (rs.length : Int) ≤ 60 := by have := hP.ln; omega
  obtain ⟨e0, e1, e2, e3, e4, e5, e6, e7⟩ := cells8 hD.cx
  by_cases h0 : rs.length = 0
  · have H0 := Lib.hid h0
    have hA : ¬ 0 < rs.length := by omega
    clear hP hD hi hz hI hc9 hQ hK h0
    conv => arg 2; whnf
    go_wp2_with fail
    refine HK.out _ _ ?_
    exact coll_go w0 w N hb mb i bx bw half runs p L rs l V G V' G' x xs A Al c9 c12 d u H.out.1 H.out.2.1 H.out.2.2.1 H.out.2.2.2.1 H.out.2.2.2.2.1 H.out.2.2.2.2.2 HQ.out
  · have hA : 0 < rs.length := by omega
    obtain ⟨b, o, rfl, hbl, _⟩ := hP.rt.base (by rw [wcells_len]; omega)
    have hpl := (pickN_lt d.i ((rs.length : Int) + 1) (by omega)).1
    have HPK := Lib.hid (pick_val d.i ((rs.length : Int) + 1) hI ⟨by omega, by omega⟩ w)
    obtain ⟨k, hk⟩ : ∃ k, pickN d.i ((rs.length : Int) + 1) = k := ⟨_, rfl⟩
    rw [hk] at hpl HPK
    have i1 : (k : Int) ≤ (c9 : Int) := by omega
    have i0 : (0 : Int) ≤ (k : Int) := by omega
    have HPL := Lib.hid hpl
    clear hP hD hi hz hI hc9 hQ hK h0 hk hpl hbl
    conv => arg 2; whnf
    go_wp2_with (go_at_call 8; (with_reducible refine HPK.out.mono ?_); rintro e w2 ⟨rfl, rfl⟩; dsimp only)
    refine HK.out _ _ ?_
    exact coll_go2 k w0 _ N hb mb i bx bw half runs p L (rs.take k) l V G V' G' x xs (some ⟨b, o, none⟩) Al c9 c12 d u (by rw [List.length_take]; have := HPL.out; omega) (H.out.1.cut (by have := HPL.out; omega)) H.out.2.1 H.out.2.2.1 H.out.2.2.2.1 H.out.2.2.2.2.1 (by omega) HQ.out
end Go.Proofs.Ythblcfhflkapmaa

namespace Go.Proofs.Ythblcfhflkapmaa
open Go Go.ChangeShapes Go.WideShapes Go.ChangeAt Go.RowKit Go.Sort
set_option linter.unusedVariables false
set_option linter.unusedSimpArgs false

/-- What a Make by the heap comes to, that was not refused. -/
def MKH (w : World) (N hb : Nat) (half runs1 : Int) (V G V' G' : Value) (L1 : List Ob) (k : Int) (l1 r1 : List Wd) : Ending → World → Prop := fun e w' => ∃ vl vr V1 G1 V1' G1' p err L2, e = .returned (.tuple #[.int .i64 p, vl, vr, err]) ∧ CH w' N hb half runs1 L2 V1 G1 V1' G1' ∧ w'.ownsRow N WTy 2 vl l1.length (wcells l1) ∧ w'.ownsRow N WTy 2 vr r1.length (wcells r1) ∧
  (∀ g, (vl.ownBlock = some g ∨ vr.ownBlock = some g) → Nh hb V1 G1 V1' G1' g ∧ w.heap.size ≤ g) ∧ Tr w (Nh hb V G V' G') w' (Nh hb V1 G1 V1' G1') ∧ Below N w w' ∧
  (((l1.length : Int) < half - sizes L1 ∧ p = (sizes L1 : Nat) ∧ err = .nilIface ∧ L2 = L1 ++ [(k, l1)]) ∨ (¬ (l1.length : Int) < half - sizes L1 ∧ p = 0 ∧ err = .iface 29 (.int .i64 7) ∧ L2 = L1))
/-- What both have in common. -/
structure MC (L : List Ob) (runs half : Int) (l rs : List Wd) (L1 : List Ob) (runs1 : Int) (l1 r1 : List Wd) : Prop where
  ll : l1.length = l.length
  lr : r1.length = rs.length
  wf : Wf L1
  fl : ∀ u ∈ l1, Fine L1 u
  fr : ∀ u ∈ r1, Fine L1 u
  sz : (sizes L1 : Int) ≤ half
  ru : runs ≤ runs1 ∧ runs1 ≤ runs + 1
section
variable {w0 w : World} {N hb mb i : Nat} {half runs : Int} {L : List Ob} {V G V' G' x : Value} {xs : List RO} {A : Option Addr} {rs l : List Wd}
theorem HP.small (h : HP w0 w N hb mb half i L runs rs V G V' G' x xs A) (hz : 1 ≤ half ∧ half ≤ 5000) : sizes L ≤ 5000 ∧ L.length ≤ 5000 := by
  have h1 := h.sz
  have h2 : L.length ≤ sizes L := by
    clear h h1
    induction L with
    | nil => simp
    | cons o L ih => simp only [List.length_cons, sizes, osz]; omega
  omega
theorem make_pair (h : HP w0 w N hb mb half i L runs rs V G V' G' x xs A) (hi : i ≤ 60) (hz : 1 ≤ half ∧ half ≤ 5000) (k : Int) (hk : headOk k (l.length : Nat)) (hf : ∀ u ∈ l, Fine L u) (Al : Option Addr) (cl c9 : Nat) (hl : Rd w 2 Al l.length (wcells l)) :
    ∃ L1 runs1 l1 r1, MC L runs half l rs L1 runs1 l1 r1 ∧
      Calls Try.prog 9 #[.pointer (some ⟨hb, 0, none⟩), .int .i64 k, .slice Al l.length cl, .slice A rs.length c9] w (MKH w N hb half runs1 V G V' G' L1 k l1 r1) ∧
      ∀ (W : World) (A2 A3 : Option Addr) (c2 c3 : Nat), RH W N mb half runs L x xs → N ≤ W.heap.size → Rd W 2 A2 l.length (wcells l) → Rd W 2 A3 rs.length (wcells rs) → (∀ a, A2 = some a → a.block ≠ mb) → (∀ a, A3 = some a → a.block ≠ mb) → Calls Try.prog 10 #[.pointer (some ⟨mb, 0, none⟩), .int .i64 k, .slice A2 l.length c2, .slice A3 rs.length c3] W (RMK W N mb half runs1 x xs L1 k l1 r1) := by
  obtain ⟨hs, hll⟩ := h.small hz
  have hln := h.ln
  have hru := h.ru
  have hk3 : 0 ≤ k ∧ k ≤ 15 ∧ l.length ≤ 4000 := ⟨hk.1, hk.2.1, by have := hk.2.2.2; omega⟩
  by_cases hroom : (l.length : Int) < half - sizes L
  · refine ⟨L, runs, l, rs, ⟨rfl, rfl, h.wf, hf, h.fn, h.sz, by omega, by omega⟩, ?_, fun W A2 A3 c2 c3 hR hN r2 r3 n2 n3 => ?_⟩
    · refine (Make_room h.ch h.le (by omega) (by omega) k hk Al A cl c9 hl h.rt (by omega) hf h.fn hroom).mono ?_
      rintro e w' ⟨vl, vr, V1, G1, rfl, q1, q2, q3, q4, q5⟩
      exact ⟨vl, vr, V1, G1, V', G', _, _, _, rfl, q1, q2.1, q2.2, q3, q4, q5, .inl ⟨hroom, rfl, rfl, rfl⟩⟩
    · refine (RMake_yes hR hN h.wf (by omega) (by omega) (by omega) ⟨hru.1, by omega⟩ k A2 A3 c2 c3 r2 r3 (by omega) n2 n3 hk hf h.fn).mono ?_
      rintro e w' (⟨_, q⟩ | ⟨q, _⟩)
      · exact q
      · exact absurd hroom q
  · have hfa : ∀ u ∈ rs ++ l, Fine L u := fun u hu => (List.mem_append.1 hu).elim (h.fn u) (hf u)
    have hcf := collR_fine hfa
    have hcl : (collR L (rs ++ l)).length = rs.length + l.length := by simp [collR]
    have hd : ((collR L (rs ++ l)).drop rs.length).length = l.length := by rw [List.length_drop, hcl]; omega
    have ht : ((collR L (rs ++ l)).take rs.length).length = rs.length := by rw [List.length_take, hcl]; omega
    refine ⟨collO L (rs ++ l), runs + 1, (collR L (rs ++ l)).drop rs.length, (collR L (rs ++ l)).take rs.length, ⟨hd, ht, h.wf.coll _, fun u hu => hcf u (List.mem_of_mem_drop hu), fun u hu => hcf u (List.mem_of_mem_take hu), coll_le L _ h.sz, by omega, by omega⟩, ?_, fun W A2 A3 c2 c3 hR hN r2 r3 n2 n3 => ?_⟩
    · refine (Make_coll h.ch h.wf h.le (by omega) (by omega) ⟨hru.1, by omega⟩ k hk Al A cl c9 hl h.rt (by omega) hf h.fn hroom).mono ?_
      rintro e w' ⟨vl, vr, V1, G1, V1', G1', L', q1, q2, q3, q4, q5, q6⟩
      rcases q2 with ⟨r1, rfl, rfl⟩ | ⟨r1, rfl, rfl⟩
      · exact ⟨vl, vr, V1, G1, V1', G1', _, _, _, rfl, q1, by rw [hd]; exact q3.1, by rw [ht]; exact q3.2, q4, q5, q6, .inl ⟨by rw [hd]; exact r1, rfl, rfl, rfl⟩⟩
      · exact ⟨vl, vr, V1, G1, V1', G1', _, _, _, rfl, q1, by rw [hd]; exact q3.1, by rw [ht]; exact q3.2, q4, q5, q6, .inr ⟨by rw [hd]; exact r1, rfl, rfl, rfl⟩⟩
    · refine (RMake_yes hR hN h.wf (by omega) (by omega) (by omega) ⟨hru.1, by omega⟩ k A2 A3 c2 c3 r2 r3 (by omega) n2 n3 hk hf h.fn).mono ?_
      rintro e w' (⟨q, _⟩ | ⟨_, q⟩)
      · exact absurd q hroom
      · exact q
end
end Go.Proofs.Ythblcfhflkapmaa
