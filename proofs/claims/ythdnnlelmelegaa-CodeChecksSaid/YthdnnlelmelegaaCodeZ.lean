/-
  Reading an image.
-/
import Derived.Test.YthdnnlelmelegaaCodeY
namespace Go.Proofs.Ythdnnlelmelegaa
open Go.ChangeShapes Go.WideShapes Go.ChangeAt Go.RowKit
set_option linter.unusedVariables false

structure AImg.Away (X : Nat → Prop) (m : AImg) : Prop where
  i : 0 < m.iN → ∀ a, m.iA = some a → ¬ X a.block
  t : 0 < m.tN → ∀ a, m.tA = some a → ¬ X a.block
  f : 0 < m.fN → ∀ a, m.fA = some a → ¬ X a.block
  all : ∀ y ∈ m.funs, y.Away X
theorem AImg.Away.mono {X Y : Nat → Prop} {y : AImg} (h : y.Away X) (hXY : ∀ b, Y b → X b) : y.Away Y :=
  ⟨fun hn a e hb => h.i hn a e (hXY _ hb), fun hn a e hb => h.t hn a e (hXY _ hb), fun hn a e hb => h.f hn a e (hXY _ hb), fun y hy => (h.all y hy).mono hXY⟩
theorem AImg.In.keep {w w' : World} {X : Nat → Prop} {m : AImg} (h : m.In w) (hk : ∀ k, k < w.heap.size → ¬ X k → w'.heap[k]? = w.heap[k]?) (ha : m.Away X) : m.In w' :=
  ⟨h.ints.away hk ha.i, h.icap, h.isz, h.iall, h.texts.away hk ha.t, h.tcap, h.tsz, h.tall, h.funs.away hk ha.f, h.fcap, h.fsz, fun y hy => (h.fall y hy).keep hk (ha.all y hy)⟩
theorem flat_strs (l : List Str) : l.flatMap strE.cells = strs l := (strs_flat l).symm

set_option maxRecDepth 100000 in
set_option maxHeartbeats 400000 in
theorem rimage_any (rb : Nat) (s : List UInt8) (bad : Bool) (w : World) (h : RSt w rb s bad) (hbad : bad = true → s = []) (hl : s.length ≤ 1099511627776) :
    Calls Try.prog 25 #[.pointer (some ⟨rb, 0, none⟩)] w fun e w' => ∃ m : AImg, e = .returned (.agg #[.slice m.iA m.iN m.iC, .slice m.tA m.tN m.tC, .slice m.fA m.fN m.fC]) ∧ m.In w' ∧ m.Away (fun b => b < w.heap.size) ∧ Step pImg s bad rb w' m.img ∧ RK rb w w' := by
  have hrb : rb < w.heap.size := by obtain ⟨A, c, hs⟩ := h; exact World.block_lt_of_cell? w _ hs.c0
  have hb0 : Below w.heap.size w (w.alloc (.cells #[.slice none 0 0, .slice none 0 0, .slice none 0 0] 26)) := (Below.refl _ _).alloc (Nat.le_refl _) _
  have hk0 : RK rb w (w.alloc (.cells #[.slice none 0 0, .slice none 0 0, .slice none 0 0] 26)) := (RK.refl rb w).of_below hb0
  have h0 := h.upto (hb0.mono hrb)
  have z0 := cell_new w #[.slice none 0 0, .slice none 0 0, .slice none 0 0] 26 0 (v := .slice none 0 0) (fr := (0, 0)) rfl
  have z1 := cell_new w #[.slice none 0 0, .slice none 0 0, .slice none 0 0] 26 1 (v := .slice none 0 0) (fr := (0, 0)) rfl
  have z2 := cell_new w #[.slice none 0 0, .slice none 0 0, .slice none 0 0] 26 2 (v := .slice none 0 0) (fr := (0, 0)) rfl
  have zf : ∀ j, (w.alloc (.cells #[.slice none 0 0, .slice none 0 0, .slice none 0 0] 26)).frozen? ⟨w.heap.size, j, none⟩ = false := fun j => by rw [World.frozen?_alloc_mark]; simp
  have zs : w.heap.size < (w.alloc (.cells #[.slice none 0 0, .slice none 0 0, .slice none 0 0] 26)).heap.size := by simp
  have Z := Lib.hid (And.intro z0 (And.intro z1 (And.intro z2 (And.intro zf (And.intro zs hk0)))))
  clear z0 z1 z2 zf hb0 hk0 zs h
  go_enter Try.func25, Try.ntmps25
  go_wp2_with fail
  generalize (w.alloc (.cells #[.slice none 0 0, .slice none 0 0, .slice none 0 0] 26)) = w0 at *
  refine (listInt64_any rb s bad w0 h0 hbad hl).mono ?_
  rintro e w1 ⟨A1, n1, c1, l1, rfl, hln1, hns1, hown1, hgood1, hst1, hk1⟩
  obtain ⟨s1, b1, hs1, hb1, hl1, hp1⟩ := hst1.out (plist_le rd_le)
  clear hst1 hbad h0
  go_wp2_with fail
  refine (listText_any rb s1 b1 w1 hs1 hb1 (by omega)).mono ?_
  rintro e w2 ⟨A2, n2, c2, l2, rfl, hln2, hns2, hown2, hgood2, hst2, hk2⟩
  obtain ⟨s2, b2, hs2, hb2, hl2, hp2⟩ := hst2.out (plist_le pText_le)
  clear hst2 hs1 hb1
  go_wp2_with fail
  refine (listFnc_any rb s2 b2 w2 hs2 hb2 (by omega)).mono ?_
  rintro e w3 ⟨A3, n3, c3, l3, rfl, hln3, hns3, hown3, hgood3, hst3, hk3⟩
  have hk03 : RK rb w0 w3 := (hk1.trans hk2).trans hk3
  have hne : w.heap.size ≠ rb := by omega
  have z0 := hk03.at_ (p := ⟨w.heap.size, 0, none⟩) hne Z.out.1
  have z1 := hk03.at_ (p := ⟨w.heap.size, 1, none⟩) hne Z.out.2.1
  have z2 := hk03.at_ (p := ⟨w.heap.size, 2, none⟩) hne Z.out.2.2.1
  have f0 := (hk03.frz (p := ⟨w.heap.size, 0, none⟩) hne Z.out.2.2.2.2.1).trans (Z.out.2.2.2.1 0)
  have f1 := (hk03.frz (p := ⟨w.heap.size, 1, none⟩) hne Z.out.2.2.2.2.1).trans (Z.out.2.2.2.1 1)
  have f2 := (hk03.frz (p := ⟨w.heap.size, 2, none⟩) hne Z.out.2.2.2.2.1).trans (Z.out.2.2.2.1 2)
  have hkw : RK rb w w3 := Z.out.2.2.2.2.2.trans hk03
  have hg0 := Z.out.2.2.2.2.1
  have hsz1 := hk1.size
  have hsz2 := hk2.size
  have hrow1 := own_rk (own_rk hown1 hk2 (by omega)) hk3 (by omega)
  have hrow2 := own_rk hown2 hk3 (by omega)
  have key : (⟨A1, n1, c1, l1, A2, n2, c2, l2, A3, n3, c3, l3⟩ : AImg).In (((w3.setCell ⟨w.heap.size, 0, none⟩ (.slice A1 n1 c1)).setCell ⟨w.heap.size, 1, none⟩ (.slice A2 n2 c2)).setCell ⟨w.heap.size, 2, none⟩ (.slice A3 n3 c3)) := by
    have KF : ∀ k, k < w3.heap.size → ¬ k = w.heap.size → (((w3.setCell ⟨w.heap.size, 0, none⟩ (.slice A1 n1 c1)).setCell ⟨w.heap.size, 1, none⟩ (.slice A2 n2 c2)).setCell ⟨w.heap.size, 2, none⟩ (.slice A3 n3 c3)).heap[k]? = w3.heap[k]? := fun k hk hX => by
      rw [Below.heap_setCell _ _ _ _ hX, Below.heap_setCell _ _ _ _ hX, Below.heap_setCell _ _ _ _ hX]
    have aw : ∀ {A : Option Addr} {n c : Nat} {e : TypeId} {size : Nat} {xs : List Value} {B : Nat} {wx : World}, wx.ownsRow B e size (.slice A n c) n xs → w.heap.size < B → 0 < n → ∀ a, A = some a → ¬ a.block = w.heap.size := by
      intro A n c e size xs B wx ho hB _ a ha hb
      have := ho.lt a.block (by rw [ha]; rfl)
      omega
    have r1 := Rd.of_own hrow1
    rw [flat_ints] at r1
    have r2 := Rd.of_own hrow2
    rw [flat_strs] at r2
    have r3 : Rd w3 3 A3 n3 (l3.flatMap AFnc.cells) := Rd.of_own hown3
    obtain ⟨_, _, q1, i1, j1, _⟩ := own_cap hrow1
    obtain ⟨_, _, q2, i2, j2, _⟩ := own_cap hrow2
    obtain ⟨_, _, q3, i3, j3, _⟩ := own_cap hown3
    injection q1 with _ _ q1
    injection q2 with _ _ q2
    injection q3 with _ _ q3
    subst q1 q2 q3
    exact ⟨r1.away KF (aw hrow1 hg0), ⟨i1, j1⟩, by show n1 ≤ _; omega, fun y hy => (hgood1 y hy).1, r2.away KF (aw hrow2 (by omega)), ⟨i2, j2⟩, by show n2 ≤ _; omega, fun y hy => (hgood2 y hy).1,
      r3.away KF (aw hown3 (by omega)), ⟨i3, j3⟩, by show n3 ≤ _; omega, fun y hy => (hgood3 y hy).1.keep KF (AFnc.Away.mono (X := fun b => b < w2.heap.size) (hgood3 y hy).2 (fun b (hb : b = w.heap.size) => by omega))⟩
  have haway : (⟨A1, n1, c1, l1, A2, n2, c2, l2, A3, n3, c3, l3⟩ : AImg).Away (fun b => b < w.heap.size) := by
    have aw : ∀ {A : Option Addr} {n c : Nat} {e : TypeId} {size : Nat} {xs : List Value} {B : Nat} {wx : World}, wx.ownsRow B e size (.slice A n c) n xs → w.heap.size < B → 0 < n → ∀ a, A = some a → ¬ a.block < w.heap.size := by
      intro A n c e size xs B wx ho hB _ a ha hb
      have := ho.lt a.block (by rw [ha]; rfl)
      omega
    exact ⟨aw hrow1 hg0, aw hrow2 (by omega), aw hown3 (by omega), fun y hy => AFnc.Away.mono (X := fun b => b < w2.heap.size) (hgood3 y hy).2 (fun b (hb : b < w.heap.size) => by omega)⟩
  have hstep : Step pImg s bad rb (((w3.setCell ⟨w.heap.size, 0, none⟩ (.slice A1 n1 c1)).setCell ⟨w.heap.size, 1, none⟩ (.slice A2 n2 c2)).setCell ⟨w.heap.size, 2, none⟩ (.slice A3 n3 c3)) (⟨A1, n1, c1, l1, A2, n2, c2, l2, A3, n3, c3, l3⟩ : AImg).img := by
    have h3 := three (p := plist rd) (q := plist pText) (t := plist pFnc) (z := pImg) (f := fun x y l => (⟨x, y, l⟩ : Img)) pImg_eq hp1 hp2 hst3
    rw [show l1.map intE.abs = l1 from List.map_id' l1, show l2.map strE.abs = l2 from List.map_id' l2] at h3
    exact h3.upto ((((Below.refl _ _).setCell hrb _).setCell hrb _).setCell hrb _)
  have HX := Lib.hid (And.intro key (And.intro haway (And.intro hstep (((hkw.setNew (p := ⟨w.heap.size, 0, none⟩) (Nat.le_refl _) (.slice A1 n1 c1)).setNew (p := ⟨w.heap.size, 1, none⟩) (Nat.le_refl _) (.slice A2 n2 c2)).setNew (p := ⟨w.heap.size, 2, none⟩) (Nat.le_refl _) (.slice A3 n3 c3)))))
  clear haway key hstep hkw hrow1 hrow2 hown1 hown2 hown3 hgood1 hgood2 hgood3 hst3 hk1 hk2 hk3 hk03 hs2 hb2 hp1 hp2
  go_wp2_with fail
  have q0 : (w3.setCell ⟨w.heap.size, 0, none⟩ (.slice A1 n1 c1)).cell? ⟨w.heap.size, 0, none⟩ = some (.slice A1 n1 c1) := World.cell?_setCell_same _ _ _ z0
  have q1 : ((w3.setCell ⟨w.heap.size, 0, none⟩ (.slice A1 n1 c1)).setCell ⟨w.heap.size, 1, none⟩ (.slice A2 n2 c2)).cell? ⟨w.heap.size, 1, none⟩ = some (.slice A2 n2 c2) :=
    World.cell?_setCell_same _ _ _ (by rw [World.cell?_setCell_other _ _ _ _ (by simp)]; exact z1)
  have q2 : (((w3.setCell ⟨w.heap.size, 0, none⟩ (.slice A1 n1 c1)).setCell ⟨w.heap.size, 1, none⟩ (.slice A2 n2 c2)).setCell ⟨w.heap.size, 2, none⟩ (.slice A3 n3 c3)).cell? ⟨w.heap.size, 2, none⟩ = some (.slice A3 n3 c3) :=
    World.cell?_setCell_same _ _ _ (by rw [World.cell?_setCell_other _ _ _ _ (by simp), World.cell?_setCell_other _ _ _ _ (by simp)]; exact z2)
  refine bodyPost_ret (v := .agg #[.slice A1 n1 c1, .slice A2 n2 c2, .slice A3 n3 c3]) (by simp [results, Try.results25, go_sem, q0, q1, q2]) rfl ?_
  exact ⟨⟨A1, n1, c1, l1, A2, n2, c2, l2, A3, n3, c3, l3⟩, rfl, HX.out.1, HX.out.2.1, HX.out.2.2.1, HX.out.2.2.2⟩

theorem set3 {u : World} {g : Nat} {x0 x1 x2 : Value} (z0 : u.cell? ⟨g, 0, none⟩ = some x0) (z1 : u.cell? ⟨g, 1, none⟩ = some x1) (z2 : u.cell? ⟨g, 2, none⟩ = some x2) (a b c : Value) :
    (u.setCell ⟨g, 0, none⟩ a).cell? ⟨g, 0, none⟩ = some a ∧ ((u.setCell ⟨g, 0, none⟩ a).setCell ⟨g, 1, none⟩ b).cell? ⟨g, 1, none⟩ = some b ∧ (((u.setCell ⟨g, 0, none⟩ a).setCell ⟨g, 1, none⟩ b).setCell ⟨g, 2, none⟩ c).cell? ⟨g, 2, none⟩ = some c :=
  ⟨World.cell?_setCell_same _ _ _ z0, World.cell?_setCell_same _ _ _ (by rw [World.cell?_setCell_other _ _ _ _ (by simp)]; exact z1),
    World.cell?_setCell_same _ _ _ (by rw [World.cell?_setCell_other _ _ _ _ (by simp), World.cell?_setCell_other _ _ _ _ (by simp)]; exact z2)⟩
/-- What Get tells. -/
def GetRes (b : List UInt8) (w : World) (e : Ending) (w' : World) : Prop :=
  (∃ m : AImg, e = .returned (.tuple #[.agg #[.slice m.iA m.iN m.iC, .slice m.tA m.tN m.tC, .slice m.fA m.fN m.fC], .nilIface]) ∧ m.In w' ∧ pImg b = some (m.img, []) ∧ soundB m = true) ∨
  (e = .returned (.tuple #[.agg #[.slice none 0 0, .slice none 0 0, .slice none 0 0], .iface 36 (.int .i64 10)]) ∧ ∀ i, pImg b = some (i, []) → ∃ (m : AImg) (wx : World), m.img = i ∧ m.In wx ∧ soundB m = false)

set_option maxRecDepth 100000 in
set_option maxHeartbeats 400000 in
theorem get_any (A : Option Addr) (b : List UInt8) (c : Nat) (w : World) (hrd : Rd w 1 A b.length (u8s b)) (hc : b.length ≤ c ∧ c ≤ maxLen) (hA : 0 < b.length → ∀ a, A = some a → a.block < w.heap.size) (hl : b.length ≤ 1099511627776) :
    Calls Try.prog 13 #[.slice A b.length c] w fun e w' => GetRes b w e w' ∧ Below w.heap.size w w' := by
  have hbA : Below w.heap.size w ((w.alloc (.cells #[.slice none 0 0, .slice none 0 0, .slice none 0 0] 26)).alloc (.cells #[.slice A b.length c, .bool false] 63)) := ((Below.refl _ _).alloc (Nat.le_refl _) _).alloc (by simp) _
  have z : ∀ (j : Nat) (v : Value), (#[.slice none 0 0, .slice none 0 0, .slice none 0 0] : Array Value)[j]? = some v → ((w.alloc (.cells #[.slice none 0 0, .slice none 0 0, .slice none 0 0] 26)).alloc (.cells #[.slice A b.length c, .bool false] 63)).cell? ⟨w.heap.size, j, none⟩ = some v := fun j v hv => cell_alloc (cell_new w _ _ j hv)
  have zf : ∀ j, ((w.alloc (.cells #[.slice none 0 0, .slice none 0 0, .slice none 0 0] 26)).alloc (.cells #[.slice A b.length c, .bool false] 63)).frozen? ⟨w.heap.size, j, none⟩ = false := fun j => by
    rw [World.frozen?_alloc_past _ _ _ (by simp), World.frozen?_alloc_mark]; simp
  have y : ∀ (j : Nat) (v : Value), (#[.slice A b.length c, .bool false] : Array Value)[j]? = some v → ((w.alloc (.cells #[.slice none 0 0, .slice none 0 0, .slice none 0 0] 26)).alloc (.cells #[.slice A b.length c, .bool false] 63)).cell? ⟨w.heap.size + 1, j, none⟩ = some v := fun j v hv => by
    have h := cell_new (w.alloc (.cells #[.slice none 0 0, .slice none 0 0, .slice none 0 0] 26)) #[.slice A b.length c, .bool false] 63 j (fr := (0, 0)) hv
    rwa [World.size_alloc] at h
  have yf : ∀ j, ((w.alloc (.cells #[.slice none 0 0, .slice none 0 0, .slice none 0 0] 26)).alloc (.cells #[.slice A b.length c, .bool false] 63)).frozen? ⟨w.heap.size + 1, j, none⟩ = false := fun j => by
    rw [World.frozen?_alloc_at _ _ _ _ (by simp)]
  have hsz : w.heap.size + 1 < ((w.alloc (.cells #[.slice none 0 0, .slice none 0 0, .slice none 0 0] 26)).alloc (.cells #[.slice A b.length c, .bool false] 63)).heap.size := by simp
  have Z := Lib.hid (And.intro z (And.intro zf (And.intro y (And.intro yf (And.intro hsz hbA)))))
  clear z zf y yf hsz hbA
  go_enter Try.func13, Try.ntmps13
  go_wp2_with fail
  generalize ((w.alloc (.cells #[.slice none 0 0, .slice none 0 0, .slice none 0 0] 26)).alloc (.cells #[.slice A b.length c, .bool false] 63)) = w1 at *
  have hst0 : RSt w1 (w.heap.size + 1) b false := ⟨A, c, Z.out.2.2.1 0 _ rfl, Z.out.2.2.1 1 _ rfl, Z.out.2.2.2.1 0, Z.out.2.2.2.1 1, hrd.below Z.out.2.2.2.2.2, hc, fun h0 a e => Nat.lt_succ_of_lt (hA h0 a e)⟩
  refine (rimage_any (w.heap.size + 1) b false w1 hst0 (fun h => by cases h) hl).mono ?_
  rintro e w2 ⟨m, rfl, hm, haw, hst, hk⟩
  have HAW := Lib.hid haw
  clear haw
  have hne : w.heap.size ≠ w.heap.size + 1 := by omega
  have z0 := hk.at_ (p := ⟨w.heap.size, 0, none⟩) hne (Z.out.1 0 _ rfl)
  have z1 := hk.at_ (p := ⟨w.heap.size, 1, none⟩) hne (Z.out.1 1 _ rfl)
  have z2 := hk.at_ (p := ⟨w.heap.size, 2, none⟩) hne (Z.out.1 2 _ rfl)
  have hs1 := Z.out.2.2.2.2.1
  have f0 := (hk.frz (p := ⟨w.heap.size, 0, none⟩) hne (show w.heap.size < _ by omega)).trans (Z.out.2.1 0)
  have f1 := (hk.frz (p := ⟨w.heap.size, 1, none⟩) hne (show w.heap.size < _ by omega)).trans (Z.out.2.1 1)
  have f2 := (hk.frz (p := ⟨w.heap.size, 2, none⟩) hne (show w.heap.size < _ by omega)).trans (Z.out.2.1 2)
  have hB2 : Below w.heap.size w w2 := Z.out.2.2.2.2.2.trans (hk.below (by omega) (by omega))
  have hs2 : w.heap.size + 1 < w2.heap.size := by have := hk.size; omega
  have hs3 : w.heap.size < w2.heap.size := by omega
  have hM := Lib.hid (heldM_made w2 m hm)
  have hbM : Below w2.heap.size w2 (w2.alloc (.cells #[.slice m.iA m.iN m.iC, .slice m.tA m.tN m.tC, .slice m.fA m.fN m.fC] 26)) := (Below.refl _ _).alloc (Nat.le_refl _) _
  have HB := Lib.hid (And.intro hB2 (And.intro hk hbM))
  have HM := Lib.hid hm
  have HZ := Lib.hid (And.intro z0 (And.intro z1 (And.intro z2 (And.intro f0 (And.intro f1 f2)))))
  clear hB2 hk hbM hm hst0 z0 z1 z2 f0 f1 f2
  rcases hst with ⟨_, r, hp, A', c', hr⟩ | ⟨hno, A', c', hr⟩
  · have r0 := hr.c0
    have r1 := hr.c1
    by_cases hr0 : 0 < r.length
    · have HP : RowKit.Hid (∀ i, pImg b = some (i, []) → ∃ (m : AImg) (wx : World), m.img = i ∧ m.In wx ∧ soundB m = false) := Lib.hid (fun i hi => by
        rw [hp] at hi; injection hi with hi; injection hi with _ hi; rw [hi] at hr0; cases hr0)
      clear hp hr
      obtain ⟨z0, z1, z2, f0, f1, f2⟩ := HZ.out
      go_wp2_with fail
      obtain ⟨q0, q1, q2⟩ := set3 z0 z1 z2 (.slice none 0 0) (.slice none 0 0) (.slice none 0 0)
      refine bodyPost_ret (v := .tuple #[.agg #[.slice none 0 0, .slice none 0 0, .slice none 0 0], .iface 36 (.int .i64 10)]) (by simp [results, Try.results13, go_sem, q0, q1, q2, hs3]) rfl ?_
      exact ⟨.inr ⟨rfl, HP.out⟩, (((HB.out.1.setCell (Nat.le_refl _) _).setCell (Nat.le_refl _) _).setCell (Nat.le_refl _) _).alloc (by simp; omega) _⟩
    · have hrn : r = [] := List.eq_nil_of_length_eq_zero (by omega)
      subst hrn
      have hp' := hp
      have HP := Lib.hid hp
      have r0' : w2.cell? ⟨w.heap.size + 1, 0, none⟩ = some (.slice A' 0 c') := r0
      clear hp hr hp' r0 hr0
      go_wp2_with fail
      have HZM := Lib.hid (And.intro (cell_alloc HZ.out.1) (And.intro (cell_alloc HZ.out.2.1) (cell_alloc HZ.out.2.2.1)) : (w2.alloc (.cells #[.slice m.iA m.iN m.iC, .slice m.tA m.tN m.tC, .slice m.fA m.fN m.fC] 26)).cell? ⟨w.heap.size, 0, none⟩ = some (.slice none 0 0) ∧ (w2.alloc (.cells #[.slice m.iA m.iN m.iC, .slice m.tA m.tN m.tC, .slice m.fA m.fN m.fC] 26)).cell? ⟨w.heap.size, 1, none⟩ = some (.slice none 0 0) ∧ (w2.alloc (.cells #[.slice m.iA m.iN m.iC, .slice m.tA m.tN m.tC, .slice m.fA m.fN m.fC] 26)).cell? ⟨w.heap.size, 2, none⟩ = some (.slice none 0 0))
      refine (isSound_any w2.heap.size m _ ⟨hM.out.m0, hM.out.m1, hM.out.m2, hM.out.hm⟩).mono ?_
      rintro e w4 ⟨rfl, hb4⟩
      have hB4 : Below w2.heap.size w2 w4 := HB.out.2.2.trans (hb4.mono HB.out.2.2.size)
      have z0 := cell_below hb4 HZM.out.1
      have z1 := cell_below hb4 HZM.out.2.1
      have z2 := cell_below hb4 HZM.out.2.2
      have f0 := (hB4.frozen (p := ⟨w.heap.size, 0, none⟩) hs3).trans HZ.out.2.2.2.1
      have f1 := (hB4.frozen (p := ⟨w.heap.size, 1, none⟩) hs3).trans HZ.out.2.2.2.2.1
      have f2 := (hB4.frozen (p := ⟨w.heap.size, 2, none⟩) hs3).trans HZ.out.2.2.2.2.2
      have m0 := cell_below hb4 hM.out.m0
      have m1 := cell_below hb4 hM.out.m1
      have m2 := cell_below hb4 hM.out.m2
      have HW := Lib.hid (And.intro hB4 (HM.out.below hB4))
      have hne4 : ¬ w2.heap.size = w.heap.size := by omega
      clear hb4 hB4
      cases hsd : soundB m with
      | true =>
        have HSD := Lib.hid hsd
        clear hsd
        go_wp2_with fail
        obtain ⟨q0, q1, q2⟩ := set3 z0 z1 z2 (.slice m.iA m.iN m.iC) (.slice m.tA m.tN m.tC) (.slice m.fA m.fN m.fC)
        refine bodyPost_ret (v := .tuple #[.agg #[.slice m.iA m.iN m.iC, .slice m.tA m.tN m.tC, .slice m.fA m.fN m.fC], .nilIface]) (by simp [results, Try.results13, go_sem, q0, q1, q2]) rfl ?_
        exact ⟨.inl ⟨m, rfl, HW.out.2.keep (X := fun b => b = w.heap.size) (fun k hk hX => by rw [Below.heap_setCell _ _ _ _ hX, Below.heap_setCell _ _ _ _ hX, Below.heap_setCell _ _ _ _ hX]) (HAW.out.mono (fun b (hb : b = w.heap.size) => by omega)), HP.out, HSD.out⟩,
          ((below_then HB.out.1 HW.out.1).setCell (Nat.le_refl _) _ |>.setCell (Nat.le_refl _) _).setCell (Nat.le_refl _) _⟩
      | false =>
        have HSD := Lib.hid hsd
        clear hsd
        go_wp2_with fail
        obtain ⟨q0, q1, q2⟩ := set3 z0 z1 z2 (.slice none 0 0) (.slice none 0 0) (.slice none 0 0)
        refine bodyPost_ret (v := .tuple #[.agg #[.slice none 0 0, .slice none 0 0, .slice none 0 0], .iface 36 (.int .i64 10)]) (by simp [results, Try.results13, go_sem, q0, q1, q2]) rfl ?_
        exact ⟨.inr ⟨rfl, fun i hi => ⟨m, w4, by have h1 := HP.out; rw [h1] at hi; injection hi with hi; injection hi, HW.out.2, HSD.out⟩⟩, ((below_then HB.out.1 HW.out.1).setCell (Nat.le_refl _) _ |>.setCell (Nat.le_refl _) _).setCell (Nat.le_refl _) _⟩
  · have HP : RowKit.Hid (∀ i, pImg b = some (i, []) → ∃ (m : AImg) (wx : World), m.img = i ∧ m.In wx ∧ soundB m = false) := Lib.hid (fun i hi => by
      rcases hno with h | h
      · cases h
      · rw [h] at hi; cases hi)
    have r1 := hr.c1
    clear hno hr
    obtain ⟨z0, z1, z2, f0, f1, f2⟩ := HZ.out
    go_wp2_with fail
    obtain ⟨q0, q1, q2⟩ := set3 z0 z1 z2 (.slice none 0 0) (.slice none 0 0) (.slice none 0 0)
    refine bodyPost_ret (v := .tuple #[.agg #[.slice none 0 0, .slice none 0 0, .slice none 0 0], .iface 36 (.int .i64 10)]) (by simp [results, Try.results13, go_sem, q0, q1, q2, hs3]) rfl ?_
    exact ⟨.inr ⟨rfl, HP.out⟩, (((HB.out.1.setCell (Nat.le_refl _) _).setCell (Nat.le_refl _) _).setCell (Nat.le_refl _) _).alloc (by simp; omega) _⟩
end Go.Proofs.Ythdnnlelmelegaa
