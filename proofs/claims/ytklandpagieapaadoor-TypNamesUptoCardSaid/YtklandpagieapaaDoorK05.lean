/-
  A type in new memory; a row, a function's type, a variable: by the code.
  A row's type, a function's type, a variable: by the code. Types that are alike have one text.
  How many nodes there would be; whether a label would stand twice: of types without rows, by the code.
-/
import Derived.Test.YtklandpagieapaaDoorK04
import Derived.Deep.RegionWith
import Derived.Test.YtklandpagieapaaDoorK03
namespace Go.Proofs.YtklandpagieapaaDoor
open Go.ChangeShapes Go.WideShapes Go.ChangeAt Go.RowKit Go.Sort Go.Maps
set_option linter.unusedVariables false
set_option linter.unusedSimpArgs false

/-- What lies behind a block's own cells stays as they are written. -/
theorem in_set {w : World} {t : Ty} {g i : Nat} {u : Value} (h : t.In w) (hB : t.Bl (fun b => g < b)) : t.In (w.setCell ⟨g, i, none⟩ u) :=
  h.keepP hB (fun b hb _ => Below.heap_setCell w _ _ b (by show b ≠ g; omega))
/-- A type made of new lists. -/
theorem made_in {w : World} {ys : List Ty} {A A' : Option Addr} {n c m c' : Nat} {ls : List Str} {kd nn tl : Int} (hlab : Rd w 1 A' m (strs ls)) (hpar : Rd w 5 A n (ys.flatMap Ty.cells)) (hin : ∀ y ∈ ys, y.In w) (hm : m ≤ 4000000) (hn : n ≤ 4000000) (h1 : n ≤ c) (h2 : c ≤ maxLen) (h3 : m ≤ c') (h4 : c' ≤ maxLen) :
    (Ty.mk ⟨kd, nn, A, n, c, A', m, c', ls, tl⟩ ys).In w := .mk _ _ hlab hpar ⟨h3, h4, h1, h2, hm, hn⟩ hin

/-- What comes of the copies of a type's parts, whatever else was called ahead of it. -/
def CoR (w2 : World) (l : List Ty) (n : Nat) (V : World) (e : Ending) (v : World) : Prop := ∃ (A : Option Addr) (c : Nat) (ys : List Ty), e = .returned (.slice A n c) ∧ tyL ys l ∧ Rd v 5 A n (ys.flatMap Ty.cells) ∧ (∀ y ∈ ys, y.In v) ∧ (∀ y ∈ ys, y.Bl (fun b => w2.heap.size ≤ b)) ∧ (0 < n → ∀ a, A = some a → w2.heap.size ≤ a.block) ∧ n ≤ c ∧ c ≤ maxLen ∧ Below V.heap.size V v ∧ Below w2.heap.size w2 v
def ClR (w2 : World) (ls : List Str) (n : Nat) (V : World) (e : Ending) (v : World) : Prop := ∃ (A : Option Addr) (c : Nat), e = .returned (.slice A n c) ∧ Rd v 1 A n (strs ls) ∧ (0 < n → ∀ a, A = some a → w2.heap.size ≤ a.block) ∧ n ≤ c ∧ c ≤ maxLen ∧ Below V.heap.size V v ∧ Below w2.heap.size w2 v

/-- Both copies, in whatever order they were made. -/
structure CpFin (w2 u : World) (d : TyD) (l ys : List Ty) (A8 : Option Addr) (m8 : Nat) (A9 : Option Addr) (m9 : Nat) : Prop where
  eqv : tyL ys l
  inn : (Ty.mk ⟨d.kind, d.n, A8, d.pn, m8, A9, d.ln, m9, d.labels, d.tail⟩ ys).In u
  bl : (Ty.mk ⟨d.kind, d.n, A8, d.pn, m8, A9, d.ln, m9, d.labels, d.tail⟩ ys).Bl (fun b => w2.heap.size ≤ b)
  b : Below w2.heap.size w2 u
theorem CpFin.make {w2 u : World} {d : TyD} {l ys : List Ty} {A8 A9 : Option Addr} {m8 m9 : Nat} (hc : d.ln ≤ d.lc ∧ d.lc ≤ maxLen ∧ d.pn ≤ d.pc ∧ d.pc ≤ maxLen ∧ d.ln ≤ 4000000 ∧ d.pn ≤ 4000000) (h1 : tyL ys l) (h2 : Rd u 5 A8 d.pn (ys.flatMap Ty.cells)) (h3 : ∀ y ∈ ys, y.In u) (h4 : ∀ y ∈ ys, y.Bl (fun b => w2.heap.size ≤ b))
    (h5 : 0 < d.pn → ∀ a, A8 = some a → w2.heap.size ≤ a.block) (h6 : d.pn ≤ m8) (h7 : m8 ≤ maxLen) (k1 : Rd u 1 A9 d.ln (strs d.labels)) (k2 : 0 < d.ln → ∀ a, A9 = some a → w2.heap.size ≤ a.block) (k3 : d.ln ≤ m9) (k4 : m9 ≤ maxLen) (hb : Below w2.heap.size w2 u) : CpFin w2 u d l ys A8 m8 A9 m9 :=
  ⟨h1, .mk _ _ k1 h2 ⟨k3, k4, h6, h7, hc.2.2.2.2.1, hc.2.2.2.2.2⟩ h3, .mk _ _ k2 h5 h4, hb⟩
theorem box5 (w : World) (g : Nat) {x0 x1 x2 x3 x4 : Value} {T : TypeId} {fr : Nat × Nat} (h : w.heap[g]? = some (.cells #[x0, x1, x2, x3, x4] T fr)) (a0 a1 a2 a3 a4 : Value) :
    (((((w.setCell ⟨g, 0, none⟩ a0).setCell ⟨g, 1, none⟩ a1).setCell ⟨g, 2, none⟩ a2).setCell ⟨g, 3, none⟩ a3).setCell ⟨g, 4, none⟩ a4).heap[g]? = some (.cells #[a0, a1, a2, a3, a4] T fr) := by
  simp [World.setCell, Array.getElem?_modify, h]
theorem in_sets {w : World} {t : Ty} {g i n : Nat} {u : Value} (h : t.In w) (hB : t.Bl (fun b => n ≤ b)) (hg : g < n) : t.In (w.setCell ⟨g, i, none⟩ u) :=
  h.keepP hB (fun b hb _ => Below.heap_setCell w _ _ b (by show b ≠ g; omega))
theorem cp_end {u W : World} {g n : Nat} {y : Ty} (hI : y.In u) (hB : y.Bl (fun b => n ≤ b)) (hg : g + 1 < n) (hW : Below W.heap.size W u) (hWg : W.heap.size ≤ g) {x0 x1 x2 x3 x4 : Value} {T : TypeId} {fr : Nat × Nat} (h : u.heap[g]? = some (.cells #[x0, x1, x2, x3, x4] T fr)) (a0 a1 a2 a3 a4 : Value) :
    y.In (((((((u.setCell ⟨g + 1, 2, none⟩ a2).setCell ⟨g + 1, 3, none⟩ a3).setCell ⟨g, 0, none⟩ a0).setCell ⟨g, 1, none⟩ a1).setCell ⟨g, 2, none⟩ a2).setCell ⟨g, 3, none⟩ a3).setCell ⟨g, 4, none⟩ a4) ∧ Below W.heap.size W (((((((u.setCell ⟨g + 1, 2, none⟩ a2).setCell ⟨g + 1, 3, none⟩ a3).setCell ⟨g, 0, none⟩ a0).setCell ⟨g, 1, none⟩ a1).setCell ⟨g, 2, none⟩ a2).setCell ⟨g, 3, none⟩ a3).setCell ⟨g, 4, none⟩ a4) ∧ (((((((u.setCell ⟨g + 1, 2, none⟩ a2).setCell ⟨g + 1, 3, none⟩ a3).setCell ⟨g, 0, none⟩ a0).setCell ⟨g, 1, none⟩ a1).setCell ⟨g, 2, none⟩ a2).setCell ⟨g, 3, none⟩ a3).setCell ⟨g, 4, none⟩ a4).heap[g]? = some (.cells #[a0, a1, a2, a3, a4] T fr) :=
  ⟨(in_sets (in_sets (in_sets (in_sets (in_sets (in_sets (in_sets hI hB (by omega)) hB (by omega)) hB (by omega)) hB (by omega)) hB (by omega)) hB (by omega)) hB (by omega)), (Below.setCell (p := ⟨g, 4, none⟩) (Below.setCell (p := ⟨g, 3, none⟩) (Below.setCell (p := ⟨g, 2, none⟩) (Below.setCell (p := ⟨g, 1, none⟩) (Below.setCell (p := ⟨g, 0, none⟩) (Below.setCell (p := ⟨g + 1, 3, none⟩) (Below.setCell (p := ⟨g + 1, 2, none⟩) hW (show W.heap.size ≤ g + 1 by omega) a2) (show W.heap.size ≤ g + 1 by omega) a3) (show W.heap.size ≤ g by omega) a0) (show W.heap.size ≤ g by omega) a1) (show W.heap.size ≤ g by omega) a2) (show W.heap.size ≤ g by omega) a3) (show W.heap.size ≤ g by omega) a4), box5 ((u.setCell ⟨g + 1, 2, none⟩ a2).setCell ⟨g + 1, 3, none⟩ a3) g ((Below.heap_setCell _ _ _ g (by show g ≠ g + 1; omega)).trans ((Below.heap_setCell _ _ _ g (by show g ≠ g + 1; omega)).trans h)) _ _ _ _ _⟩
set_option maxRecDepth 100000 in
set_option maxHeartbeats 2000000 in
theorem copied_any (w0 : World) (x : Ty) (hIn : x.In w0) : ∀ (b o : Nat) (W : World), x.d.At w0 b o → Below w0.heap.size w0 W → Calls Tryd.prog 29 #[.pointer (some ⟨b, o, none⟩)] W (CpR x W) := by
  induction hIn with
  | mk d l lab par cap sub ih =>
  intro b o W hAt hb
  have hI : (Ty.mk d l).In w0 := .mk d l lab par cap sub
  have hbz : Below W.heap.size W (W.alloc (.cells #[.int .i64 0, .int .i64 0, .slice none 0 0, .slice none 0 0, .int .i64 0] 25)) := (Below.refl _ _).alloc (Nat.le_refl _) _
  have hb1 : Below W.heap.size W ((W.alloc (.cells #[.int .i64 0, .int .i64 0, .slice none 0 0, .slice none 0 0, .int .i64 0] 25)).alloc (.cells d.arr 25)) := hbz.alloc hbz.size _
  obtain ⟨c0, c1, c2, c3, c4⟩ := ((show d.At w0 b o from hAt).lower hb).lower hbz
  have hBX := box_at (W.alloc (.cells #[.int .i64 0, .int .i64 0, .slice none 0 0, .slice none 0 0, .int .i64 0] 25)) d
  have hlen : l.length = d.pn := hI.len
  have HCO : RowKit.Hid (∀ V, Below ((W.alloc (.cells #[.int .i64 0, .int .i64 0, .slice none 0 0, .slice none 0 0, .int .i64 0] 25)).alloc (.cells d.arr 25)).heap.size ((W.alloc (.cells #[.int .i64 0, .int .i64 0, .slice none 0 0, .slice none 0 0, .int .i64 0] 25)).alloc (.cells d.arr 25)) V → Calls Tryd.prog 23 #[.slice d.pA d.pn d.pc] V (CoR ((W.alloc (.cells #[.int .i64 0, .int .i64 0, .slice none 0 0, .slice none 0 0, .int .i64 0] 25)).alloc (.cells d.arr 25)) l d.pn V)) := Lib.hid fun V hV =>
    (copies_any w0 l (fun x hx => ih x hx) d.pA d.pn d.pc hlen cap.2.2.2.2.2 (fun k hk => hI.part (k := k) hk) V (below_then (below_then hb hb1) hV)).mono fun e v ⟨A, n, c, ys, he, hn, h1, h2, h3, h4, h5, h6, h7, h8⟩ => by
      have hn' : n = d.pn := by rw [← hn, tyL_len h1, hlen]
      subst hn'
      exact ⟨A, c, ys, he, h1, h2, h3, fun y hy => (h4 y hy).imp (h3 y hy) (fun b hb _ => Nat.le_trans hV.size hb), fun h a ha => Nat.le_trans hV.size (h5 h a ha), h6, h7, h8, below_then hV h8⟩
  have HCL : RowKit.Hid (∀ V, Below ((W.alloc (.cells #[.int .i64 0, .int .i64 0, .slice none 0 0, .slice none 0 0, .int .i64 0] 25)).alloc (.cells d.arr 25)).heap.size ((W.alloc (.cells #[.int .i64 0, .int .i64 0, .slice none 0 0, .slice none 0 0, .int .i64 0] 25)).alloc (.cells d.arr 25)) V → Calls Tryd.prog 24 #[.slice d.lA d.ln d.lc] V (ClR ((W.alloc (.cells #[.int .i64 0, .int .i64 0, .slice none 0 0, .slice none 0 0, .int .i64 0] 25)).alloc (.cells d.arr 25)) d.labels d.ln V)) := Lib.hid fun V hV =>
    (clone_any d.lA d.labels d.ln d.lc V (lab.below (below_then (below_then hb hb1) hV)) cap.2.2.2.2.1).mono fun e v ⟨A, c, he, h1, h2, h3, h4, h5⟩ => ⟨A, c, he, h1, fun h a ha => Nat.le_trans hV.size (h2 h a ha), h3, h4, h5, below_then hV h5⟩
  have HI := Lib.hid hI
  have HB := Lib.hid hb
  have HB1 := Lib.hid hb1
  have HCP := Lib.hid cap
  clear lab par cap sub ih hAt hb hb1 hI hlen
  go_enter Tryd.func29, Tryd.ntmps29
  go_wp2_with fail
  have hsz2 : (W.alloc (.cells #[.int .i64 0, .int .i64 0, .slice none 0 0, .slice none 0 0, .int .i64 0] 25)).heap.size = W.heap.size + 1 := by simp
  rw [hsz2] at hBX
  have hbz2 : Below (W.heap.size + 1) W ((W.alloc (.cells #[.int .i64 0, .int .i64 0, .slice none 0 0, .slice none 0 0, .int .i64 0] 25)).alloc (.cells d.arr 25)) → True := fun _ => trivial
  have hg2 : ((W.alloc (.cells #[.int .i64 0, .int .i64 0, .slice none 0 0, .slice none 0 0, .int .i64 0] 25)).alloc (.cells d.arr 25)).heap[W.heap.size]? = some (.cells #[.int .i64 0, .int .i64 0, .slice none 0 0, .slice none 0 0, .int .i64 0] 25) := (Below.heap_alloc _ _ _ (by simp)).trans (heap_alloc_new W _)
  have hg3 : ((W.alloc (.cells #[.int .i64 0, .int .i64 0, .slice none 0 0, .slice none 0 0, .int .i64 0] 25)).alloc (.cells d.arr 25)).heap[W.heap.size + 1]? = some (.cells d.arr 25) := by
    have h := heap_alloc_new (W.alloc (.cells #[.int .i64 0, .int .i64 0, .slice none 0 0, .slice none 0 0, .int .i64 0] 25)) (.cells d.arr 25)
    rw [hsz2] at h
    exact h
  have hs3 : ((W.alloc (.cells #[.int .i64 0, .int .i64 0, .slice none 0 0, .slice none 0 0, .int .i64 0] 25)).alloc (.cells d.arr 25)).heap.size = W.heap.size + 2 := by simp
  have HAW := Lib.hid (show d.At ((W.alloc (.cells #[.int .i64 0, .int .i64 0, .slice none 0 0, .slice none 0 0, .int .i64 0] 25)).alloc (.cells d.arr 25)) b o from ⟨cell_alloc c0, cell_alloc c1, cell_alloc c2, cell_alloc c3, cell_alloc c4⟩)
  clear c0 c1 c2 c3 c4 hbz hbz2
  generalize ((W.alloc (.cells #[.int .i64 0, .int .i64 0, .slice none 0 0, .slice none 0 0, .int .i64 0] 25)).alloc (.cells d.arr 25)) = w2 at *
  clear hsz2
  obtain ⟨g2, hgg⟩ : ∃ g2, W.heap.size = g2 := ⟨_, rfl⟩
  rw [hgg] at hBX hg2 hg3 hs3 ⊢
  have HG := Lib.hid (And.intro hg2 (And.intro hg3 (And.intro hs3 hBX)))
  have HGG := Lib.hid hgg
  clear hg2 hg3 hs3 hBX hgg
  obtain ⟨c0, c1, c2, c3, c4⟩ := HAW.out
  have hD0 : Below w2.heap.size w2 w2.drew := Below.drew (Below.refl _ _)
  go_region_with (first
    | (go_at_call 23; (with_reducible refine (HCO.out _ ?hw).mono ?_); (case hw => first | exact hD0 | exact hD9); rintro e v8 ⟨A8, m8, ys, rfl, h8⟩; have hD8 := h8.2.2.2.2.2.2.2.2; have hh8 := (hD8.block (g2 + 1) (by have := HG.out.2.2.1; omega)).trans HG.out.2.1; have hq8 := (hD8.block g2 (by have := HG.out.2.2.1; omega)).trans HG.out.1; obtain ⟨m0, m1, m2, m3, m4⟩ := HG.out.2.2.2.lower hD8; have f2 := Lib.frozen_of_heap hh8 2; have f3 := Lib.frozen_of_heap hh8 3; obtain ⟨n0, n1, n2, n3, n4⟩ := HAW.out.lower hD8)
    | (go_at_call 24; (with_reducible refine (HCL.out _ ?hw).mono ?_); (case hw => first | exact hD0 | exact hD8); rintro e v9 ⟨A9, m9, rfl, h9⟩; have hD9 := h9.2.2.2.2.2; have hh9 := (hD9.block (g2 + 1) (by have := HG.out.2.2.1; omega)).trans HG.out.2.1; have hq9 := (hD9.block g2 (by have := HG.out.2.2.1; omega)).trans HG.out.1; obtain ⟨m0, m1, m2, m3, m4⟩ := HG.out.2.2.2.lower hD9; have f2 := Lib.frozen_of_heap hh9 2; have f3 := Lib.frozen_of_heap hh9 3; obtain ⟨n0, n1, n2, n3, n4⟩ := HAW.out.lower hD9))
  all_goals
       have HV := Lib.hid (CpFin.make HCP.out h8.1 (h8.2.1.below h9.2.2.2.2.1) (fun y hy => (h8.2.2.1 y hy).lower h9.2.2.2.2.1) h8.2.2.2.1 h8.2.2.2.2.1 h8.2.2.2.2.2.1 h8.2.2.2.2.2.2.1 h9.1 h9.2.1 h9.2.2.1 h9.2.2.2.1 h9.2.2.2.2.2)
       have hq := hq9
       have r0 : v9.cell? ⟨g2, 0, none⟩ = some (.int .i64 0) := by rw [Lib.cell_of_heap hq]; rfl
       have r1 : v9.cell? ⟨g2, 1, none⟩ = some (.int .i64 0) := by rw [Lib.cell_of_heap hq]; rfl
       have r2 : v9.cell? ⟨g2, 2, none⟩ = some (.slice none 0 0) := by rw [Lib.cell_of_heap hq]; rfl
       have r3 : v9.cell? ⟨g2, 3, none⟩ = some (.slice none 0 0) := by rw [Lib.cell_of_heap hq]; rfl
       have r4 : v9.cell? ⟨g2, 4, none⟩ = some (.int .i64 0) := by rw [Lib.cell_of_heap hq]; rfl
       have z0 := Lib.frozen_of_heap hq 0
       have z1 := Lib.frozen_of_heap hq 1
       have z2 := Lib.frozen_of_heap hq 2
       have z3 := Lib.frozen_of_heap hq 3
       have z4 := Lib.frozen_of_heap hq 4
       have HE := Lib.hid (cp_end HV.out.inn HV.out.bl (by have := HG.out.2.2.1; omega) (below_then HB1.out HV.out.b) (by have := HGG.out; omega) hq (.int .i64 d.kind) (.int .i64 d.n) (.slice A8 d.pn m8) (.slice A9 d.ln m9) (.int .i64 d.tail))
       clear h8 h9 hD8 hD9 hD0 HCO HCL HI HB n0 n1 n2 n3 n4 hq8 hq9 hh8 hh9 hq c0 c1 c2 c3 c4
       go_wp2_with fail
       clear m0 m1 m2 m3 m4 f2 f3 r0 r1 r2 r3 r4 z0 z1 z2 z3 z4
       generalize (((((((v9.setCell ⟨g2 + 1, 2, none⟩ (.slice A8 d.pn m8)).setCell ⟨g2 + 1, 3, none⟩ (.slice A9 d.ln m9)).setCell ⟨g2, 0, none⟩ (.int .i64 d.kind)).setCell ⟨g2, 1, none⟩ (.int .i64 d.n)).setCell ⟨g2, 2, none⟩ (.slice A8 d.pn m8)).setCell ⟨g2, 3, none⟩ (.slice A9 d.ln m9)).setCell ⟨g2, 4, none⟩ (.int .i64 d.tail)) = w7 at *
       have e0 : w7.cell? ⟨g2, 0, none⟩ = some (.int .i64 d.kind) := by rw [Lib.cell_of_heap HE.out.2.2]; rfl
       have e1 : w7.cell? ⟨g2, 1, none⟩ = some (.int .i64 d.n) := by rw [Lib.cell_of_heap HE.out.2.2]; rfl
       have e2 : w7.cell? ⟨g2, 2, none⟩ = some (.slice A8 d.pn m8) := by rw [Lib.cell_of_heap HE.out.2.2]; rfl
       have e3 : w7.cell? ⟨g2, 3, none⟩ = some (.slice A9 d.ln m9) := by rw [Lib.cell_of_heap HE.out.2.2]; rfl
       have e4 : w7.cell? ⟨g2, 4, none⟩ = some (.int .i64 d.tail) := by rw [Lib.cell_of_heap HE.out.2.2]; rfl
       refine bodyPost_ret (by simp [results, Tryd.results29, go_sem, e0, e1, e2, e3, e4]; try rfl) rfl ?_
       exact ⟨Ty.mk ⟨d.kind, d.n, A8, d.pn, m8, A9, d.ln, m9, d.labels, d.tail⟩ ys, rfl, HE.out.1, HV.out.bl.imp HV.out.inn (fun b hb _ => by have := HG.out.2.2.1; have := HGG.out; omega), ⟨rfl, rfl, rfl, rfl, HV.out.eqv⟩, HE.out.2.1⟩
end Go.Proofs.YtklandpagieapaaDoor

namespace Go.Proofs.YtklandpagieapaaDoor
open Go.ChangeShapes Go.WideShapes Go.ChangeAt Go.RowKit Go.Sort Go.Maps
set_option linter.unusedVariables false
set_option linter.unusedSimpArgs false

/-- A result that is written into its cell. -/
theorem rc_end {u W : World} {g n : Nat} {y : Ty} (hI : y.In u) (hB : y.Bl (fun b => n ≤ b)) (hg : g < n) (hW : Below W.heap.size W u) (hWg : W.heap.size ≤ g) {x0 x1 x2 x3 x4 : Value} {T : TypeId} {fr : Nat × Nat} (h : u.heap[g]? = some (.cells #[x0, x1, x2, x3, x4] T fr)) (a0 a1 a2 a3 a4 : Value) :
    y.In (((((u.setCell ⟨g, 0, none⟩ a0).setCell ⟨g, 1, none⟩ a1).setCell ⟨g, 2, none⟩ a2).setCell ⟨g, 3, none⟩ a3).setCell ⟨g, 4, none⟩ a4) ∧ Below W.heap.size W (((((u.setCell ⟨g, 0, none⟩ a0).setCell ⟨g, 1, none⟩ a1).setCell ⟨g, 2, none⟩ a2).setCell ⟨g, 3, none⟩ a3).setCell ⟨g, 4, none⟩ a4) ∧ (((((u.setCell ⟨g, 0, none⟩ a0).setCell ⟨g, 1, none⟩ a1).setCell ⟨g, 2, none⟩ a2).setCell ⟨g, 3, none⟩ a3).setCell ⟨g, 4, none⟩ a4).heap[g]? = some (.cells #[a0, a1, a2, a3, a4] T fr) :=
  ⟨in_sets (in_sets (in_sets (in_sets (in_sets hI hB hg) hB hg) hB hg) hB hg) hB hg, Below.setCell (p := ⟨g, 4, none⟩) (Below.setCell (p := ⟨g, 3, none⟩) (Below.setCell (p := ⟨g, 2, none⟩) (Below.setCell (p := ⟨g, 1, none⟩) (Below.setCell (p := ⟨g, 0, none⟩) hW hWg a0) hWg a1) hWg a2) hWg a3) hWg a4, box5 u g h _ _ _ _ _⟩
/-- What a maker of types tells: a new one that is alike. -/
def MkR (t : Ty) (W : World) (e : Ending) (w' : World) : Prop := ∃ y : Ty, e = .returned (.agg y.d.arr) ∧ y.In w' ∧ y.eqv t ∧ Below W.heap.size W w'
theorem cells5 {w : World} {g : Nat} {x0 x1 x2 x3 x4 : Value} {T : TypeId} {fr : Nat × Nat} (h : w.heap[g]? = some (.cells #[x0, x1, x2, x3, x4] T fr)) :
    w.cell? ⟨g, 0, none⟩ = some x0 ∧ w.cell? ⟨g, 1, none⟩ = some x1 ∧ w.cell? ⟨g, 2, none⟩ = some x2 ∧ w.cell? ⟨g, 3, none⟩ = some x3 ∧ w.cell? ⟨g, 4, none⟩ = some x4 := by
  refine ⟨?_, ?_, ?_, ?_, ?_⟩ <;> (rw [Lib.cell_of_heap h]; rfl)
theorem frozen5 {w : World} {g : Nat} {cs : Array Value} {T : TypeId} (h : w.heap[g]? = some (.cells cs T (0, 0))) :
    w.frozen? ⟨g, 0, none⟩ = false ∧ w.frozen? ⟨g, 1, none⟩ = false ∧ w.frozen? ⟨g, 2, none⟩ = false ∧ w.frozen? ⟨g, 3, none⟩ = false ∧ w.frozen? ⟨g, 4, none⟩ = false :=
  ⟨Lib.frozen_of_heap h 0, Lib.frozen_of_heap h 1, Lib.frozen_of_heap h 2, Lib.frozen_of_heap h 3, Lib.frozen_of_heap h 4⟩

set_option maxRecDepth 100000 in
set_option maxHeartbeats 2000000 in
theorem typRow_any (w0 : World) (d : TyD) (l : List Ty) (hI : (Ty.mk d l).In w0) (W : World) (hb : Below w0.heap.size w0 W) :
    Calls Tryd.prog 10 #[.int .i64 d.kind, .slice d.lA d.ln d.lc, .slice d.pA d.pn d.pc, .int .i64 d.tail] W (MkR (.mk { d with n := 0 } l) W) := by
  have hbz : Below W.heap.size W (W.alloc (.cells #[.int .i64 0, .int .i64 0, .slice none 0 0, .slice none 0 0, .int .i64 0] 25)) := (Below.refl _ _).alloc (Nat.le_refl _) _
  have HG := Lib.hid (heap_alloc_new W (.cells #[.int .i64 0, .int .i64 0, .slice none 0 0, .slice none 0 0, .int .i64 0] 25))
  have HSZ := Lib.hid (show (W.alloc (.cells #[.int .i64 0, .int .i64 0, .slice none 0 0, .slice none 0 0, .int .i64 0] 25)).heap.size = W.heap.size + 1 from World.size_alloc _ _)
  have HBZ := Lib.hid hbz
  have hlen : l.length = d.pn := hI.len
  have hcap : d.ln ≤ d.lc ∧ d.lc ≤ maxLen ∧ d.pn ≤ d.pc ∧ d.pc ≤ maxLen ∧ d.ln ≤ 4000000 ∧ d.pn ≤ 4000000 := hI.cap
  have HCP := Lib.hid hcap
  have HCO := Lib.hid (copies_any w0 l (fun x hx => copied_any w0 x (hI.sub x hx)) d.pA d.pn d.pc hlen hcap.2.2.2.2.2 (fun k hk => hI.part (k := k) hk) _ (below_then hb hbz))
  have HLAB := Lib.hid (show ∀ V, Below w0.heap.size w0 V → Rd V 1 d.lA d.ln (strs d.labels) from fun V hV => hI.lab.below hV)
  have HL := Lib.hid hlen
  have HB := Lib.hid (below_then hb hbz)
  clear hb hbz hI hlen hcap
  go_enter Tryd.func10, Tryd.ntmps10
  go_wp2_with fail
  generalize (W.alloc (.cells #[.int .i64 0, .int .i64 0, .slice none 0 0, .slice none 0 0, .int .i64 0] 25)) = w1 at *
  refine HCO.out.mono ?_
  rintro e v1 ⟨A8, n8, m8, ys, rfl, hn8, h1, h2, h3, h4, h5, h6, h7, h8⟩
  obtain rfl : n8 = d.pn := by rw [← hn8, tyL_len h1, HL.out]
  have H1 := Lib.hid (And.intro h1 (And.intro h2 (And.intro h3 (And.intro h4 (And.intro h5 (And.intro h6 (And.intro h7 h8)))))))
  clear h1 h2 h3 h4 h5 h6 h7 h8 hn8 HCO
  go_wp2_with fail
  refine (clone_any d.lA d.labels d.ln d.lc v1 (HLAB.out v1 (below_then HB.out H1.out.2.2.2.2.2.2.2)) HCP.out.2.2.2.2.1).mono ?_
  rintro e v2 ⟨A9, m9, rfl, k1, k2, k3, k4, k5⟩
  have HIN : RowKit.Hid ((Ty.mk ⟨d.kind, 0, A8, d.pn, m8, A9, d.ln, m9, d.labels, d.tail⟩ ys).In v2) := Lib.hid (.mk _ _ k1 (H1.out.2.1.below k5) ⟨k3, k4, H1.out.2.2.2.2.2.1, H1.out.2.2.2.2.2.2.1, HCP.out.2.2.2.2.1, HCP.out.2.2.2.2.2⟩ (fun y hy => (H1.out.2.2.1 y hy).lower k5))
  have HBL : RowKit.Hid ((Ty.mk ⟨d.kind, 0, A8, d.pn, m8, A9, d.ln, m9, d.labels, d.tail⟩ ys).Bl (fun b => w1.heap.size ≤ b)) := Lib.hid (.mk _ _ (fun h a ha => Nat.le_trans H1.out.2.2.2.2.2.2.2.size (k2 h a ha)) H1.out.2.2.2.2.1 H1.out.2.2.2.1)
  have HB2 := Lib.hid (below_then H1.out.2.2.2.2.2.2.2 k5)
  clear k1 k2 k3 k4 k5
  have hq := (HB2.out.block W.heap.size (by rw [HSZ.out]; omega)).trans HG.out
  obtain ⟨r0, r1, r2, r3, r4⟩ := cells5 hq
  obtain ⟨z0, z1, z2, z3, z4⟩ := frozen5 hq
  have HE := Lib.hid (rc_end HIN.out HBL.out (show W.heap.size < w1.heap.size by rw [HSZ.out]; omega) (below_then HBZ.out HB2.out) (Nat.le_refl _) hq (.int .i64 d.kind) (.int .i64 0) (.slice A8 d.pn m8) (.slice A9 d.ln m9) (.int .i64 d.tail))
  clear hq
  go_wp2_with fail
  clear r0 r1 r2 r3 r4 z0 z1 z2 z3 z4
  generalize (((((v2.setCell ⟨W.heap.size, 0, none⟩ (.int .i64 d.kind)).setCell ⟨W.heap.size, 1, none⟩ (.int .i64 0)).setCell ⟨W.heap.size, 2, none⟩ (.slice A8 d.pn m8)).setCell ⟨W.heap.size, 3, none⟩ (.slice A9 d.ln m9)).setCell ⟨W.heap.size, 4, none⟩ (.int .i64 d.tail)) = w7 at *
  obtain ⟨e0, e1, e2, e3, e4⟩ := cells5 HE.out.2.2
  refine bodyPost_ret (by simp [results, Tryd.results10, go_sem, e0, e1, e2, e3, e4]; try rfl) rfl ?_
  exact ⟨Ty.mk ⟨d.kind, 0, A8, d.pn, m8, A9, d.ln, m9, d.labels, d.tail⟩ ys, rfl, HE.out.1, ⟨rfl, rfl, rfl, rfl, H1.out.1⟩, HE.out.2.1⟩

set_option maxRecDepth 100000 in
set_option maxHeartbeats 2000000 in
theorem typVar_any (n : Int) (W : World) : Calls Tryd.prog 9 #[.int .i64 n] W fun e w' => e = .returned (.agg #[.int .i64 7, .int .i64 n, .slice none 0 0, .slice none 0 0, .int .i64 (-1)]) ∧ Below W.heap.size W w' := by
  go_enter Tryd.func9, Tryd.ntmps9
  go_wp2_with fail
  go_returns
  exact ⟨rfl, (Below.refl _ _).alloc (Nat.le_refl _) _⟩

/-- A function's type. -/
def fnTy (x1 x2 : Ty) : Ty := .mk ⟨3, 0, none, 0, 0, none, 0, 0, [], -1⟩ [x1, x2]
theorem rd_two (w : World) (y1 y2 : Ty) : Rd (w.alloc (.cells #[.int .i64 y1.d.kind, .int .i64 y1.d.n, .slice y1.d.pA y1.d.pn y1.d.pc, .slice y1.d.lA y1.d.ln y1.d.lc, .int .i64 y1.d.tail, .int .i64 y2.d.kind, .int .i64 y2.d.n, .slice y2.d.pA y2.d.pn y2.d.pc, .slice y2.d.lA y2.d.ln y2.d.lc, .int .i64 y2.d.tail] 25)) 5 (some ⟨w.heap.size, 0, none⟩) 2 ([y1, y2].flatMap Ty.cells) :=
  Rd.lit w #[.int .i64 y1.d.kind, .int .i64 y1.d.n, .slice y1.d.pA y1.d.pn y1.d.pc, .slice y1.d.lA y1.d.ln y1.d.lc, .int .i64 y1.d.tail, .int .i64 y2.d.kind, .int .i64 y2.d.n, .slice y2.d.pA y2.d.pn y2.d.pc, .slice y2.d.lA y2.d.ln y2.d.lc, .int .i64 y2.d.tail] 25 rfl

set_option maxRecDepth 100000 in
set_option maxHeartbeats 2000000 in
theorem typFn_any (x1 x2 : Ty) (W : World) (h1 : x1.In W) (h2 : x2.In W) :
    Calls Tryd.prog 13 #[.agg x1.d.arr, .agg x2.d.arr] W (MkR (fnTy x1 x2) W) := by
  have hb1 : Below W.heap.size W (W.alloc (.cells x1.d.arr 25)) := (Below.refl _ _).alloc (Nat.le_refl _) _
  have hb2 : Below W.heap.size W ((W.alloc (.cells x1.d.arr 25)).alloc (.cells x2.d.arr 25)) := hb1.alloc hb1.size _
  have hb3 : Below W.heap.size W (((W.alloc (.cells x1.d.arr 25)).alloc (.cells x2.d.arr 25)).alloc (.cells #[.int .i64 0, .int .i64 0, .slice none 0 0, .slice none 0 0, .int .i64 0] 25)) := hb2.alloc hb2.size _
  have HG := Lib.hid (show (((W.alloc (.cells x1.d.arr 25)).alloc (.cells x2.d.arr 25)).alloc (.cells #[.int .i64 0, .int .i64 0, .slice none 0 0, .slice none 0 0, .int .i64 0] 25)).heap[W.heap.size + 1 + 1]? = some (.cells #[.int .i64 0, .int .i64 0, .slice none 0 0, .slice none 0 0, .int .i64 0] 25) by
    have h := heap_alloc_new ((W.alloc (.cells x1.d.arr 25)).alloc (.cells x2.d.arr 25)) (.cells #[.int .i64 0, .int .i64 0, .slice none 0 0, .slice none 0 0, .int .i64 0] 25)
    rw [show ((W.alloc (.cells x1.d.arr 25)).alloc (.cells x2.d.arr 25)).heap.size = W.heap.size + 1 + 1 by simp] at h
    exact h)
  have HSZ := Lib.hid (show (((W.alloc (.cells x1.d.arr 25)).alloc (.cells x2.d.arr 25)).alloc (.cells #[.int .i64 0, .int .i64 0, .slice none 0 0, .slice none 0 0, .int .i64 0] 25)).heap.size = W.heap.size + 3 by simp)
  have HA1 := Lib.hid (show x1.d.At (((W.alloc (.cells x1.d.arr 25)).alloc (.cells x2.d.arr 25)).alloc (.cells #[.int .i64 0, .int .i64 0, .slice none 0 0, .slice none 0 0, .int .i64 0] 25)) W.heap.size 0 from ((box_at W x1.d).lower ((Below.refl _ _).alloc (Nat.le_refl _) _)).lower ((Below.refl _ _).alloc (Nat.le_refl _) _))
  have HA2 := Lib.hid (show x2.d.At (((W.alloc (.cells x1.d.arr 25)).alloc (.cells x2.d.arr 25)).alloc (.cells #[.int .i64 0, .int .i64 0, .slice none 0 0, .slice none 0 0, .int .i64 0] 25)) (W.heap.size + 1) 0 by
    have h := (box_at (W.alloc (.cells x1.d.arr 25)) x2.d).lower ((Below.refl _ _).alloc (Nat.le_refl _) (.cells #[.int .i64 0, .int .i64 0, .slice none 0 0, .slice none 0 0, .int .i64 0] 25))
    rw [show (W.alloc (.cells x1.d.arr 25)).heap.size = W.heap.size + 1 by simp] at h
    exact h)
  have HI1 := Lib.hid (h1.lower hb3)
  have HI2 := Lib.hid (h2.lower hb3)
  have HB3 := Lib.hid hb3
  clear hb1 hb2 hb3 h1 h2
  go_enter Tryd.func13, Tryd.ntmps13
  go_wp2_with fail
  generalize (((W.alloc (.cells x1.d.arr 25)).alloc (.cells x2.d.arr 25)).alloc (.cells #[.int .i64 0, .int .i64 0, .slice none 0 0, .slice none 0 0, .int .i64 0] 25)) = w1 at *
  refine (copied_any w1 x1 HI1.out W.heap.size 0 w1 HA1.out (Below.refl _ _)).mono ?_
  rintro e v1 ⟨y1, rfl, i1, b1, e1, hb1⟩
  have H1 := Lib.hid (And.intro i1 (And.intro b1 (And.intro e1 hb1)))
  clear i1 b1 e1 hb1
  go_wp2_with fail
  refine (copied_any w1 x2 HI2.out (W.heap.size + 1) 0 v1 HA2.out H1.out.2.2.2).mono ?_
  rintro e v2 ⟨y2, rfl, i2, b2, e2, hb2⟩
  have H2 := Lib.hid (And.intro (H1.out.1.lower hb2) (And.intro i2 (And.intro (b2.imp i2 (fun b hb _ => Nat.le_trans H1.out.2.2.2.size hb)) (And.intro e2 (below_then H1.out.2.2.2 hb2)))))
  clear i2 b2 e2 hb2
  have hb3 : Below v2.heap.size v2 (v2.alloc (.cells #[.int .i64 y1.d.kind, .int .i64 y1.d.n, .slice y1.d.pA y1.d.pn y1.d.pc, .slice y1.d.lA y1.d.ln y1.d.lc, .int .i64 y1.d.tail, .int .i64 y2.d.kind, .int .i64 y2.d.n, .slice y2.d.pA y2.d.pn y2.d.pc, .slice y2.d.lA y2.d.ln y2.d.lc, .int .i64 y2.d.tail] 25)) := (Below.refl _ _).alloc (Nat.le_refl _) _
  have HIN : RowKit.Hid ((Ty.mk ⟨3, 0, some ⟨v2.heap.size, 0, none⟩, 2, 2, none, 0, 0, [], -1⟩ [y1, y2]).In _) := Lib.hid (.mk _ _ (Rd.nil _ _ _) (rd_two v2 y1 y2) (by simp [maxLen]) (fun y hy => by
    simp only [List.mem_cons, List.not_mem_nil, or_false] at hy
    rcases hy with rfl | rfl
    · exact H2.out.1.lower hb3
    · exact H2.out.2.1.lower hb3))
  have HBL : RowKit.Hid ((Ty.mk ⟨3, 0, some ⟨v2.heap.size, 0, none⟩, 2, 2, none, 0, 0, [], -1⟩ [y1, y2]).Bl (fun b => w1.heap.size ≤ b)) := Lib.hid (.mk _ _ (fun h => absurd (show 0 < 0 from h) (by omega)) (fun _ a ha => by cases ha; exact H2.out.2.2.2.2.size) (fun y hy => by
    simp only [List.mem_cons, List.not_mem_nil, or_false] at hy
    rcases hy with rfl | rfl
    · exact H1.out.2.1
    · exact H2.out.2.2.1))
  have HBB := Lib.hid (below_then H2.out.2.2.2.2 hb3)
  have hq := (HBB.out.block (W.heap.size + 1 + 1) (by rw [HSZ.out]; omega)).trans HG.out
  obtain ⟨r0, r1, r2, r3, r4⟩ := cells5 hq
  obtain ⟨z0, z1, z2, z3, z4⟩ := frozen5 hq
  have HE := Lib.hid (rc_end HIN.out HBL.out (show W.heap.size + 1 + 1 < w1.heap.size by rw [HSZ.out]; omega) (below_then HB3.out HBB.out) (by omega) hq (.int .i64 3) (.int .i64 0) (.slice (some ⟨v2.heap.size, 0, none⟩) 2 2) (.slice none 0 0) (.int .i64 (-1)))
  have HEV := Lib.hid (show (Ty.mk ⟨3, 0, some ⟨v2.heap.size, 0, none⟩, 2, 2, none, 0, 0, [], -1⟩ [y1, y2]).eqv (fnTy x1 x2) from ⟨rfl, rfl, rfl, rfl, H1.out.2.2.1, H2.out.2.2.2.1, trivial⟩)
  clear hq hb3
  go_wp2_with fail
  clear r0 r1 r2 r3 r4 z0 z1 z2 z3 z4
  generalize ((((((v2.alloc (.cells #[.int .i64 y1.d.kind, .int .i64 y1.d.n, .slice y1.d.pA y1.d.pn y1.d.pc, .slice y1.d.lA y1.d.ln y1.d.lc, .int .i64 y1.d.tail, .int .i64 y2.d.kind, .int .i64 y2.d.n, .slice y2.d.pA y2.d.pn y2.d.pc, .slice y2.d.lA y2.d.ln y2.d.lc, .int .i64 y2.d.tail] 25)).setCell ⟨W.heap.size + 1 + 1, 0, none⟩ (.int .i64 3)).setCell ⟨W.heap.size + 1 + 1, 1, none⟩ (.int .i64 0)).setCell ⟨W.heap.size + 1 + 1, 2, none⟩ (.slice (some ⟨v2.heap.size, 0, none⟩) 2 2)).setCell ⟨W.heap.size + 1 + 1, 3, none⟩ (.slice none 0 0)).setCell ⟨W.heap.size + 1 + 1, 4, none⟩ (.int .i64 (-1))) = w7 at *
  obtain ⟨e0, e1, e2, e3, e4⟩ := cells5 HE.out.2.2
  refine bodyPost_ret (by simp [results, Tryd.results13, go_sem, e0, e1, e2, e3, e4]; try rfl) rfl ?_
  exact ⟨Ty.mk ⟨3, 0, some ⟨v2.heap.size, 0, none⟩, 2, 2, none, 0, 0, [], -1⟩ [y1, y2], rfl, HE.out.1, HEV.out, HE.out.2.1⟩
end Go.Proofs.YtklandpagieapaaDoor

namespace Go.Proofs.YtklandpagieapaaDoor
open Go.ChangeShapes Go.WideShapes Go.ChangeAt Go.RowKit Go.Sort Go.Maps
set_option linter.unusedVariables false
set_option linter.unusedSimpArgs false
attribute [local irreducible] Go.wpQuiet

mutual
/-- No node has a row. -/
def Ty.nr : Ty → Prop
  | .mk d l => ¬ (d.kind = 4 ∨ d.kind = 5) ∧ nrL l
def nrL : List Ty → Prop
  | [] => True
  | x :: l => x.nr ∧ nrL l
end
theorem nrL_mem : ∀ (l : List Ty) (x : Ty), x ∈ l → nrL l → x.nr
  | y :: l, x, h, hv => by
    unfold nrL at hv
    rcases List.mem_cons.1 h with rfl | h
    · exact hv.1
    · exact nrL_mem l x h hv.2

set_option maxRecDepth 100000 in
set_option maxHeartbeats 2000000 in
theorem prow_no (p : Nat) (d : TyD) (b o : Nat) (W : World) (hAt : d.At W b o) (hk : ¬ (d.kind = 4 ∨ d.kind = 5)) :
    Calls Tryd.prog 31 #[.pointer (some ⟨p, 0, none⟩), .pointer (some ⟨b, o, none⟩)] W fun e w' => e = .returned (.tuple #[.agg Lf.zero.arr, .bool false]) ∧ Below W.heap.size W w' := by
  have hb1 : Below W.heap.size W (W.alloc (.cells #[.int .i64 0, .int .i64 0, .slice none 0 0, .slice none 0 0, .int .i64 0] 25)) := (Below.refl _ _).alloc (Nat.le_refl _) _
  have HR := Lib.hid (isRow_any d b o _ (hAt.lower hb1))
  rw [decide_eq_false hk] at HR
  have HB := Lib.hid hb1
  clear hAt hb1 hk
  go_enter Tryd.func31, Tryd.ntmps31
  go_wp2_with fail
  refine HR.out.mono ?_
  rintro e w1 ⟨rfl, rfl⟩
  go_wp2_with fail
  go_returns
  exact ⟨rfl, HB.out⟩

set_option maxRecDepth 100000 in
set_option maxHeartbeats 2000000 in
theorem psize_any {F G : Int → Option Lf} {c1 c2 : Nat} {m1 m2 : Value} {b1 b2 : Nat} (w0 : World) (p : Nat) (hP : PA F G c1 c2 m1 m2 b1 b2 w0 p) (t : Ty) (hI : t.In w0) : t.nr → t.fb → t.Rg → t.nodes ≤ 4000000 → ∀ (b o : Nat) (W : World), t.d.At w0 b o → Below w0.heap.size w0 W →
    Calls Tryd.prog 18 #[.pointer (some ⟨p, 0, none⟩), .pointer (some ⟨b, o, none⟩)] W fun e w' => e = .returned (.int .i64 t.nodes) ∧ Below W.heap.size W w' := by
  induction hI with
  | mk d l lab par cap sub ih =>
  intro hnr hfb hG hnd b o W hAt hb
  have hI : (Ty.mk d l).In w0 := .mk d l lab par cap sub
  obtain ⟨gn, gt, gl⟩ : (Lit.int .i64 d.n).wf = true ∧ (Lit.int .i64 d.tail).wf = true ∧ ∀ x ∈ l, Ty.Rg x := by cases hG; exact ⟨by assumption, by assumption, by assumption⟩
  obtain ⟨hk, hnl⟩ : ¬ (d.kind = 4 ∨ d.kind = 5) ∧ nrL l := by unfold Ty.nr at hnr; exact hnr
  obtain ⟨hf, hfl⟩ : d.fieldsB = true ∧ fbL l := by unfold Ty.fb at hfb; exact hfb
  have HP := Lib.hid (fun V (h : Below w0.heap.size w0 V) => hP.below h)
  have HE := Lib.hid (fun V (h : Below w0.heap.size w0 V) => (show d.At w0 b o from hAt).lower h)
  have HB := Lib.hid hb
  have HI := Lib.hid hI
  have HK := Lib.hid hk
  have HGN := Lib.hid gn
  have HX := Lib.hid (fun x (hx : x ∈ l) => ih x hx (nrL_mem l x hx hnl) (fbL_mem l x hx hfl) (gl x hx))
  have HN := Lib.hid (show 1 + nodesL l ≤ 4000000 by unfold Ty.nodes at hnd; exact hnd)
  have HL := Lib.hid (show l.length = d.pn from hI.len)
  have HCP := Lib.hid cap
  have HF7 := Lib.hid hf
  clear lab par cap sub ih hnr hfb hG hnd hAt hI gn gt gl hk hnl hf hfl hP
  obtain ⟨c0, c1, c2, c3, c4⟩ := HE.out _ hb
  obtain ⟨q0, q1, q2, q3, l1, l2, s1, s2⟩ := HP.out _ hb
  have hlk := LM.look (l1.below (below_drew1 W)) HGN.out
  have hbz : Below W.heap.size W (W.alloc (.cells #[.int .i64 0, .int .i64 0, .slice none 0 0, .slice none 0 0, .int .i64 0] 25)) := (Below.refl _ _).alloc (Nat.le_refl _) _
  obtain ⟨y0, y1, y2, y3, y4⟩ := HE.out _ (below_then hb hbz)
  have u0 := cell_below hbz q0
  have hlk2 := LM.look (l1.below (below_then hbz (below_drew1 _))) HGN.out
  clear l1 l2 s1 s2 hb
  show Calls Tryd.prog 18 #[.pointer (some ⟨p, 0, none⟩), .pointer (some ⟨b, o, none⟩)] W fun e w' => e = .returned (.int .i64 (1 + nodesL l : Nat)) ∧ Below W.heap.size W w'
  go_enter Tryd.func18, Tryd.ntmps18
  go_upto_region 1 with fail
  go_cut [5, 6] from 11 to 23 (fun v5 v6 wx => v6 = .bool (F d.n).isSome ∧ Below W.heap.size W wx)
  case first =>
    go_region
    all_goals
      go_wp2_with fail
      go_meet
      exact ⟨rfl, Below.drew ((Below.refl _ _).alloc (Nat.le_refl _) _)⟩
  case rest =>
  obtain ⟨rfl, hbx⟩ := hcut
  have HX1 := Lib.hid hbx
  clear c0 c1 c2 c3 c4 q0 q1 q2 q3 hlk hlk2 hbz y0 y1 y2 y3 y4 u0 hbx
  obtain ⟨c0, c1, c2, c3, c4⟩ := HE.out _ (below_then HB.out HX1.out)
  by_cases hA : (F d.n).isSome = true ∧ d.kind = 7
  · have HPX := Lib.hid (HP.out _ (below_then HB.out HX1.out))
    obtain ⟨hF, hk7⟩ := hA
    have q7 : (d.kind == 7) = true := by simpa using hk7
    have HZ := Lib.hid (show nodesL l = 0 by
      have hf := HF7.out
      unfold TyD.fieldsB at hf
      rw [if_neg HK.out, if_pos hk7] at hf
      simp only [TyD.bareB, Bool.and_eq_true, decide_eq_true_eq] at hf
      have hpn : d.pn = 0 := by have := hf.2.1.1; omega
      have hl := HL.out
      rw [hpn] at hl
      match l, hl with
      | [], _ => rfl)
    rw [hF]
    generalize wc = w1 at *
    have kq2 := cell_regrown HPX.out.q2
    have kc1 := cell_regrown c1
    have kl : ∀ dd os, (Instr.lookup 47 (.map (some b1)) (.int .i64 d.n) false).run Tryd.prog (grow (redrawn w1 dd) os) = .ok (.int .i64 1) (grow (redrawn w1 dd) os) := fun dd os => SM.look (HPX.out.s1.below (below_regrown w1 dd os)) HGN.out hF
    clear hF hk7
    go_wp2_with fail
    refine wp_region_quiet_below (by kernel_rfl) (by kernel_rfl) ?_
    repeat (quiet_step (fail))
    refine wpQuiet_nil ?_
    intro _ hw
    obtain ⟨⟨dq, osq⟩, hw''⟩ := hw
    subst hw''
    have H2 := Lib.hid (below_then HX1.out (below_regrown w1 dq osq))
    clear kq2 kc1 kl c0 c1 c2 c3 c4
    go_wp2_with fail
    go_returns
    exact ⟨by rw [HZ.out]; rfl, H2.out⟩
  · have hB : (F d.n).isSome = false ∨ ((F d.n).isSome = true ∧ (d.kind == 7) = false) := by
      cases hF : (F d.n).isSome with
      | false => exact .inl rfl
      | true => exact .inr ⟨rfl, by simpa using fun e => hA ⟨hF, e⟩⟩
    clear hA
    rcases hB with h6 | ⟨h6, h7⟩
    all_goals
      rw [h6]
      clear h6
      have HRO := Lib.hid (prow_no p d b o wc ⟨c0, c1, c2, c3, c4⟩ HK.out)
      go_wp2_with fail
      refine HRO.out.mono ?_
      rintro e w2 ⟨rfl, hb2⟩
      have hb3 : Below w2.heap.size w2 (w2.alloc (.cells Lf.zero.arr 25)) := (Below.refl _ _).alloc (Nat.le_refl _) _
      have H3 := Lib.hid (below_then (below_then HX1.out hb2) hb3)
      clear c0 c1 c2 c3 c4 hb2 hb3 HRO
      obtain ⟨c0, c1, c2, c3, c4⟩ := HE.out _ (below_then HB.out H3.out)
      go_wp2_with fail
      generalize (w2.alloc (.cells Lf.zero.arr 25)) = w3 at *
      clear c0 c1 c2 c3 c4
      go_loopw [7, 61] (fun v i wr => ∃ k : Nat, v = .int .i64 ((1 + nodesL (l.take k) : Nat) : Int) ∧ i = .int .i64 k ∧ k ≤ d.pn ∧ Below W.heap.size W wr) (fun _ i _ => d.pn - (intOf i).toNat)
      case atStart => exact ⟨0, by rw [List.take_zero]; rfl, rfl, Nat.zero_le _, H3.out⟩
      case round =>
        obtain ⟨k, rfl, rfl, hk, hbr⟩ := hrel
        have HR := Lib.hid hbr
        have hn9 := nodesL_take l k
        by_cases hlt : k < d.pn
        · have hkl : k < l.length := by rw [HL.out]; exact hlt
          obtain ⟨pb, po, hpA, hAtP⟩ := HI.out.part (k := k) hkl
          have hpA' : d.pA = some ⟨pb, po, none⟩ := hpA
          have c2 := (HE.out _ (below_then HB.out hbr)).c2
          rw [hpA'] at c2
          have HM := Lib.hid (HX.out l[k] (List.getElem_mem hkl) (by have := nodesL_take l (k + 1); rw [List.take_succ_eq_append_getElem hkl, nodesL_snoc] at this; have := HN.out; omega) pb (po + k * 5) wr (hAtP k hkl) (below_then HB.out hbr))
          have HS := Lib.hid (show nodesL (l.take (k + 1)) = nodesL (l.take k) + (l[k]).nodes by rw [List.take_succ_eq_append_getElem hkl, nodesL_snoc])
          have HS9 := Lib.hid (nodesL_take l (k + 1))
          obtain ⟨m, hm⟩ : ∃ m, (l[k]).nodes = m := ⟨_, rfl⟩
          rw [hm] at HM HS
          obtain ⟨a, ha⟩ : ∃ a, nodesL (l.take k) = a := ⟨_, rfl⟩
          rw [ha] at HS hn9
          rw [ha]
          have hki : (k : Int) < (d.pn : Int) := by omega
          have hk0 : (0 : Int) ≤ (k : Int) := by omega
          have hk4 : (k : Int) ≤ 4000000 := by have := HCP.out.2.2.2.2.2; omega
          have ha4 : ((1 + a : Nat) : Int) + (m : Int) ≤ 4000000 := by have h1 := HS.out; have h2 := HS9.out; have h3 := HN.out; omega
          clear hpA hpA' hAtP hkl hm ha hbr hn9
          go_wp2_with fail
          refine HM.out.mono ?_
          rintro e w4 ⟨rfl, hb4⟩
          have H4 := Lib.hid (below_then HR.out hb4)
          clear hb4 HM
          go_wp2_with fail
          go_roundw
          case rel => exact ⟨k + 1, by rw [HS.out]; go_num, by go_num, hlt, H4.out⟩
          case measure => simp [intOf] <;> omega
        · have hki : ¬ (k : Int) < (d.pn : Int) := by omega
          have hmm : l.take k = l := List.take_of_length_le (by rw [HL.out]; omega)
          rw [hmm]
          go_wp2_with fail
          go_returns
          exact ⟨rfl, HR.out⟩
end Go.Proofs.YtklandpagieapaaDoor
