/-
  core's machine goes on: the next part; what stands behind a CLet's, a CIf's first part. (Made by gen_mbg.py.)
-/
import Derived.Test.YtpdfjdomjklkbaaGreatDoorK09
namespace Go.Proofs.YtpdfjdomjklkbaaGreatDoor
open Go.ChangeShapes Go.WideShapes Go.ChangeAt Go.RowKit Go.Sort
set_option linter.unusedVariables false
set_option linter.unusedSimpArgs false

theorem Ended.cell {w0 w w' : World} {B mb : Nat} {s : St} {t i r nx nm : Value} {rcs vcs fcs : List (List Value)} {A0 : Option Addr} {k0 q1 k1 : Nat} {fs : List Frm} {x : Frm} (hE : Ended w0 w B mb s t i r A0 k0 q1 k1 nx nm rcs vcs fcs fs x w') {b o : Nat} {u : Value} (hb : b ≠ mb) (h : w.cell? ⟨b, o, none⟩ = some u) : w'.cell? ⟨b, o, none⟩ = some u := by
  rw [World.cell?_of_block (hE.kept b hb)]; exact h
/-- A part of an expression, where it lies. -/
theorem ex_part {w0 : World} {e y : Ex} {eb eo : Nat} (he : e.In w0 ∧ e.d.At w0 eb eo) {k : Nat} (hk : e.l[k]? = some y) : ∃ pb po, e.d.pA = some ⟨pb, po, none⟩ ∧ (y.In w0 ∧ y.d.At w0 pb (po + k * 6)) := by
  obtain ⟨hkl, hy⟩ := List.getElem?_eq_some_iff.1 hk
  obtain ⟨pb, po, h1, h2⟩ := he.1.part hkl
  exact ⟨pb, po, h1, he.1.sub y (hy ▸ List.getElem_mem hkl), hy ▸ h2 k hkl⟩
section
variable {w0 w : World} {B mb : Nat} {s : St} {t i r v f nx nm : Value} {rcs vcs fcs : List (List Value)}
set_option maxRecDepth 100000 in
set_option maxHeartbeats 8000000 in
theorem goNextA (h : Rep w0 B mb s w t i r v f nx nm rcs vcs fcs) (hW : Below w0.heap.size w0 w) (x : Frm) (eb eo : Nat) (u : Option Addr) (he : EN w0 w (Mv mb t r v f) x.e x.env eb eo (.pointer u)) (l : List Val) (A : Option Addr) (c : Nat) (y : Ex) (hy : x.e.l[l.length]? = some y) (q1 : ¬ (x.e.d.kind = 6 ∨ x.e.d.kind = 14 ∨ x.e.d.kind = 15)) :
    Calls Tryz.prog 28 #[.agg #[.pointer (some ⟨mb, 0, none⟩)], .agg #[.pointer (some ⟨eb, eo, none⟩), .pointer u, .int .i64 x.base], .slice A l.length c] w fun e1 w' => e1 = .returned (.tuple #[]) ∧ Post w0 B mb (Mv mb t r v f) w { s with next := some (y, x.env) } w' := by
  have hyl : l.length < x.e.d.pn := by have := (List.getElem?_eq_some_iff.1 hy).1; rw [he.1.1.len] at this; exact this
  have hpn : x.e.d.pn ≤ 4000000 := he.1.1.cap.2.1.2.2
  obtain ⟨pb, po, hpA, hyI⟩ := ex_part he.1 hy
  obtain ⟨hq1, hq2, hb⟩ := two_boxes w (boxM mb) (boxF eb eo u x.base)
  obtain ⟨f0, f1, f2⟩ := cells3 hq2
  have c0 : ((w.alloc (boxM mb)).alloc (boxF eb eo u x.base)).cell? ⟨w.heap.size, 0, none⟩ = some (.pointer (some ⟨mb, 0, none⟩)) := (by rw [Lib.cell_of_heap hq1]; rfl)
  have hdd := (he.1.2.lower hW).lower hb
  have kd := hdd.c0
  have k5 := hdd.c5
  rw [hpA] at k5
  have HC := Lib.hid (fun (wr : World) (hb' : Below ((w.alloc (boxM mb)).alloc (boxF eb eo u x.base)).heap.size ((w.alloc (boxM mb)).alloc (boxF eb eo u x.base)) wr) => (show Calls Tryz.prog 38 #[.pointer (some ⟨mb, 0, none⟩), .pointer (some ⟨pb, po + l.length * 6, none⟩), .pointer u] wr fun e1 w' => e1 = .returned (.tuple #[]) ∧ Post w0 B mb (Mv mb t r v f) w { s with next := some (y, x.env) } w' from
    (begin_any ((h.below hb).below hb') y x.env pb _ u ⟨hyI, he.2.keep (Tr.below (below_then hb hb'))⟩).mono fun e1 w' ⟨h1, h2⟩ => ⟨h1, h2.mono (Tr.below (below_then hb hb')) ((below_then hb hb').mono (Nat.le_of_lt (Nat.lt_of_le_of_lt h.base.2 h.lt)))⟩))
  obtain ⟨K, hK⟩ : ∃ K, x.e.d.kind = K := ⟨_, rfl⟩
  rw [hK] at kd q1
  have e14 : (K == 14) = false := by simp; omega
  have e6 : (K == 6) = false := by simp; omega
  have e15 : (K == 15) = false := by simp; omega
  obtain ⟨G, hG⟩ : ∃ G, l.length = G := ⟨_, rfl⟩
  rw [hG] at hyl HC ⊢
  have n0 : (0 : Int) ≤ (G : Int) := by omega
  have n1 : (G : Int) < (x.e.d.pn : Int) := by omega
  have n2 : (x.e.d.pn : Int) ≤ 4000000 := by omega
  clear h hW he hy q1 hK hG hyl hpn hyI hq1 hq2 hb hdd hpA
  go_enter Tryz.func28, Tryz.ntmps28
  go_upto_region 13 with fail
  go_region_law (go_simp; go_at_call 38; (with_reducible refine (HC.out _ (below_drew1 _)).mono ?_); rintro e1 w2 ⟨rfl, hp⟩; have HP := Lib.hid hp; clear hp)
  all_goals
    go_wp2_with fail
    go_returns
    with_reducible exact ⟨rfl, HP.out⟩
set_option maxRecDepth 100000 in
set_option maxHeartbeats 8000000 in
theorem goNext6 (h : Rep w0 B mb s w t i r v f nx nm rcs vcs fcs) (hW : Below w0.heap.size w0 w) (x : Frm) (eb eo : Nat) (u : Option Addr) (he : EN w0 w (Mv mb t r v f) x.e x.env eb eo (.pointer u)) (A : Option Addr) (c : Nat) (y : Ex) (hy : x.e.l[0]? = some y) (hkd : x.e.d.kind = 6) :
    Calls Tryz.prog 28 #[.agg #[.pointer (some ⟨mb, 0, none⟩)], .agg #[.pointer (some ⟨eb, eo, none⟩), .pointer u, .int .i64 x.base], .slice A 0 c] w fun e1 w' => e1 = .returned (.tuple #[]) ∧ Post w0 B mb (Mv mb t r v f) w { s with next := some (y, x.env) } w' := by
  have hyl : 0 < x.e.d.pn := by have := (List.getElem?_eq_some_iff.1 hy).1; rw [he.1.1.len] at this; exact this
  have hpn : x.e.d.pn ≤ 4000000 := he.1.1.cap.2.1.2.2
  obtain ⟨pb, po, hpA, hyI⟩ := ex_part he.1 hy
  obtain ⟨hq1, hq2, hb⟩ := two_boxes w (boxM mb) (boxF eb eo u x.base)
  obtain ⟨f0, f1, f2⟩ := cells3 hq2
  have c0 : ((w.alloc (boxM mb)).alloc (boxF eb eo u x.base)).cell? ⟨w.heap.size, 0, none⟩ = some (.pointer (some ⟨mb, 0, none⟩)) := (by rw [Lib.cell_of_heap hq1]; rfl)
  have hdd := (he.1.2.lower hW).lower hb
  have kd := hdd.c0
  have k5 := hdd.c5
  rw [hpA] at k5
  have HC := Lib.hid (fun (wr : World) (hb' : Below ((w.alloc (boxM mb)).alloc (boxF eb eo u x.base)).heap.size ((w.alloc (boxM mb)).alloc (boxF eb eo u x.base)) wr) => (show Calls Tryz.prog 38 #[.pointer (some ⟨mb, 0, none⟩), .pointer (some ⟨pb, po, none⟩), .pointer u] wr fun e1 w' => e1 = .returned (.tuple #[]) ∧ Post w0 B mb (Mv mb t r v f) w { s with next := some (y, x.env) } w' from
    (begin_any ((h.below hb).below hb') y x.env pb _ u ⟨by simpa using hyI, he.2.keep (Tr.below (below_then hb hb'))⟩).mono fun e1 w' ⟨h1, h2⟩ => ⟨h1, h2.mono (Tr.below (below_then hb hb')) ((below_then hb hb').mono (Nat.le_of_lt (Nat.lt_of_le_of_lt h.base.2 h.lt)))⟩))
  rw [hkd] at kd
  have n1 : (0 : Int) < (x.e.d.pn : Int) := by omega
  have n2 : (x.e.d.pn : Int) ≤ 4000000 := by omega
  clear h hW he hy hkd hyl hpn hyI hq1 hq2 hb hdd hpA
  go_enter Tryz.func28, Tryz.ntmps28
  go_upto_region 13 with fail
  go_region_law (go_simp; go_at_call 38; (with_reducible refine (HC.out _ (below_drew1 _)).mono ?_); rintro e1 w2 ⟨rfl, hp⟩; have HP := Lib.hid hp; clear hp)
  all_goals
    go_wp2_with fail
    go_returns
    with_reducible exact ⟨rfl, HP.out⟩
set_option maxRecDepth 100000 in
set_option maxHeartbeats 8000000 in
theorem goNext14 (h : Rep w0 B mb s w t i r v f nx nm rcs vcs fcs) (hW : Below w0.heap.size w0 w) (x : Frm) (eb eo : Nat) (u : Option Addr) (he : EN w0 w (Mv mb t r v f) x.e x.env eb eo (.pointer u)) (A : Option Addr) (c : Nat) (y : Ex) (hy : x.e.l[0]? = some y) (hkd : x.e.d.kind = 14) :
    Calls Tryz.prog 28 #[.agg #[.pointer (some ⟨mb, 0, none⟩)], .agg #[.pointer (some ⟨eb, eo, none⟩), .pointer u, .int .i64 x.base], .slice A 0 c] w fun e1 w' => e1 = .returned (.tuple #[]) ∧ Post w0 B mb (Mv mb t r v f) w { s with next := some (y, x.env) } w' := by
  have hyl : 0 < x.e.d.pn := by have := (List.getElem?_eq_some_iff.1 hy).1; rw [he.1.1.len] at this; exact this
  have hpn : x.e.d.pn ≤ 4000000 := he.1.1.cap.2.1.2.2
  obtain ⟨pb, po, hpA, hyI⟩ := ex_part he.1 hy
  obtain ⟨hq1, hq2, hb⟩ := two_boxes w (boxM mb) (boxF eb eo u x.base)
  obtain ⟨f0, f1, f2⟩ := cells3 hq2
  have c0 : ((w.alloc (boxM mb)).alloc (boxF eb eo u x.base)).cell? ⟨w.heap.size, 0, none⟩ = some (.pointer (some ⟨mb, 0, none⟩)) := (by rw [Lib.cell_of_heap hq1]; rfl)
  have hdd := (he.1.2.lower hW).lower hb
  have kd := hdd.c0
  have k5 := hdd.c5
  rw [hpA] at k5
  have HC := Lib.hid (fun (wr : World) (hb' : Below ((w.alloc (boxM mb)).alloc (boxF eb eo u x.base)).heap.size ((w.alloc (boxM mb)).alloc (boxF eb eo u x.base)) wr) => (show Calls Tryz.prog 38 #[.pointer (some ⟨mb, 0, none⟩), .pointer (some ⟨pb, po, none⟩), .pointer u] wr fun e1 w' => e1 = .returned (.tuple #[]) ∧ Post w0 B mb (Mv mb t r v f) w { s with next := some (y, x.env) } w' from
    (begin_any ((h.below hb).below hb') y x.env pb _ u ⟨by simpa using hyI, he.2.keep (Tr.below (below_then hb hb'))⟩).mono fun e1 w' ⟨h1, h2⟩ => ⟨h1, h2.mono (Tr.below (below_then hb hb')) ((below_then hb hb').mono (Nat.le_of_lt (Nat.lt_of_le_of_lt h.base.2 h.lt)))⟩))
  rw [hkd] at kd
  have n1 : (0 : Int) < (x.e.d.pn : Int) := by omega
  have n2 : (x.e.d.pn : Int) ≤ 4000000 := by omega
  clear h hW he hy hkd hyl hpn hyI hq1 hq2 hb hdd hpA
  go_enter Tryz.func28, Tryz.ntmps28
  go_upto_region 13 with fail
  go_region_law (go_simp; go_at_call 38; (with_reducible refine (HC.out _ (below_drew1 _)).mono ?_); rintro e1 w2 ⟨rfl, hp⟩; have HP := Lib.hid hp; clear hp)
  all_goals
    go_wp2_with fail
    go_returns
    with_reducible exact ⟨rfl, HP.out⟩
set_option maxRecDepth 100000 in
set_option maxHeartbeats 8000000 in
theorem goNext15 (h : Rep w0 B mb s w t i r v f nx nm rcs vcs fcs) (hW : Below w0.heap.size w0 w) (x : Frm) (eb eo : Nat) (u : Option Addr) (he : EN w0 w (Mv mb t r v f) x.e x.env eb eo (.pointer u)) (A : Option Addr) (c : Nat) (y : Ex) (hy : x.e.l[0]? = some y) (hkd : x.e.d.kind = 15) :
    Calls Tryz.prog 28 #[.agg #[.pointer (some ⟨mb, 0, none⟩)], .agg #[.pointer (some ⟨eb, eo, none⟩), .pointer u, .int .i64 x.base], .slice A 0 c] w fun e1 w' => e1 = .returned (.tuple #[]) ∧ Post w0 B mb (Mv mb t r v f) w { s with next := some (y, x.env) } w' := by
  have hyl : 0 < x.e.d.pn := by have := (List.getElem?_eq_some_iff.1 hy).1; rw [he.1.1.len] at this; exact this
  have hpn : x.e.d.pn ≤ 4000000 := he.1.1.cap.2.1.2.2
  obtain ⟨pb, po, hpA, hyI⟩ := ex_part he.1 hy
  obtain ⟨hq1, hq2, hb⟩ := two_boxes w (boxM mb) (boxF eb eo u x.base)
  obtain ⟨f0, f1, f2⟩ := cells3 hq2
  have c0 : ((w.alloc (boxM mb)).alloc (boxF eb eo u x.base)).cell? ⟨w.heap.size, 0, none⟩ = some (.pointer (some ⟨mb, 0, none⟩)) := (by rw [Lib.cell_of_heap hq1]; rfl)
  have hdd := (he.1.2.lower hW).lower hb
  have kd := hdd.c0
  have k5 := hdd.c5
  rw [hpA] at k5
  have HC := Lib.hid (fun (wr : World) (hb' : Below ((w.alloc (boxM mb)).alloc (boxF eb eo u x.base)).heap.size ((w.alloc (boxM mb)).alloc (boxF eb eo u x.base)) wr) => (show Calls Tryz.prog 38 #[.pointer (some ⟨mb, 0, none⟩), .pointer (some ⟨pb, po, none⟩), .pointer u] wr fun e1 w' => e1 = .returned (.tuple #[]) ∧ Post w0 B mb (Mv mb t r v f) w { s with next := some (y, x.env) } w' from
    (begin_any ((h.below hb).below hb') y x.env pb _ u ⟨by simpa using hyI, he.2.keep (Tr.below (below_then hb hb'))⟩).mono fun e1 w' ⟨h1, h2⟩ => ⟨h1, h2.mono (Tr.below (below_then hb hb')) ((below_then hb hb').mono (Nat.le_of_lt (Nat.lt_of_le_of_lt h.base.2 h.lt)))⟩))
  rw [hkd] at kd
  have n1 : (0 : Int) < (x.e.d.pn : Int) := by omega
  have n2 : (x.e.d.pn : Int) ≤ 4000000 := by omega
  clear h hW he hy hkd hyl hpn hyI hq1 hq2 hb hdd hpA
  go_enter Tryz.func28, Tryz.ntmps28
  go_upto_region 13 with fail
  go_region_law (go_simp; go_at_call 38; (with_reducible refine (HC.out _ (below_drew1 _)).mono ?_); rintro e1 w2 ⟨rfl, hp⟩; have HP := Lib.hid hp; clear hp)
  all_goals
    go_wp2_with fail
    go_returns
    with_reducible exact ⟨rfl, HP.out⟩
set_option maxRecDepth 100000 in
set_option maxHeartbeats 8000000 in
theorem goLet_any (h : Rep w0 B mb s w t i r v f nx nm rcs vcs fcs) (hW : Below w0.heap.size w0 w) (hv : s.vals.length ≤ 100000000000) (hf : s.frames.length ≤ 100000000000) (fs : List Frm) (x : Frm) (hx : s.frames = fs ++ [x]) (hbs : x.base ≤ s.vals.length) (eb eo : Nat) (u : Option Addr) (he : EN w0 w (Mv mb t r v f) x.e x.env eb eo (.pointer u)) (z : Val) (css : List (List Value)) (ab ao c : Nat) (hl : Vs w0 w (Mv mb t r v f) [z] (some ⟨ab, ao, none⟩) css) (hA : ab ≠ mb) (y1 : Ex) (hy1 : x.e.l[1]? = some y1) (hkd : x.e.d.kind = 6) :
    Calls Tryz.prog 28 #[.agg #[.pointer (some ⟨mb, 0, none⟩)], .agg #[.pointer (some ⟨eb, eo, none⟩), .pointer u, .int .i64 x.base], .slice (some ⟨ab, ao, none⟩) 1 c] w fun e1 w' => e1 = .returned (.tuple #[]) ∧ Post w0 B mb (Mv mb t r v f) w ({ s.ended fs x with next := some (y1, (x.e.d.s, z) :: x.env) }) w' := by
  obtain ⟨A0, k0, rfl, _⟩ := own_cap h.vr
  have hpn : x.e.d.pn ≤ 4000000 := he.1.1.cap.2.1.2.2
  have hyl : 1 < x.e.d.pn := by have := (List.getElem?_eq_some_iff.1 hy1).1; rw [he.1.1.len] at this; exact this
  obtain ⟨pb, po, hpA, hyI1⟩ := ex_part he.1 hy1
  obtain ⟨hq1, hq2, hb⟩ := two_boxes w (boxM mb) (boxF eb eo u x.base)
  obtain ⟨f0, f1, f2⟩ := cells3 hq2
  have c0 : ((w.alloc (boxM mb)).alloc (boxF eb eo u x.base)).cell? ⟨w.heap.size, 0, none⟩ = some (.pointer (some ⟨mb, 0, none⟩)) := (by rw [Lib.cell_of_heap hq1]; rfl)
  have hdd := (he.1.2.lower hW).lower hb
  obtain ⟨Az, kz, pz, hz, g0, g1, g2, g3, g4, g5⟩ := (hl.below hb).six 0 (z := z) rfl ao (ao + 1) (ao + 2) (ao + 3) (ao + 4) (ao + 5) ⟨by omega, by omega, by omega, by omega, by omega, by omega⟩
  have kd := hdd.c0
  rw [hkd] at kd
  have k2 := hdd.c2
  have k5 := hdd.c5
  rw [hpA] at k5
  have heb : eb ≠ mb := by have := he.1.2.blt; have := h.base; omega
  have HE := Lib.hid (end_any (h.below hb) fs x hx hf hbs hv)
  have HC := Lib.hid (fun (q1' k1' : Nat) (wr : World) (hE : Ended w0 ((w.alloc (boxM mb)).alloc (boxF eb eo u x.base)) B mb s t i r A0 k0 q1' k1' nx nm rcs vcs fcs fs x wr) => And.intro (hE.cell (Nat.ne_of_gt h.lt) c0) (And.intro (hE.cell (Nat.ne_of_gt (Nat.lt_succ_of_lt h.lt)) f1) (And.intro (hE.cell heb k2) (And.intro (hE.cell heb k5) (And.intro (hE.cell hA g0) (And.intro (hE.cell hA g1) (And.intro (hE.cell hA g2) (And.intro (hE.cell hA g3) (And.intro (hE.cell hA g4) (hE.cell hA g5))))))))))
  have HAP := Lib.hid (fun (q1' k1' : Nat) (hff : f = .slice (some ⟨q1', 0, none⟩) (fs.length + 1) k1') (wr : World) (hE : Ended w0 ((w.alloc (boxM mb)).alloc (boxF eb eo u x.base)) B mb s t i r A0 k0 q1' k1' nx nm rcs vcs fcs fs x wr) => (show Calls Tryz.prog 44 #[.pointer (some ⟨mb, 0, none⟩), .pointer (some ⟨pb, po + 6, none⟩), .pointer u, .string (bstr x.e.d.s), .agg #[.int .i64 z.sort, .int .i64 z.n, .string (bstr z.s), .slice none 0 0, .slice Az z.l.length kz, .pointer pz]] wr.drew fun e1 w' => e1 = .returned (.tuple #[]) ∧ Post w0 B mb (Mv mb t r (.slice A0 s.vals.length k0) f) w ({ s.ended fs x with next := some (y1, (x.e.d.s, z) :: x.env) }) w' from by
    subst hff
    have hT1 : Tr w (Mv mb t r (.slice A0 s.vals.length k0) (.slice (some ⟨q1', 0, none⟩) (fs.length + 1) k1')) wr (Mv mb t r (.slice A0 x.base k0) (.slice (some ⟨q1', 0, none⟩) fs.length k1')) := (Tr.below (P := Mv mb t r (.slice A0 s.vals.length k0) (.slice (some ⟨q1', 0, none⟩) (fs.length + 1) k1')) hb).trans hb.size hE.tr
    have hB1 : Below B w wr := (hb.mono (Nat.le_of_lt (Nat.lt_of_le_of_lt h.base.2 h.lt))).trans hE.below
    have hdw := below_drew1 wr
    have heE : ER w0 wr.drew (Mv mb t r (.slice A0 x.base k0) (.slice (some ⟨q1', 0, none⟩) fs.length k1')) x.env (.pointer u) := (he.2.keep hT1).keep (Tr.below hdw)
    have hzE := (hz.keep hE.tr).keep (Tr.below (P := Mv mb t r (.slice A0 x.base k0) (.slice (some ⟨q1', 0, none⟩) fs.length k1')) hdw)
    refine (bind_any (s := s.ended fs x) (hE.rep.below hdw) y1 x.env pb (po + 6) u ⟨hyI1, heE⟩ x.e.d.s z _ _ _ _ _ _ hzE).mono ?_
    rintro e1 w' ⟨rfl, hp⟩
    exact ⟨rfl, Post.mono hT1 hB1 (hp.mono (Tr.below hdw) (hdw.mono (by have := hE.rep.lt; have := hE.rep.base.2; omega)))⟩))
  have n1 : (1 : Int) < (x.e.d.pn : Int) := by omega
  have n2 : (1 : Int) < (x.e.d.pn : Int) := by omega
  have n3 : (x.e.d.pn : Int) ≤ 4000000 := by omega
  clear h hW hv hf hx hbs he hl hA hy1 hyI1 hkd hpn hyl hq1 hq2 hb hdd hz g0 g1 g2 g3 g4 g5 hpA heb k2 k5
  go_enter Tryz.func28, Tryz.ntmps28
  go_upto_region 8 with (go_at_call 49; (with_reducible refine HE.out.mono ?_); rintro e1 w1 ⟨rfl, q1', k1', hff, hE⟩; obtain ⟨c0', f1', k2', k5', g0, g1, g2, g3, g4, g5⟩ := HC.out _ _ _ hE; have HA2 := Lib.hid (HAP.out _ _ hff _ hE); clear hE hff)
  clear c0 f0 f1 f2 kd
  go_still_tail 16, (by kernel_rfl)
  change wpList _ _ _ _ _ _
  go_wp2_with (go_at_call 44; (with_reducible refine HA2.out.mono ?_); rintro e1 w2 ⟨rfl, hp⟩; have HP := Lib.hid hp; clear hp)
  all_goals
    go_wp2_with fail
    go_returns
    with_reducible exact ⟨rfl, HP.out⟩
set_option maxRecDepth 100000 in
set_option maxHeartbeats 8000000 in
theorem goIf_any (h : Rep w0 B mb s w t i r v f nx nm rcs vcs fcs) (hW : Below w0.heap.size w0 w) (hv : s.vals.length ≤ 100000000000) (hf : s.frames.length ≤ 100000000000) (fs : List Frm) (x : Frm) (hx : s.frames = fs ++ [x]) (hbs : x.base ≤ s.vals.length) (eb eo : Nat) (u : Option Addr) (he : EN w0 w (Mv mb t r v f) x.e x.env eb eo (.pointer u)) (z : Val) (css : List (List Value)) (ab ao c : Nat) (hl : Vs w0 w (Mv mb t r v f) [z] (some ⟨ab, ao, none⟩) css) (hA : ab ≠ mb) (y1 : Ex) (hy1 : x.e.l[1]? = some y1) (y2 : Ex) (hy2 : x.e.l[2]? = some y2) (hkd : x.e.d.kind = 15) :
    Calls Tryz.prog 28 #[.agg #[.pointer (some ⟨mb, 0, none⟩)], .agg #[.pointer (some ⟨eb, eo, none⟩), .pointer u, .int .i64 x.base], .slice (some ⟨ab, ao, none⟩) 1 c] w fun e1 w' => e1 = .returned (.tuple #[]) ∧ Post w0 B mb (Mv mb t r v f) w ((s.ended fs x).ifd z y1 y2 x.env) w' := by
  obtain ⟨A0, k0, rfl, _⟩ := own_cap h.vr
  have hpn : x.e.d.pn ≤ 4000000 := he.1.1.cap.2.1.2.2
  have hyl : 2 < x.e.d.pn := by have := (List.getElem?_eq_some_iff.1 hy2).1; rw [he.1.1.len] at this; exact this
  obtain ⟨pb, po, hpA, hyI1⟩ := ex_part he.1 hy1
  have hyI2 : y2.In w0 ∧ y2.d.At w0 pb (po + 2 * 6) := by
    obtain ⟨pb', po', h1, h2⟩ := ex_part he.1 hy2
    rw [hpA] at h1
    cases h1
    exact h2
  obtain ⟨hq1, hq2, hb⟩ := two_boxes w (boxM mb) (boxF eb eo u x.base)
  obtain ⟨f0, f1, f2⟩ := cells3 hq2
  have c0 : ((w.alloc (boxM mb)).alloc (boxF eb eo u x.base)).cell? ⟨w.heap.size, 0, none⟩ = some (.pointer (some ⟨mb, 0, none⟩)) := (by rw [Lib.cell_of_heap hq1]; rfl)
  have hdd := (he.1.2.lower hW).lower hb
  obtain ⟨Az, kz, pz, hz, g0, g1, g2, g3, g4, g5⟩ := (hl.below hb).six 0 (z := z) rfl ao (ao + 1) (ao + 2) (ao + 3) (ao + 4) (ao + 5) ⟨by omega, by omega, by omega, by omega, by omega, by omega⟩
  have kd := hdd.c0
  rw [hkd] at kd
  have k2 := hdd.c2
  have k5 := hdd.c5
  rw [hpA] at k5
  have heb : eb ≠ mb := by have := he.1.2.blt; have := h.base; omega
  have HE := Lib.hid (end_any (h.below hb) fs x hx hf hbs hv)
  have HC := Lib.hid (fun (q1' k1' : Nat) (wr : World) (hE : Ended w0 ((w.alloc (boxM mb)).alloc (boxF eb eo u x.base)) B mb s t i r A0 k0 q1' k1' nx nm rcs vcs fcs fs x wr) => And.intro (hE.cell (Nat.ne_of_gt h.lt) c0) (And.intro (hE.cell (Nat.ne_of_gt (Nat.lt_succ_of_lt h.lt)) f1) (And.intro (hE.cell heb k2) (And.intro (hE.cell heb k5) (And.intro (hE.cell hA g0) (And.intro (hE.cell hA g1) (And.intro (hE.cell hA g2) (And.intro (hE.cell hA g3) (And.intro (hE.cell hA g4) (hE.cell hA g5))))))))))
  have HAP := Lib.hid (fun (q1' k1' : Nat) (hff : f = .slice (some ⟨q1', 0, none⟩) (fs.length + 1) k1') (wr : World) (hE : Ended w0 ((w.alloc (boxM mb)).alloc (boxF eb eo u x.base)) B mb s t i r A0 k0 q1' k1' nx nm rcs vcs fcs fs x wr) => (show Calls Tryz.prog 50 #[.pointer (some ⟨mb, 0, none⟩), .agg #[.int .i64 z.sort, .int .i64 z.n, .string (bstr z.s), .slice none 0 0, .slice Az z.l.length kz, .pointer pz], .pointer (some ⟨pb, po + 6, none⟩), .pointer (some ⟨pb, po + 12, none⟩), .pointer u] wr.drew fun e1 w' => e1 = .returned (.tuple #[]) ∧ Post w0 B mb (Mv mb t r (.slice A0 s.vals.length k0) f) w ((s.ended fs x).ifd z y1 y2 x.env) w' from by
    subst hff
    have hT1 : Tr w (Mv mb t r (.slice A0 s.vals.length k0) (.slice (some ⟨q1', 0, none⟩) (fs.length + 1) k1')) wr (Mv mb t r (.slice A0 x.base k0) (.slice (some ⟨q1', 0, none⟩) fs.length k1')) := (Tr.below (P := Mv mb t r (.slice A0 s.vals.length k0) (.slice (some ⟨q1', 0, none⟩) (fs.length + 1) k1')) hb).trans hb.size hE.tr
    have hB1 : Below B w wr := (hb.mono (Nat.le_of_lt (Nat.lt_of_le_of_lt h.base.2 h.lt))).trans hE.below
    have hdw := below_drew1 wr
    have heE : ER w0 wr.drew (Mv mb t r (.slice A0 x.base k0) (.slice (some ⟨q1', 0, none⟩) fs.length k1')) x.env (.pointer u) := (he.2.keep hT1).keep (Tr.below hdw)
    have hzE := (hz.keep hE.tr).keep (Tr.below (P := Mv mb t r (.slice A0 x.base k0) (.slice (some ⟨q1', 0, none⟩) fs.length k1')) hdw)
    refine (if_any (s := s.ended fs x) (hE.rep.below hdw) y1 y2 x.env pb (po + 6) pb (po + 12) u ⟨hyI1, heE⟩ ⟨hyI2, heE⟩ z Az kz pz).mono ?_
    rintro e1 w' ⟨rfl, hp⟩
    exact ⟨rfl, Post.mono hT1 hB1 (hp.mono (Tr.below hdw) (hdw.mono (by have := hE.rep.lt; have := hE.rep.base.2; omega)))⟩))
  have n1 : (2 : Int) < (x.e.d.pn : Int) := by omega
  have n2 : (1 : Int) < (x.e.d.pn : Int) := by omega
  have n3 : (x.e.d.pn : Int) ≤ 4000000 := by omega
  clear h hW hv hf hx hbs he hl hA hy1 hyI1 hy2 hyI2 hkd hpn hyl hq1 hq2 hb hdd hz g0 g1 g2 g3 g4 g5 hpA heb k2 k5
  go_enter Tryz.func28, Tryz.ntmps28
  go_upto_region 11 with (go_at_call 49; (with_reducible refine HE.out.mono ?_); rintro e1 w1 ⟨rfl, q1', k1', hff, hE⟩; obtain ⟨c0', f1', k2', k5', g0, g1, g2, g3, g4, g5⟩ := HC.out _ _ _ hE; have HA2 := Lib.hid (HAP.out _ _ hff _ hE); clear hE hff)
  clear c0 f0 f1 f2 kd
  go_still_tail 17, (by kernel_rfl)
  change wpList _ _ _ _ _ _
  go_wp2_with (go_at_call 50; (with_reducible refine HA2.out.mono ?_); rintro e1 w2 ⟨rfl, hp⟩; have HP := Lib.hid hp; clear hp)
  all_goals
    go_wp2_with fail
    go_returns
    with_reducible exact ⟨rfl, HP.out⟩
end
end Go.Proofs.YtpdfjdomjklkbaaGreatDoor
