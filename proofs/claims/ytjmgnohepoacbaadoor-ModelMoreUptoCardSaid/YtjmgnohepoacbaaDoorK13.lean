/-
  The machine goes on: the next part; what stands behind a Let's, an If's, a Match's first part.
  The machine goes on: a Match; all ways.
  What a value's text is written into: a row of bytes, at most 2000.
  A text is written as a value; a part, in brackets.
  A part of a value is written, in brackets if it needs them. (Made by gen_mdi.py.)
  A record's labels and values are written.
  The machine, about no memory: its step; what holds of it.
  The machine, about no memory: what a step keeps.
-/
import Derived.Test.YtjmgnohepoacbaaDoorK12
import Derived.Lib.AppendStr
namespace Go.Proofs.YtjmgnohepoacbaaDoor
open Go Go.ChangeShapes Go.WideShapes Go.ChangeAt Go.RowKit Go.Sort
set_option linter.unusedVariables false
set_option linter.unusedSimpArgs false

theorem Ended.cell {w0 w w' : World} {B mb : Nat} {s : St} {t i r nx nm : Value} {rcs vcs fcs : List (List Value)} {A0 : Option Addr} {k0 q1 k1 : Nat} {fs : List Frm} {x : Frm} (hE : Ended w0 w B mb s t i r A0 k0 q1 k1 nx nm rcs vcs fcs fs x w') {b o : Nat} {u : Value} (hb : b ≠ mb) (h : w.cell? ⟨b, o, none⟩ = some u) : w'.cell? ⟨b, o, none⟩ = some u := by
  rw [World.cell?_of_block (hE.kept b hb)]; exact h
section
variable {w0 w : World} {B mb : Nat} {s : St} {t i r v f nx nm : Value} {rcs vcs fcs : List (List Value)}
set_option maxRecDepth 100000 in
set_option maxHeartbeats 8000000 in
theorem goNext_any (h : Rep w0 B mb s w t i r v f nx nm rcs vcs fcs) (hW : Below w0.heap.size w0 w) (x : Frm) (eb eo : Nat) (u : Option Addr) (he : EN w0 w (Mv mb t r v f) x.e x.env eb eo (.pointer u)) (l : List Val) (A : Option Addr) (c : Nat) (y : Ex) (hy : x.e.l[l.length]? = some y) (q1 : l.length ≠ 1 ∨ ¬ (x.e.d.kind = 6 ∨ x.e.d.kind = 14 ∨ x.e.d.kind = 15)) :
    Calls Tryd.prog 15 #[.agg #[.pointer (some ⟨mb, 0, none⟩)], .agg #[.pointer (some ⟨eb, eo, none⟩), .pointer u, .int .i64 x.base], .slice A l.length c] w fun e1 w' => e1 = .returned (.tuple #[]) ∧ Post w0 B mb (Mv mb t r v f) w { s with next := some (y, x.env) } w' := by
  have hyl : l.length < x.e.d.pn := by have := (List.getElem?_eq_some_iff.1 hy).1; rw [he.1.1.len] at this; exact this
  have hpn : x.e.d.pn ≤ 4000000 := he.1.1.cap.2.2.1.2.2
  obtain ⟨pb, po, hpA, hyI⟩ := ex_part he.1 hy
  obtain ⟨hq1, hq2, hb⟩ := two_boxes w (boxM mb) (boxF eb eo u x.base)
  obtain ⟨f0, f1, f2⟩ := cells3 hq2
  have c0 : ((w.alloc (boxM mb)).alloc (boxF eb eo u x.base)).cell? ⟨w.heap.size, 0, none⟩ = some (.pointer (some ⟨mb, 0, none⟩)) := (by rw [Lib.cell_of_heap hq1]; rfl)
  have hdd := (he.1.2.lower hW).lower hb
  have kd := hdd.c0
  have k5 := hdd.c7
  rw [hpA] at k5
  have HC := Lib.hid (fun (wr : World) (hb' : Below ((w.alloc (boxM mb)).alloc (boxF eb eo u x.base)).heap.size ((w.alloc (boxM mb)).alloc (boxF eb eo u x.base)) wr) => (show Calls Tryd.prog 18 #[.pointer (some ⟨mb, 0, none⟩), .pointer (some ⟨pb, po + l.length * 8, none⟩), .pointer u] wr fun e1 w' => e1 = .returned (.tuple #[]) ∧ Post w0 B mb (Mv mb t r v f) w { s with next := some (y, x.env) } w' from
    (begin_any ((h.below hb).below hb') y x.env pb _ u ⟨hyI, he.2.keep (Tr.below (below_then hb hb'))⟩).mono fun e1 w' ⟨h1, h2⟩ => ⟨h1, h2.mono (Tr.below (below_then hb hb')) ((below_then hb hb').mono (Nat.le_of_lt (Nat.lt_of_le_of_lt h.base.2 h.lt)))⟩))
  obtain ⟨K, hK⟩ : ∃ K, x.e.d.kind = K := ⟨_, rfl⟩
  rw [hK] at kd q1
  obtain ⟨G, hG⟩ : ∃ G, l.length = G := ⟨_, rfl⟩
  rw [hG] at hyl HC q1 ⊢
  have n0 : (0 : Int) ≤ (G : Int) := by omega
  have n1 : (G : Int) < (x.e.d.pn : Int) := by omega
  have n2 : (x.e.d.pn : Int) ≤ 4000000 := by omega
  clear h hW he hy hK hG hyl hpn hyI hq1 hq2 hb hdd hpA
  rcases q1 with q1 | q1
  · have e1 : ((G : Int) == 1) = false := by simp; omega
    clear q1
    go_enter Tryd.func15, Tryd.ntmps15
    go_upto_region 14 with fail
    go_region_law (go_simp; go_at_call 18; (with_reducible refine (HC.out _ (below_drew1 _)).mono ?_); rintro e1 w2 ⟨rfl, hp⟩; have HP := Lib.hid hp; clear hp)
    all_goals
      go_wp2_with fail
      go_returns
      with_reducible exact ⟨rfl, HP.out⟩
  · have e14 : (K == 14) = false := by simp; omega
    have e6 : (K == 6) = false := by simp; omega
    have e15 : (K == 15) = false := by simp; omega
    clear q1
    rcases Bool.eq_false_or_eq_true ((G : Int) == 1) with e1 | e1
    all_goals
      go_enter Tryd.func15, Tryd.ntmps15
      go_upto_region 14 with fail
      go_region_law (go_simp; go_at_call 18; (with_reducible refine (HC.out _ (below_drew1 _)).mono ?_); rintro e1 w2 ⟨rfl, hp⟩; have HP := Lib.hid hp; clear hp)
      all_goals
        go_wp2_with fail
        go_returns
        with_reducible exact ⟨rfl, HP.out⟩
set_option maxRecDepth 100000 in
set_option maxHeartbeats 8000000 in
theorem goLet_any (h : Rep w0 B mb s w t i r v f nx nm rcs vcs fcs) (hW : Below w0.heap.size w0 w) (hv : s.vals.length ≤ 100000000000) (hf : s.frames.length ≤ 100000000000) (fs : List Frm) (x : Frm) (hx : s.frames = fs ++ [x]) (hbs : x.base ≤ s.vals.length) (eb eo : Nat) (u : Option Addr) (he : EN w0 w (Mv mb t r v f) x.e x.env eb eo (.pointer u)) (z : Val) (css : List (List Value)) (ab ao c : Nat) (hl : Vs w0 w (Mv mb t r v f) [z] (some ⟨ab, ao, none⟩) css) (hA : ab ≠ mb) (y1 : Ex) (hy1 : x.e.l[1]? = some y1) (hkd : x.e.d.kind = 6) :
    Calls Tryd.prog 15 #[.agg #[.pointer (some ⟨mb, 0, none⟩)], .agg #[.pointer (some ⟨eb, eo, none⟩), .pointer u, .int .i64 x.base], .slice (some ⟨ab, ao, none⟩) 1 c] w fun e1 w' => e1 = .returned (.tuple #[]) ∧ Post w0 B mb (Mv mb t r v f) w ({ s.ended fs x with next := some (y1, (x.e.d.s, z) :: x.env) }) w' := by
  obtain ⟨A0, k0, rfl, _⟩ := own_cap h.vr
  have hpn : x.e.d.pn ≤ 4000000 := he.1.1.cap.2.2.1.2.2
  have hyl : 1 < x.e.d.pn := by have := (List.getElem?_eq_some_iff.1 hy1).1; rw [he.1.1.len] at this; exact this
  obtain ⟨pb, po, hpA, hyI1⟩ := ex_part he.1 hy1
  obtain ⟨hq1, hq2, hb⟩ := two_boxes w (boxM mb) (boxF eb eo u x.base)
  obtain ⟨f0, f1, f2⟩ := cells3 hq2
  have c0 : ((w.alloc (boxM mb)).alloc (boxF eb eo u x.base)).cell? ⟨w.heap.size, 0, none⟩ = some (.pointer (some ⟨mb, 0, none⟩)) := (by rw [Lib.cell_of_heap hq1]; rfl)
  have hdd := (he.1.2.lower hW).lower hb
  obtain ⟨Az, kz, pz, LAz, lkz, hz, g0, g1, g2, g3, g4, g5⟩ := (hl.below hb).six 0 (z := z) rfl ao (ao + 1) (ao + 2) (ao + 3) (ao + 4) (ao + 5) ⟨by omega, by omega, by omega, by omega, by omega, by omega⟩
  have kd := hdd.c0
  rw [hkd] at kd
  have k2 := hdd.c3
  have k5 := hdd.c7
  rw [hpA] at k5
  have heb : eb ≠ mb := by have := he.1.2.blt; have := h.base; omega
  have HE := Lib.hid (end_any (h.below hb) fs x hx hf hbs hv)
  have HC := Lib.hid (fun (q1' k1' : Nat) (wr : World) (hE : Ended w0 ((w.alloc (boxM mb)).alloc (boxF eb eo u x.base)) B mb s t i r A0 k0 q1' k1' nx nm rcs vcs fcs fs x wr) => And.intro (hE.cell (Nat.ne_of_gt h.lt) c0) (And.intro (hE.cell (Nat.ne_of_gt (Nat.lt_succ_of_lt h.lt)) f1) (And.intro (hE.cell heb k2) (And.intro (hE.cell heb k5) (And.intro (hE.cell hA g0) (And.intro (hE.cell hA g1) (And.intro (hE.cell hA g2) (And.intro (hE.cell hA g3) (And.intro (hE.cell hA g4) (hE.cell hA g5))))))))))
  have HAP := Lib.hid (fun (q1' k1' : Nat) (hff : f = .slice (some ⟨q1', 0, none⟩) (fs.length + 1) k1') (wr : World) (hE : Ended w0 ((w.alloc (boxM mb)).alloc (boxF eb eo u x.base)) B mb s t i r A0 k0 q1' k1' nx nm rcs vcs fcs fs x wr) => (show Calls Tryd.prog 24 #[.pointer (some ⟨mb, 0, none⟩), .pointer (some ⟨pb, po + 8, none⟩), .pointer u, .string (bstr x.e.d.s), .agg #[.int .i64 z.sort, .int .i64 z.n, .string (bstr z.s), .slice LAz z.labels.length lkz, .slice Az z.l.length kz, .pointer pz]] wr.drew fun e1 w' => e1 = .returned (.tuple #[]) ∧ Post w0 B mb (Mv mb t r (.slice A0 s.vals.length k0) f) w ({ s.ended fs x with next := some (y1, (x.e.d.s, z) :: x.env) }) w' from by
    subst hff
    have hT1 : Tr w (Mv mb t r (.slice A0 s.vals.length k0) (.slice (some ⟨q1', 0, none⟩) (fs.length + 1) k1')) wr (Mv mb t r (.slice A0 x.base k0) (.slice (some ⟨q1', 0, none⟩) fs.length k1')) := (Tr.below (P := Mv mb t r (.slice A0 s.vals.length k0) (.slice (some ⟨q1', 0, none⟩) (fs.length + 1) k1')) hb).trans hb.size hE.tr
    have hB1 : Below B w wr := (hb.mono (Nat.le_of_lt (Nat.lt_of_le_of_lt h.base.2 h.lt))).trans hE.below
    have hdw := below_drew1 wr
    have heE : ER w0 wr.drew (Mv mb t r (.slice A0 x.base k0) (.slice (some ⟨q1', 0, none⟩) fs.length k1')) x.env (.pointer u) := (he.2.keep hT1).keep (Tr.below hdw)
    have hzE := (hz.keep hE.tr).keep (Tr.below (P := Mv mb t r (.slice A0 x.base k0) (.slice (some ⟨q1', 0, none⟩) fs.length k1')) hdw)
    refine (bind_any (s := s.ended fs x) (hE.rep.below hdw) y1 x.env pb (po + 8) u ⟨hyI1, heE⟩ x.e.d.s z _ _ _ _ _ _ hzE).mono ?_
    rintro e1 w' ⟨rfl, hp⟩
    exact ⟨rfl, Post.mono hT1 hB1 (hp.mono (Tr.below hdw) (hdw.mono (by have := hE.rep.lt; have := hE.rep.base.2; omega)))⟩))
  have n1 : (1 : Int) < (x.e.d.pn : Int) := by omega
  have n2 : (1 : Int) < (x.e.d.pn : Int) := by omega
  have n3 : (x.e.d.pn : Int) ≤ 4000000 := by omega
  clear h hW hv hf hx hbs he hl hA hy1 hyI1 hkd hpn hyl hq1 hq2 hb hdd hz g0 g1 g2 g3 g4 g5 hpA heb k2 k5
  go_enter Tryd.func15, Tryd.ntmps15
  go_upto_region 9 with (go_at_call 28; (with_reducible refine HE.out.mono ?_); rintro e1 w1 ⟨rfl, q1', k1', hff, hE⟩; obtain ⟨c0', f1', k2', k5', g0, g1, g2, g3, g4, g5⟩ := HC.out _ _ _ hE; have HA2 := Lib.hid (HAP.out _ _ hff _ hE); clear hE hff)
  clear c0 f0 f1 f2 kd
  go_still_tail 16, (by kernel_rfl)
  change wpList _ _ _ _ _ _
  go_wp2_with (go_at_call 24; (with_reducible refine HA2.out.mono ?_); rintro e1 w2 ⟨rfl, hp⟩; have HP := Lib.hid hp; clear hp)
  all_goals
    go_wp2_with fail
    go_returns
    with_reducible exact ⟨rfl, HP.out⟩
set_option maxRecDepth 100000 in
set_option maxHeartbeats 8000000 in
theorem goIf_any (h : Rep w0 B mb s w t i r v f nx nm rcs vcs fcs) (hW : Below w0.heap.size w0 w) (hv : s.vals.length ≤ 100000000000) (hf : s.frames.length ≤ 100000000000) (fs : List Frm) (x : Frm) (hx : s.frames = fs ++ [x]) (hbs : x.base ≤ s.vals.length) (eb eo : Nat) (u : Option Addr) (he : EN w0 w (Mv mb t r v f) x.e x.env eb eo (.pointer u)) (z : Val) (css : List (List Value)) (ab ao c : Nat) (hl : Vs w0 w (Mv mb t r v f) [z] (some ⟨ab, ao, none⟩) css) (hA : ab ≠ mb) (y1 : Ex) (hy1 : x.e.l[1]? = some y1) (y2 : Ex) (hy2 : x.e.l[2]? = some y2) (hkd : x.e.d.kind = 15) :
    Calls Tryd.prog 15 #[.agg #[.pointer (some ⟨mb, 0, none⟩)], .agg #[.pointer (some ⟨eb, eo, none⟩), .pointer u, .int .i64 x.base], .slice (some ⟨ab, ao, none⟩) 1 c] w fun e1 w' => e1 = .returned (.tuple #[]) ∧ Post w0 B mb (Mv mb t r v f) w ((s.ended fs x).ifd z y1 y2 x.env) w' := by
  obtain ⟨A0, k0, rfl, _⟩ := own_cap h.vr
  have hpn : x.e.d.pn ≤ 4000000 := he.1.1.cap.2.2.1.2.2
  have hyl : 2 < x.e.d.pn := by have := (List.getElem?_eq_some_iff.1 hy2).1; rw [he.1.1.len] at this; exact this
  obtain ⟨pb, po, hpA, hyI1⟩ := ex_part he.1 hy1
  have hyI2 : y2.In w0 ∧ y2.d.At w0 pb (po + 2 * 8) := by
    obtain ⟨pb', po', h1, h2⟩ := ex_part he.1 hy2
    rw [hpA] at h1
    cases h1
    exact h2
  obtain ⟨hq1, hq2, hb⟩ := two_boxes w (boxM mb) (boxF eb eo u x.base)
  obtain ⟨f0, f1, f2⟩ := cells3 hq2
  have c0 : ((w.alloc (boxM mb)).alloc (boxF eb eo u x.base)).cell? ⟨w.heap.size, 0, none⟩ = some (.pointer (some ⟨mb, 0, none⟩)) := (by rw [Lib.cell_of_heap hq1]; rfl)
  have hdd := (he.1.2.lower hW).lower hb
  obtain ⟨Az, kz, pz, LAz, lkz, hz, g0, g1, g2, g3, g4, g5⟩ := (hl.below hb).six 0 (z := z) rfl ao (ao + 1) (ao + 2) (ao + 3) (ao + 4) (ao + 5) ⟨by omega, by omega, by omega, by omega, by omega, by omega⟩
  have kd := hdd.c0
  rw [hkd] at kd
  have k2 := hdd.c3
  have k5 := hdd.c7
  rw [hpA] at k5
  have heb : eb ≠ mb := by have := he.1.2.blt; have := h.base; omega
  have HE := Lib.hid (end_any (h.below hb) fs x hx hf hbs hv)
  have HC := Lib.hid (fun (q1' k1' : Nat) (wr : World) (hE : Ended w0 ((w.alloc (boxM mb)).alloc (boxF eb eo u x.base)) B mb s t i r A0 k0 q1' k1' nx nm rcs vcs fcs fs x wr) => And.intro (hE.cell (Nat.ne_of_gt h.lt) c0) (And.intro (hE.cell (Nat.ne_of_gt (Nat.lt_succ_of_lt h.lt)) f1) (And.intro (hE.cell heb k2) (And.intro (hE.cell heb k5) (And.intro (hE.cell hA g0) (And.intro (hE.cell hA g1) (And.intro (hE.cell hA g2) (And.intro (hE.cell hA g3) (And.intro (hE.cell hA g4) (hE.cell hA g5))))))))))
  have HAP := Lib.hid (fun (q1' k1' : Nat) (hff : f = .slice (some ⟨q1', 0, none⟩) (fs.length + 1) k1') (wr : World) (hE : Ended w0 ((w.alloc (boxM mb)).alloc (boxF eb eo u x.base)) B mb s t i r A0 k0 q1' k1' nx nm rcs vcs fcs fs x wr) => (show Calls Tryd.prog 30 #[.pointer (some ⟨mb, 0, none⟩), .agg #[.int .i64 z.sort, .int .i64 z.n, .string (bstr z.s), .slice LAz z.labels.length lkz, .slice Az z.l.length kz, .pointer pz], .pointer (some ⟨pb, po + 8, none⟩), .pointer (some ⟨pb, po + 16, none⟩), .pointer u] wr.drew fun e1 w' => e1 = .returned (.tuple #[]) ∧ Post w0 B mb (Mv mb t r (.slice A0 s.vals.length k0) f) w ((s.ended fs x).ifd z y1 y2 x.env) w' from by
    subst hff
    have hT1 : Tr w (Mv mb t r (.slice A0 s.vals.length k0) (.slice (some ⟨q1', 0, none⟩) (fs.length + 1) k1')) wr (Mv mb t r (.slice A0 x.base k0) (.slice (some ⟨q1', 0, none⟩) fs.length k1')) := (Tr.below (P := Mv mb t r (.slice A0 s.vals.length k0) (.slice (some ⟨q1', 0, none⟩) (fs.length + 1) k1')) hb).trans hb.size hE.tr
    have hB1 : Below B w wr := (hb.mono (Nat.le_of_lt (Nat.lt_of_le_of_lt h.base.2 h.lt))).trans hE.below
    have hdw := below_drew1 wr
    have heE : ER w0 wr.drew (Mv mb t r (.slice A0 x.base k0) (.slice (some ⟨q1', 0, none⟩) fs.length k1')) x.env (.pointer u) := (he.2.keep hT1).keep (Tr.below hdw)
    have hzE := (hz.keep hE.tr).keep (Tr.below (P := Mv mb t r (.slice A0 x.base k0) (.slice (some ⟨q1', 0, none⟩) fs.length k1')) hdw)
    refine (if_any (s := s.ended fs x) (hE.rep.below hdw) y1 y2 x.env pb (po + 8) pb (po + 16) u ⟨hyI1, heE⟩ ⟨hyI2, heE⟩ z Az kz pz LAz lkz).mono ?_
    rintro e1 w' ⟨rfl, hp⟩
    exact ⟨rfl, Post.mono hT1 hB1 (hp.mono (Tr.below hdw) (hdw.mono (by have := hE.rep.lt; have := hE.rep.base.2; omega)))⟩))
  have n1 : (2 : Int) < (x.e.d.pn : Int) := by omega
  have n2 : (1 : Int) < (x.e.d.pn : Int) := by omega
  have n3 : (x.e.d.pn : Int) ≤ 4000000 := by omega
  clear h hW hv hf hx hbs he hl hA hy1 hyI1 hy2 hyI2 hkd hpn hyl hq1 hq2 hb hdd hz g0 g1 g2 g3 g4 g5 hpA heb k2 k5
  go_enter Tryd.func15, Tryd.ntmps15
  go_upto_region 12 with (go_at_call 28; (with_reducible refine HE.out.mono ?_); rintro e1 w1 ⟨rfl, q1', k1', hff, hE⟩; obtain ⟨c0', f1', k2', k5', g0, g1, g2, g3, g4, g5⟩ := HC.out _ _ _ hE; have HA2 := Lib.hid (HAP.out _ _ hff _ hE); clear hE hff)
  clear c0 f0 f1 f2 kd
  go_still_tail 17, (by kernel_rfl)
  change wpList _ _ _ _ _ _
  go_wp2_with (go_at_call 30; (with_reducible refine HA2.out.mono ?_); rintro e1 w2 ⟨rfl, hp⟩; have HP := Lib.hid hp; clear hp)
  all_goals
    go_wp2_with fail
    go_returns
    with_reducible exact ⟨rfl, HP.out⟩
end
end Go.Proofs.YtjmgnohepoacbaaDoor

namespace Go.Proofs.YtjmgnohepoacbaaDoor
open Go Go.ChangeShapes Go.WideShapes Go.ChangeAt Go.RowKit Go.Sort
set_option linter.unusedVariables false
set_option linter.unusedSimpArgs false

theorem get_some {α : Type} {l : List α} {k : Nat} (h : k < l.length) : ∃ y, l[k]? = some y := ⟨_, List.getElem?_eq_getElem h⟩
section
variable {w0 w : World} {B mb : Nat} {s : St} {t i r v f nx nm : Value} {rcs vcs fcs : List (List Value)}
set_option maxRecDepth 100000 in
set_option maxHeartbeats 8000000 in
theorem goChoose_any (h : Rep w0 B mb s w t i r v f nx nm rcs vcs fcs) (hW : Below w0.heap.size w0 w) (hv : s.vals.length ≤ 100000000000) (hf : s.frames.length ≤ 100000000000) (fs : List Frm) (x : Frm) (hx : s.frames = fs ++ [x]) (hbs : x.base ≤ s.vals.length) (eb eo : Nat) (u : Option Addr) (he : EN w0 w (Mv mb t r v f) x.e x.env eb eo (.pointer u)) (z : Val) (css : List (List Value)) (ab ao c : Nat) (hl : Vs w0 w (Mv mb t r v f) [z] (some ⟨ab, ao, none⟩) css) (hA : ab ≠ mb) (hk : partsOk x.e.d = true) (hkd : x.e.d.kind = 14) (h5 : z.sort = 5 → z.l.length = 1) :
    Calls Tryd.prog 15 #[.agg #[.pointer (some ⟨mb, 0, none⟩)], .agg #[.pointer (some ⟨eb, eo, none⟩), .pointer u, .int .i64 x.base], .slice (some ⟨ab, ao, none⟩) 1 c] w fun e1 w' => e1 = .returned (.tuple #[]) ∧ Post w0 B mb (Mv mb t r v f) w ((s.ended fs x).choose x.e x.env z) w' := by
  obtain ⟨A0, k0, rfl, _⟩ := own_cap h.vr
  have hpn : x.e.d.pn ≤ 4000000 := he.1.1.cap.2.2.1.2.2
  have hpc := partsC hk hkd
  obtain ⟨hq1, hq2, hb⟩ := two_boxes w (boxM mb) (boxF eb eo u x.base)
  obtain ⟨f0, f1, f2⟩ := cells3 hq2
  have c0 : ((w.alloc (boxM mb)).alloc (boxF eb eo u x.base)).cell? ⟨w.heap.size, 0, none⟩ = some (.pointer (some ⟨mb, 0, none⟩)) := (by rw [Lib.cell_of_heap hq1]; rfl)
  have hdd := (he.1.2.lower hW).lower hb
  obtain ⟨Az, kz, pz, LAz, lkz, hz, g0, g1, g2, g3, g4, g5⟩ := (hl.below hb).six 0 (z := z) rfl ao (ao + 1) (ao + 2) (ao + 3) (ao + 4) (ao + 5) ⟨by omega, by omega, by omega, by omega, by omega, by omega⟩
  have kd := hdd.c0
  rw [hkd] at kd
  have heb : eb ≠ mb := by have := he.1.2.blt; have := h.base; omega
  have HE := Lib.hid (end_any (h.below hb) fs x hx hf hbs hv)
  have HC := Lib.hid (fun (q1' k1' : Nat) (wr : World) (hE : Ended w0 ((w.alloc (boxM mb)).alloc (boxF eb eo u x.base)) B mb s t i r A0 k0 q1' k1' nx nm rcs vcs fcs fs x wr) => And.intro (hE.cell (Nat.ne_of_gt h.lt) c0) (And.intro (hE.cell (Nat.ne_of_gt (Nat.lt_succ_of_lt h.lt)) f0) (And.intro (hE.cell (Nat.ne_of_gt (Nat.lt_succ_of_lt h.lt)) f1) (And.intro (hE.cell (Nat.ne_of_gt (Nat.lt_succ_of_lt h.lt)) f2) (And.intro (hE.cell hA g0) (And.intro (hE.cell hA g1) (And.intro (hE.cell hA g2) (And.intro (hE.cell hA g3) (And.intro (hE.cell hA g4) (hE.cell hA g5))))))))))
  have HAP := Lib.hid (fun (q1' k1' : Nat) (hff : f = .slice (some ⟨q1', 0, none⟩) (fs.length + 1) k1') (wr : World) (hE : Ended w0 ((w.alloc (boxM mb)).alloc (boxF eb eo u x.base)) B mb s t i r A0 k0 q1' k1' nx nm rcs vcs fcs fs x wr) => (show Calls Tryd.prog 29 #[.agg #[.pointer (some ⟨mb, 0, none⟩)], .agg #[.pointer (some ⟨eb, eo, none⟩), .pointer u, .int .i64 x.base], .agg #[.int .i64 z.sort, .int .i64 z.n, .string (bstr z.s), .slice LAz z.labels.length lkz, .slice Az z.l.length kz, .pointer pz]] wr.drew fun e1 w' => e1 = .returned (.tuple #[]) ∧ Post w0 B mb (Mv mb t r (.slice A0 s.vals.length k0) f) w ((s.ended fs x).choose x.e x.env z) w' from by
    subst hff
    have hT1 : Tr w (Mv mb t r (.slice A0 s.vals.length k0) (.slice (some ⟨q1', 0, none⟩) (fs.length + 1) k1')) wr (Mv mb t r (.slice A0 x.base k0) (.slice (some ⟨q1', 0, none⟩) fs.length k1')) := (Tr.below (P := Mv mb t r (.slice A0 s.vals.length k0) (.slice (some ⟨q1', 0, none⟩) (fs.length + 1) k1')) hb).trans hb.size hE.tr
    have hB1 : Below B w wr := (hb.mono (Nat.le_of_lt (Nat.lt_of_le_of_lt h.base.2 h.lt))).trans hE.below
    have hdw := below_drew1 wr
    have heE : ER w0 wr.drew (Mv mb t r (.slice A0 x.base k0) (.slice (some ⟨q1', 0, none⟩) fs.length k1')) x.env (.pointer u) := (he.2.keep hT1).keep (Tr.below hdw)
    have hzE := (hz.keep hE.tr).keep (Tr.below (P := Mv mb t r (.slice A0 x.base k0) (.slice (some ⟨q1', 0, none⟩) fs.length k1')) hdw)
    refine (choose_any (s := s.ended fs x) (hE.rep.below hdw) ((below_w0 (hW.trans (hb.mono (Nat.le_trans h.base.1 (Nat.le_of_lt (Nat.lt_of_le_of_lt h.base.2 h.lt))))) h.base.1 hE.below).trans (hdw.mono (by have := hE.rep.lt; have := hE.rep.base.2; have := h.base.1; omega))) x.e x.env eb eo u x.base ⟨he.1, heE⟩ hpc z Az kz pz LAz lkz hzE h5).mono ?_
    rintro e1 w' ⟨rfl, hp⟩
    exact ⟨rfl, Post.mono hT1 hB1 (hp.mono (Tr.below hdw) (hdw.mono (by have := hE.rep.lt; have := hE.rep.base.2; omega)))⟩))
  have n1 : (0 : Int) < 1 := by omega
  clear h hW hv hf hx hbs he hl hA hk hkd h5 hpc hpn hq1 hq2 hb hdd hz g0 g1 g2 g3 g4 g5 heb
  go_enter Tryd.func15, Tryd.ntmps15
  go_upto_region 6 with (go_at_call 28; (with_reducible refine HE.out.mono ?_); rintro e1 w1 ⟨rfl, q1', k1', hff, hE⟩; obtain ⟨c0', f0', f1', f2', g0, g1, g2, g3, g4, g5⟩ := HC.out _ _ _ hE; have HA2 := Lib.hid (HAP.out _ _ hff _ hE); clear hE hff)
  clear c0 f0 f1 f2 kd
  go_still_tail 5, (by kernel_rfl)
  change wpList _ _ _ _ _ _
  go_wp2_with (go_at_call 29; (with_reducible refine HA2.out.mono ?_); rintro e1 w2 ⟨rfl, hp⟩; have HP := Lib.hid hp; clear hp)
  all_goals
    go_wp2_with fail
    go_returns
    with_reducible exact ⟨rfl, HP.out⟩
/-- What may wait for its parts. -/
structure GoodF (x : Frm) : Prop where
  parts : partsOk x.e.d = true
  kind : ¬ (x.e.d.kind = 1 ∨ x.e.d.kind = 2 ∨ x.e.d.kind = 3 ∨ x.e.d.kind = 4 ∨ x.e.d.kind = 7 ∨ x.e.d.kind = 22)
/-- How many values an expression waits for. -/
def limOf (d : ExD) : Nat := if d.kind = 6 ∨ d.kind = 14 ∨ d.kind = 15 then 1 else d.pn
def St.goOn (s : St) (fs : List Frm) (x : Frm) (l : List Val) : St :=
  if x.e.d.kind = 14 ∧ l.length = 1 then (match l with
    | [z] => (s.ended fs x).choose x.e x.env z
    | _ => s)
  else if x.e.d.kind = 6 ∧ l.length = 1 then (match x.e.l[1]?, l with
    | some y1, [z] => { s.ended fs x with next := some (y1, (x.e.d.s, z) :: x.env) }
    | _, _ => s)
  else if x.e.d.kind = 15 ∧ l.length = 1 then (match x.e.l[1]?, x.e.l[2]?, l with
    | some y1, some y2, [z] => (s.ended fs x).ifd z y1 y2 x.env
    | _, _, _ => s)
  else (match x.e.l[l.length]? with
    | some y => { s with next := some (y, x.env) }
    | none => (s.ended fs x).apply x.e.d l)
theorem goOn_any (h : Rep w0 B mb s w t i r v f nx nm rcs vcs fcs) (hW : Below w0.heap.size w0 w) (hT : Tab w0) (hv : s.vals.length ≤ 90000000000) (hr : s.refs.length ≤ 90000000000) (ht : s.trace.length ≤ 90000000000) (hf : s.frames.length ≤ 90000000000)
    (fs : List Frm) (x : Frm) (hx : s.frames = fs ++ [x]) (hbs : x.base ≤ s.vals.length) (hgf : GoodF x) (eb eo : Nat) (u : Option Addr) (he : EN w0 w (Mv mb t r v f) x.e x.env eb eo (.pointer u)) (l : List Val) (A : Option Addr) (css : List (List Value)) (c : Nat) (hl : Vs w0 w (Mv mb t r v f) l A css) (hA : 0 < l.length → ∀ a, A = some a → a.block ≠ mb) (hn : l.length ≤ limOf x.e.d) (hg : ∀ z ∈ l, GoodV s z) :
    Calls Tryd.prog 15 #[.agg #[.pointer (some ⟨mb, 0, none⟩)], .agg #[.pointer (some ⟨eb, eo, none⟩), .pointer u, .int .i64 x.base], .slice A l.length c] w fun e1 w' => e1 = .returned (.tuple #[]) ∧ Post w0 B mb (Mv mb t r v f) w (s.goOn fs x l) w' := by
  have hll := he.1.1.len
  have hv' : s.vals.length ≤ 100000000000 := by omega
  have hf' : s.frames.length ≤ 100000000000 := by omega
  have hkind := hgf.kind
  by_cases kk : (x.e.d.kind = 6 ∨ x.e.d.kind = 14 ∨ x.e.d.kind = 15) ∧ l.length = 1
  · obtain ⟨kk, h1⟩ := kk
    obtain ⟨ab, ao, rfl⟩ := hl.addr (by omega)
    have hA' := hA (by omega) _ rfl
    obtain ⟨z, rfl⟩ := len1 h1
    have gz := hg z (List.mem_cons_self ..)
    rcases kk with k | k | k
    · have hpn := parts2 hgf.parts (.inr (.inl k))
      obtain ⟨y, hy⟩ := get_some (l := x.e.l) (k := 1) (by omega)
      have e0 : s.goOn fs x [z] = { s.ended fs x with next := some (y, (x.e.d.s, z) :: x.env) } := by
        unfold St.goOn
        rw [if_neg (by omega), if_pos ⟨k, rfl⟩, hy]
      rw [e0]
      exact goLet_any h hW hv' hf' fs x hx hbs eb eo u he z css ab ao c hl hA' y hy k
    · have e0 : s.goOn fs x [z] = (s.ended fs x).choose x.e x.env z := if_pos ⟨k, rfl⟩
      rw [e0]
      exact goChoose_any h hW hv' hf' fs x hx hbs eb eo u he z css ab ao c hl hA' hgf.parts k gz.tag
    · have hpn := parts3 hgf.parts k
      obtain ⟨y, hy⟩ := get_some (l := x.e.l) (k := 1) (by omega)
      obtain ⟨y2, hy2⟩ := get_some (l := x.e.l) (k := 2) (by omega)
      have e0 : s.goOn fs x [z] = (s.ended fs x).ifd z y y2 x.env := by
        unfold St.goOn
        rw [if_neg (by omega), if_neg (by omega), if_pos ⟨k, rfl⟩, hy, hy2]
      rw [e0]
      exact goIf_any h hW hv' hf' fs x hx hbs eb eo u he z css ab ao c hl hA' y hy y2 hy2 k
  have e0 : s.goOn fs x l = (match x.e.l[l.length]? with
      | some y => { s with next := some (y, x.env) }
      | none => (s.ended fs x).apply x.e.d l) := by
    unfold St.goOn
    rw [if_neg (by omega), if_neg (by omega), if_neg (by omega)]
  rw [e0]
  by_cases hlt : l.length < x.e.d.pn
  · obtain ⟨y, hy⟩ := get_some (l := x.e.l) (k := l.length) (by omega)
    rw [hy]
    exact goNext_any h hW x eb eo u he l A c y hy (by omega)
  · rw [List.getElem?_eq_none (by omega)]
    have k6 : ¬ (x.e.d.kind = 6 ∨ x.e.d.kind = 14 ∨ x.e.d.kind = 15) := fun k => by
      have hl1 : l.length ≤ 1 := by unfold limOf at hn; rw [if_pos k] at hn; exact hn
      rcases k with k | k | k
      · have := parts2 hgf.parts (.inr (.inl k)); omega
      · have := (partsC hgf.parts k).1; omega
      · have := parts3 hgf.parts k; omega
    have hlim : limOf x.e.d = x.e.d.pn := by unfold limOf; rw [if_neg k6]
    exact goApply_any h hW hT hv' (by omega) (by omega) hf' fs x hx hbs hgf.parts eb eo u he l A css c hl hA (by omega) hg (by omega)
end
end Go.Proofs.YtjmgnohepoacbaaDoor

namespace Go.Proofs.YtjmgnohepoacbaaDoor
open Go Go.ChangeShapes Go.WideShapes Go.ChangeAt Go.RowKit Go.Sort
set_option linter.unusedVariables false
set_option linter.unusedSimpArgs false

abbrev WT : TypeId := 68
abbrev U8 : TypeId := 5
def u8s (s : Str) : List Value := s.map fun c => .int .u8 c.toNat
/-- The writer in block b has a text. -/
structure WD (S b : Nat) (s : Str) (w : World) : Prop where
  ge : S ≤ b
  le : s.length ≤ 2000
  at_ : ∃ v, w.heap[b]? = some (.cells #[v] WT) ∧ w.ownsRow S U8 1 v s.length (u8s s)
/-- Blocks of other types stay. -/
def Keeps (w w' : World) : Prop := ∀ (k : Nat) (cs : Array Value) (T : TypeId) (fr : Nat × Nat), w.heap[k]? = some (.cells cs T fr) → T ≠ WT → T ≠ U8 → w'.heap[k]? = some (.cells cs T fr)
theorem Keeps.refl (w : World) : Keeps w w := fun _ _ _ _ h _ _ => h
theorem Keeps.trans {a b c : World} (h : Keeps a b) (k : Keeps b c) : Keeps a c := fun q cs T fr hq h1 h2 => k q cs T fr (h q cs T fr hq h1 h2) h1 h2
theorem Keeps.of_below {w w' : World} (h : RowKit.Below w.heap.size w w') : Keeps w w' := fun k cs T fr hk _ _ => by rw [h.block k (lt_of_heap hk)]; exact hk
theorem own_below1 {S n : Nat} {e : TypeId} {v : Value} {xs : List Value} {w w' : World} (h : w.ownsRow S e 1 v n xs) (hb : Below w.heap.size w w') : w'.ownsRow S e 1 v n xs := own_below h hb
theorem WD.below {S b : Nat} {s : Str} {w w' : World} (h : WD S b s w) (hb : RowKit.Below w.heap.size w w') : WD S b s w' := by
  obtain ⟨v, h1, h2⟩ := h.at_
  exact ⟨h.ge, h.le, v, by rw [hb.block b (lt_of_heap h1)]; exact h1, own_below h2 hb⟩
theorem WD.lt {S b : Nat} {s : Str} {w : World} (h : WD S b s w) : b < w.heap.size := by
  obtain ⟨v, h1, h2⟩ := h.at_
  exact lt_of_heap h1
theorem Full_any {S b : Nat} {s : Str} {w : World} (h : WD S b s w) :
    Calls Tryd.prog 46 #[.pointer (some ⟨b, 0, none⟩)] w fun e w' => e = .returned (.bool (decide (s.length = 2000))) ∧ w' = w := by
  obtain ⟨v, h1, h2⟩ := h.at_
  obtain ⟨A, c, rfl, _⟩ := own_cap h2
  have c0 : w.cell? ⟨b, 0, none⟩ = some (.slice A s.length c) := by rw [Lib.cell_of_heap h1]; rfl
  have hd : ((s.length : Int) == 2000) = decide (s.length = 2000) := by
    by_cases q : s.length = 2000
    · rw [decide_eq_true q, q]; rfl
    · rw [decide_eq_false q]; simp; omega
  clear h h1 h2
  go_enter Tryd.func46, Tryd.ntmps46
  go_wp2_with fail
  go_returns
  exact ⟨by first | rfl | (rw [hd]), by first | rfl | trivial⟩
theorem step_apps {P : Program} {ops : Array Oper} {o : Oper} {a : Act} {K : Act → World → Prop} {Q : Exit → Act → World → Prop} {E : Prop} (w : World) (hgd : o.guard = none) (s x : Operand) (t u : TypeId)
    (ho : o.op = .call { callee := .builtin .append, args := #[s, x], argTypes := #[t, u] }) (base : Nat) (e : TypeId) (i : TypeInfo) (ht : P.underlying t = some (.slice e)) (hu : P.underlying u = some .string) (hi : P.info? e = some i) (hz : i.zero = some (.int .u8 0)) (hsize : i.size = 1) (hby : i.bytes = 1)
    (v : Value) (n : Nat) (xs : List Value) (hs : a.eval s = v) (hown : w.ownsRow base e 1 v n xs) (str : ByteArray) (hx : a.eval x = .string str) (h63 : n + str.size ≤ maxLen) (hbytes : n + str.size ≤ 140737488355328) (hbase : base ≤ w.heap.size)
    (h : ∀ v' w', w'.ownsRow base e 1 v' (n + str.size) (xs ++ Lib.strCells str) → w.grownBy w' v.ownBlock → K (a.put o.dst v') w') :
    if Region.wanted o (yielded ops a.tmps) = true then Oper.wp P o a w K Q else E := by
  have hw : Region.wanted o (yielded ops a.tmps) = true := by simp [Region.wanted, hgd]
  rw [if_pos hw]
  obtain ⟨v', w', hr, h2, h3, h4⟩ := Lib.run_append_own_string (P := P) w base t u o.type e i ht hu hi hz hsize hby v n xs hown str h63 hbytes hbase
  unfold Oper.wp execOp
  simp only [ho, resolve, invoke, builtin, Sem.run_bind, Sem.run_pure, Result.andThen_ok, List.map_toArray, List.map_cons, List.map_nil, hs, hx, hr]
  exact h v' w' h2 h3
theorem bstr_cut0 (x : Str) (m : Nat) : (bstr x).extract 0 m = bstr (x.take m) := by
  apply ByteArray.ext
  rw [ByteArray.data_extract]
  apply Array.toList_inj.1
  simp [bstr_data, bstr]
/-- One more text, as far as there is room. -/
def say1 (b s : Str) : Str := b ++ s.take (2000 - b.length)
def sayL (b : Str) : List Str → Str
  | [] => b
  | s :: l => sayL (say1 b s) l
theorem say1_le {b s : Str} (h : b.length ≤ 2000) : (say1 b s).length ≤ 2000 := by unfold say1; rw [List.length_append, List.length_take]; omega
theorem sayL_snoc (b : Str) (l : List Str) (s : Str) : sayL b (l ++ [s]) = say1 (sayL b l) s := by
  induction l generalizing b with
  | nil => rfl
  | cons x l ih => exact ih (say1 b x)
theorem sayL_le {b : Str} (h : b.length ≤ 2000) : ∀ l : List Str, (sayL b l).length ≤ 2000 := by
  intro l
  induction l generalizing b with
  | nil => exact h
  | cons x l ih => exact ih (say1_le h)
theorem sayL_take (b : Str) (l : List Str) (k : Nat) (x : Str) (hk : l[k]? = some x) : sayL b (l.take (k + 1)) = say1 (sayL b (l.take k)) x := by
  obtain ⟨h1, h2⟩ := List.getElem?_eq_some_iff.1 hk
  rw [List.take_succ_eq_append_getElem h1, h2, sayL_snoc]
theorem own_type {S n b : Nat} {v u : Value} {xs : List Value} {w : World} (h : w.ownsRow S U8 1 v n xs) (hb : w.heap[b]? = some (.cells #[u] WT)) : some b ≠ v.ownBlock := by
  intro e
  rcases h.2 with ⟨rfl, _⟩ | ⟨g, cap, cur, rfl, _, hg, _⟩
  · simp [Value.ownBlock] at e
  · simp only [Value.ownBlock, Option.some.injEq] at e
    subst e
    rw [hg] at hb
    injection hb with hb
    injection hb with _ hb _
    exact absurd hb (by decide)
theorem WD.says {S b n n' : Nat} {wr w1 w2 : World} {v v' : Value} {xs xs' : List Value} (hS : S ≤ b) (hv1 : wr.heap[b]? = some (.cells #[v] WT)) (hown : wr.ownsRow S U8 1 v n xs) (hw : Below wr.heap.size wr w1) (hgrow : w1.grownBy w2 v.ownBlock) (hown' : w2.ownsRow S U8 1 v' n' xs') :
    (w2.cell? ⟨b, 0, none⟩ = some v ∧ w2.frozen? ⟨b, 0, none⟩ = false) ∧ (w2.setCell ⟨b, 0, none⟩ v').heap[b]? = some (.cells #[v'] WT) ∧ (w2.setCell ⟨b, 0, none⟩ v').ownsRow S U8 1 v' n' xs' ∧ Keeps wr (w2.setCell ⟨b, 0, none⟩ v') ∧ Below S wr (w2.setCell ⟨b, 0, none⟩ v') := by
  have hlt := lt_of_heap hv1
  have hm : w2.heap[b]? = some (.cells #[v] WT) := (hgrow.block b (Nat.lt_of_lt_of_le hlt hw.size) (own_type hown hv1)).trans ((hw.block b hlt).trans hv1)
  refine ⟨⟨by rw [Lib.cell_of_heap hm]; rfl, Lib.frozen_of_heap hm 0⟩, set_cells hm 0 v', own_keep hown' (fun g hg _ => set_other _ _ _ _ (fun e => own_type hown' hm (by rw [← e]; exact hg.symm))), ?_, ?_⟩
  · intro k cs T fr hk h1 h2
    have hkb : k ≠ b := by
      rintro rfl
      rw [hv1] at hk
      injection hk with hk
      injection hk with _ hk _
      exact h1 hk.symm
    have hko : some k ≠ v.ownBlock := by
      intro e
      rcases hown.2 with ⟨rfl, _⟩ | ⟨g, cap, cur, rfl, _, hg, _⟩
      · simp [Value.ownBlock] at e
      · simp only [Value.ownBlock, Option.some.injEq] at e
        subst e
        rw [hg] at hk
        injection hk with hk
        injection hk with _ hk _
        exact h2 hk.symm
    rw [set_other _ _ _ _ hkb, hgrow.block k (Nat.lt_of_lt_of_le (lt_of_heap hk) hw.size) hko, hw.block k (lt_of_heap hk)]
    exact hk
  · have hB : S ≤ wr.heap.size := by omega
    exact ((hw.mono hB).grown hgrow (Nat.le_trans hB hw.size) (fun k hk => (hown.lt k hk).1)).setCell (p := ⟨b, 0, none⟩) hS _
set_option maxHeartbeats 4000000 in
set_option maxRecDepth 100000 in
theorem Say_any {S b : Nat} {bs : Str} {w : World} (h : WD S b bs w) (hS : S ≤ w.heap.size) (l : List Str) (A : Option Addr) (c : Nat) (g : Nat) (fr : Nat × Nat) (hA : A = some ⟨g, 0, none⟩) (hl : w.heap[g]? = some (.cells (strs l).toArray 9 fr)) (hl4 : l.length ≤ 100) (hx : ∀ x ∈ l, x.length ≤ 4000000) :
    Calls Tryd.prog 47 #[.pointer (some ⟨b, 0, none⟩), .slice A l.length c] w fun e w' => e = .returned (.tuple #[]) ∧ WD S b (sayL bs l) w' ∧ Below S w w' ∧ Keeps w w' := by
  subst hA
  have H := Lib.hid (And.intro hl (And.intro hS (And.intro h hx)))
  have hbl := h.le
  obtain ⟨ti, hi, hz0, hz1, hz2⟩ := info_parts (show (Tryd.prog.info? 5).map (fun i => (i.zero, i.size, i.bytes)) = some (some (.int .u8 0), 1, 1) by kernel_rfl)
  clear h hS hl hx
  go_enter Tryd.func47, Tryd.ntmps47
  go_upto_region 1 with fail
  go_loopw [5, 8] (fun _ i wr => ∃ k : Nat, i = .int .i64 k ∧ k ≤ l.length ∧ WD S b (sayL bs (l.take k)) wr ∧ Below S w wr ∧ Keeps w wr) (fun _ i _ => l.length - (intOf i).toNat)
  case atStart => exact ⟨0, rfl, Nat.zero_le _, H.out.2.2.1, Below.refl _ _, Keeps.refl _⟩
  case round =>
    obtain ⟨k, rfl, hk, hwd, hbr, hkp⟩ := hrel
    by_cases hlt : k < l.length
    · obtain ⟨x, hx⟩ : ∃ x, l[k]? = some x := ⟨_, List.getElem?_eq_getElem hlt⟩
      have hgr := hkp g _ _ _ H.out.1 (by decide) (by decide)
      have hc : wr.cell? ⟨g, k, none⟩ = some (.string (bstr x)) := by
        rw [Lib.cell_of_heap hgr]
        obtain ⟨h1, h2⟩ := List.getElem?_eq_some_iff.1 hx
        simp [strs, hlt, h2]
      have hxl := H.out.2.2.2 x (List.mem_of_getElem? hx)
      have HN := Lib.hid (sayL_take bs l k x hx)
      obtain ⟨acc, hacc⟩ : ∃ acc, sayL bs (l.take k) = acc := ⟨_, rfl⟩
      rw [hacc] at hwd HN
      have HWD := Lib.hid hwd
      have hle := hwd.le
      obtain ⟨v, hv1, hv2⟩ := hwd.at_
      obtain ⟨A1, c1, rfl, _⟩ := own_cap hv2
      have c0 : wr.cell? ⟨b, 0, none⟩ = some (.slice A1 acc.length c1) := by rw [Lib.cell_of_heap hv1]; rfl
      have HO := Lib.hid hv2
      have HV := Lib.hid hv1
      have HR := Lib.hid (And.intro hbr hkp)
      have hsz : (bstr x).size = x.length := bstr_size x
      have i1 : (k : Int) < (l.length : Int) := by omega
      have i0 : (0 : Int) ≤ (k : Int) := by omega
      clear hwd hbr hkp hx hacc hgr hv2 hv1
      go_upto_region 3 with fail
      obtain ⟨q, hq⟩ : ∃ q : Nat, 2000 - acc.length = q := ⟨_, rfl⟩
      obtain ⟨m, hm⟩ : ∃ m : Nat, min x.length q = m := ⟨_, rfl⟩
      have n8 : IntKind.i64.wrap (2000 - (acc.length : Int)) = (q : Int) := by rw [IntKind.wrap_i64]; omega
      have n9 : min (x.length : Int) (q : Int) = (m : Int) := by omega
      have n5 : (m : Int) ≤ (x.length : Int) := by omega
      have n6 : (0 : Int) ≤ (m : Int) := by omega
      have hcut : (bstr x).extract 0 m = bstr (x.take m) := bstr_cut0 x m
      have hmq : x.take m = x.take (2000 - acc.length) := by
        rw [hq, ← hm]
        rcases Nat.le_total x.length q with h1 | h1
        · rw [Nat.min_eq_left h1, List.take_length, List.take_of_length_le h1]
        · rw [Nat.min_eq_right h1]
      have HX := Lib.hid (And.intro hmq (show acc.length + (x.take m).length ≤ 2000 by rw [List.length_take]; omega))
      have hsz2 : (bstr (x.take m)).size = (x.take m).length := bstr_size _
      clear hmq hq hm
      have H3 := Lib.hid (show (acc.length + (bstr (x.take m)).size ≤ maxLen ∧ acc.length + (bstr (x.take m)).size ≤ 140737488355328) ∧ S ≤ wr.drew.heap.size from ⟨⟨by rw [hsz2]; unfold maxLen; have := HX.out.2; omega, by rw [hsz2]; have := HX.out.2; omega⟩, Nat.le_trans H.out.2.1 HR.out.1.size⟩)
      have HS2 := Lib.hid hsz2
      clear hsz2
      have HOD := Lib.hid (own_below HO.out (below_drew1 wr))
      have HSAY := Lib.hid (fun (v' : Value) (w2 : World) (n' : Nat) (xs' : List Value) (hgrow : wr.drew.grownBy w2 (Value.slice A1 acc.length c1).ownBlock) (hown' : w2.ownsRow S U8 1 v' n' xs') => WD.says HWD.out.ge HV.out HO.out (below_drew1 wr) hgrow hown')
      go_region_law (first
        | ((refine step_apps wr.drew (by rfl) (.tmp 16) (.tmp 27) 66 9 (by rfl) S U8 ti Tryd.underlying66 Tryd.underlying9 hi hz0 hz1 hz2 (.slice A1 acc.length c1) acc.length _ (by rfl) HOD.out (bstr (x.take m)) (by rfl) H3.out.1.1 H3.out.1.2 H3.out.2 ?_); intro v' w2 hown' hgrow; obtain ⟨ao, cap, rfl, _⟩ := own_cap hown'; obtain ⟨⟨d0, f1⟩, e1, e2, e3, e4⟩ := HSAY.out _ _ _ _ hgrow hown'; have HF := Lib.hid (And.intro e1 (And.intro e2 (And.intro e3 e4))); clear hown' hgrow e1 e2 e3 e4)
        | go_simp)
      all_goals
        go_wp2_with fail
        go_roundw
        case rel =>
          refine ⟨k + 1, by go_num, hlt, ?_, HR.out.1.trans HF.out.2.2.2, HR.out.2.trans HF.out.2.2.1⟩
          rw [HN.out]
          have hlen : (say1 acc x).length = acc.length + (bstr (x.take m)).size := by rw [HS2.out]; unfold say1; rw [List.length_append, ← HX.out.1]
          refine ⟨HWD.out.ge, say1_le hle, _, HF.out.1, ?_⟩
          rw [hlen]
          have hu : u8s (say1 acc x) = u8s acc ++ Lib.strCells (bstr (x.take m)) := by
            unfold say1
            rw [← HX.out.1, Lib.strCells, bstr_data]
            simp [u8s]
          rw [hu]
          first | exact HF.out.2.1 | (have h9 := HF.out.2.1; rw [HS2.out] at h9 ⊢; exact h9) | (have h9 := HF.out.2.1; rw [HS2.out, List.length_take]; exact h9)
        case measure => simp [intOf] <;> omega
    · obtain rfl : k = l.length := by omega
      rw [List.take_length] at hwd
      have HR := Lib.hid (And.intro hwd (And.intro hbr hkp))
      clear hwd hbr hkp
      go_wp2_with fail
      go_returns
      exact ⟨rfl, HR.out⟩
end Go.Proofs.YtjmgnohepoacbaaDoor

namespace Go.Proofs.YtjmgnohepoacbaaDoor
open Go Go.ChangeShapes Go.WideShapes Go.ChangeAt Go.RowKit Go.Sort
set_option linter.unusedVariables false
set_option linter.unusedSimpArgs false

theorem bstr_cut1 (s : Str) (k : Nat) (c : UInt8) (h : s[k]? = some c) : (bstr s).extract k (k + 1) = bstr [c] := by
  obtain ⟨h1, h2⟩ := List.getElem?_eq_some_iff.1 h
  apply ByteArray.ext
  rw [ByteArray.data_extract]
  apply Array.toList_inj.1
  simp only [bstr, Array.toList_extract, List.extract]
  rw [show k + 1 - k = 1 by omega, List.drop_eq_getElem_cons h1, List.take_succ_cons, List.take_zero, h2]
theorem u8_ne {c d : UInt8} (h : c ≠ d) : ((c.toNat : Int) == (d.toNat : Int)) = false := by
  simp only [beq_eq_false_iff_ne]
  intro e
  exact h (UInt8.toNat_inj.1 (by omega))
/-- A call of 'Say' at texts that are laid for it. -/
theorem Say_new {S b : Nat} {bs : Str} {w : World} (h : WD S b bs w) (hS : S ≤ w.heap.size) (l : List Str) (n : Nat) (hn : l.length = n) (cs : Array Value) (hcs : (strs l).toArray = cs) (hl4 : l.length ≤ 100) (hx : ∀ x ∈ l, x.length ≤ 4000000) :
    Calls Tryd.prog 47 #[.pointer (some ⟨b, 0, none⟩), .slice (some ⟨w.heap.size, 0, none⟩) n n] (w.alloc (.cells cs 9)) fun e w' => e = .returned (.tuple #[]) ∧ WD S b (sayL bs l) w' ∧ Below S w w' ∧ Keeps w w' := by
  subst hn
  subst hcs
  have hb : Below w.heap.size w (w.alloc (.cells (strs l).toArray 9)) := (Below.refl _ _).alloc (Nat.le_refl _) _
  refine (Say_any (h.below hb) (Nat.le_trans hS hb.size) l _ _ w.heap.size (0, 0) rfl (heap_new rfl) hl4 hx).mono fun e w' hh => ⟨hh.1, hh.2.1, (hb.mono hS).trans hh.2.2.1, (Keeps.of_below hb).trans hh.2.2.2⟩
def q1 (c : UInt8) : List Str := if c = 10 then [[92, 110]] else if c = 34 ∨ c = 92 then [[92], [c]] else if 32 ≤ c ∧ c ≤ 126 then [[c]] else []
def qF (b : Str) : Str → Str
  | [] => b
  | c :: s => qF (sayL b (q1 c)) s
theorem qF_snoc (b : Str) (s : Str) (c : UInt8) : qF b (s ++ [c]) = sayL (qF b s) (q1 c) := by
  induction s generalizing b with
  | nil => rfl
  | cons x s ih => exact ih (sayL b (q1 x))
def quoteS (b s : Str) : Str := say1 (qF (say1 b [34]) s) [34]
theorem qF_take (b : Str) (s : Str) (k : Nat) (c : UInt8) (hk : s[k]? = some c) : qF b (s.take (k + 1)) = sayL (qF b (s.take k)) (q1 c) := by
  obtain ⟨h1, h2⟩ := List.getElem?_eq_some_iff.1 hk
  rw [List.take_succ_eq_append_getElem h1, h2, qF_snoc]
set_option maxHeartbeats 4000000 in
set_option maxRecDepth 100000 in
theorem Quote_any {S b : Nat} {bs : Str} {w : World} (h : WD S b bs w) (hS : S ≤ w.heap.size) (s : Str) (hs : s.length ≤ 4000000) :
    Calls Tryd.prog 49 #[.pointer (some ⟨b, 0, none⟩), .string (bstr s)] w fun e w' => e = .returned (.tuple #[]) ∧ WD S b (quoteS bs s) w' ∧ Below S w w' ∧ Keeps w w' := by
  have HC := Lib.hid (Say_new h hS [[34]] 1 rfl #[.string ⟨#[34]⟩] rfl (by decide) (by intro x hx; simp at hx; subst hx; decide))
  have HSS := Lib.hid (And.intro hS hs)
  have hsz : (bstr s).size = s.length := bstr_size s
  clear h hS
  go_enter Tryd.func49, Tryd.ntmps49
  go_wp2_with (go_at_call 47; (with_reducible refine HC.out.mono ?_); rintro e1 w1 ⟨rfl, hd, hb, hk⟩; have HP := Lib.hid (And.intro hd (And.intro hb hk)); clear hd hb hk)
  go_loopw [4, 5, 11] (fun _ _ i wr => ∃ k : Nat, i = .int .i64 k ∧ k ≤ s.length ∧ WD S b (qF (say1 bs [34]) (s.take k)) wr ∧ Below S w wr ∧ Keeps w wr) (fun _ _ i _ => s.length - (intOf i).toNat)
  case atStart => exact ⟨0, rfl, Nat.zero_le _, HP.out⟩
  case round =>
    obtain ⟨k, rfl, hk, hwd, hbr, hkp⟩ := hrel
    have HR := Lib.hid (And.intro hwd (And.intro hbr hkp))
    clear hwd hbr hkp
    by_cases hlt : k < s.length
    · obtain ⟨c, hc⟩ : ∃ c, s[k]? = some c := ⟨_, List.getElem?_eq_getElem hlt⟩
      have HN := Lib.hid (qF_take (say1 bs [34]) s k c hc)
      have hcc : s[k]'hlt = c := (List.getElem?_eq_some_iff.1 hc).2
      have hg : ∀ h' : k < (bstr s).size, (bstr s)[k]'h' = c := fun h' => (bstr_get s k hlt h').trans hcc
      have hcut : (bstr s).extract k (k + 1) = bstr [c] := bstr_cut1 s k c hc
      have i1 : (k : Int) < (s.length : Int) := by omega
      have i0 : (0 : Int) ≤ (k : Int) := by omega
      have i2 : (s.length : Int) ≤ 4000000 := by have := HSS.out.2; omega
      have HSZ := Lib.hid (Nat.le_trans HSS.out.1 HR.out.2.1.size)
      have n8 : IntKind.i64.wrap ((k : Int) + 1) = (k : Int) + 1 := by rw [IntKind.wrap_i64]; omega
      have n4 : (k : Int) + 1 ≤ (s.length : Int) := by omega
      have n5 : (k : Int) ≤ (k : Int) + 1 := by omega
      have n6 : (0 : Int) ≤ (k : Int) + 1 := by omega
      have n7 : ((k : Int) + 1).toNat = k + 1 := by omega
      clear hc hcc
      by_cases c10 : c = 10
      · have HQ := Lib.hid (show q1 c = [[92, 110]] from if_pos c10)
        have HD := Lib.hid (Say_new HR.out.1 HSZ.out [[92, 110]] 1 rfl #[.string ⟨#[92, 110]⟩] rfl (by simp) (by intro x hx; simp at hx; subst hx; simp))
        have d1 : ((c.toNat : Int) == 10) = true := by subst c10; rfl
        clear c10
        go_wp2_with (go_at_call 47; (with_reducible refine HD.out.mono ?_); rintro e1 w1 ⟨rfl, hd, hb, hk⟩; have HP2 := Lib.hid (And.intro hd (And.intro hb hk)); clear hd hb hk)
        go_roundw
        case rel => exact ⟨k + 1, by go_num, hlt, by rw [HN.out, HQ.out]; exact HP2.out.1, HR.out.2.1.trans HP2.out.2.1, HR.out.2.2.trans HP2.out.2.2⟩
        case measure => simp [intOf] <;> omega
      · have d1 : ((c.toNat : Int) == 10) = false := u8_ne (d := 10) c10
        by_cases c34 : c = 34 ∨ c = 92
        · have HQ := Lib.hid (show q1 c = [[92], [c]] by unfold q1; rw [if_neg c10, if_pos c34])
          have HD := Lib.hid (Say_new HR.out.1 HSZ.out [[92], [c]] 2 rfl #[.string ⟨#[92]⟩, .string (bstr [c])] rfl (by simp) (by intro x hx; simp at hx; rcases hx with rfl | rfl <;> simp))
          have d2 : ((c.toNat : Int) == 34 || (c.toNat : Int) == 92) = true := by rcases c34 with rfl | rfl <;> rfl
          rcases Bool.eq_false_or_eq_true ((c.toNat : Int) == 34) with d3 | d3
          all_goals
            rw [d3] at d2
            simp only [Bool.true_or, Bool.false_or] at d2
            clear c10 c34
            go_wp2_with (go_at_call 47; (with_reducible refine HD.out.mono ?_); rintro e1 w1 ⟨rfl, hd, hb, hk⟩; have HP2 := Lib.hid (And.intro hd (And.intro hb hk)); clear hd hb hk)
            go_roundw
            case rel => exact ⟨k + 1, by go_num, hlt, by rw [HN.out, HQ.out]; exact HP2.out.1, HR.out.2.1.trans HP2.out.2.1, HR.out.2.2.trans HP2.out.2.2⟩
            case measure => simp [intOf] <;> omega
        · have d3 : ((c.toNat : Int) == 34) = false := u8_ne (d := 34) (fun q => c34 (.inl q))
          have d2 : ((c.toNat : Int) == 92) = false := u8_ne (d := 92) (fun q => c34 (.inr q))
          by_cases c32 : 32 ≤ c ∧ c ≤ 126
          · have HQ := Lib.hid (show q1 c = [[c]] by unfold q1; rw [if_neg c10, if_neg c34, if_pos c32])
            have HD := Lib.hid (Say_new HR.out.1 HSZ.out [[c]] 1 rfl #[.string (bstr [c])] rfl (by simp) (by intro x hx; simp at hx; subst hx; simp))
            have d4 : (32 : Int) ≤ (c.toNat : Int) := by have := UInt8.le_iff_toNat_le.1 c32.1; have e : (32 : UInt8).toNat = 32 := rfl; omega
            have d5 : (c.toNat : Int) ≤ 126 := by have := UInt8.le_iff_toNat_le.1 c32.2; have e : (126 : UInt8).toNat = 126 := rfl; omega
            clear c10 c34 c32
            go_wp2_with (go_at_call 47; (with_reducible refine HD.out.mono ?_); rintro e1 w1 ⟨rfl, hd, hb, hk⟩; have HP2 := Lib.hid (And.intro hd (And.intro hb hk)); clear hd hb hk)
            go_roundw
            case rel => exact ⟨k + 1, by go_num, hlt, by rw [HN.out, HQ.out]; exact HP2.out.1, HR.out.2.1.trans HP2.out.2.1, HR.out.2.2.trans HP2.out.2.2⟩
            case measure => simp [intOf] <;> omega
          · have HQ := Lib.hid (show q1 c = [] by unfold q1; rw [if_neg c10, if_neg c34, if_neg c32])
            have d6 : ¬ ((32 : Int) ≤ (c.toNat : Int) ∧ (c.toNat : Int) ≤ 126) := fun q => c32 ⟨UInt8.le_iff_toNat_le.2 (by have e : (32 : UInt8).toNat = 32 := rfl; omega), UInt8.le_iff_toNat_le.2 (by have e : (126 : UInt8).toNat = 126 := rfl; omega)⟩
            clear c10 c34 c32
            by_cases d4 : (32 : Int) ≤ (c.toNat : Int)
            · have d5 : ¬ (c.toNat : Int) ≤ 126 := fun q => d6 ⟨d4, q⟩
              clear d6
              go_wp2_with fail
              go_roundw
              case rel => exact ⟨k + 1, by go_num, hlt, by rw [HN.out, HQ.out]; exact HR.out.1, HR.out.2⟩
              case measure => simp [intOf] <;> omega
            · clear d6
              go_wp2_with fail
              go_roundw
              case rel => exact ⟨k + 1, by go_num, hlt, by rw [HN.out, HQ.out]; exact HR.out.1, HR.out.2⟩
              case measure => simp [intOf] <;> omega
    · obtain rfl : k = s.length := by omega
      have HD := Lib.hid (Say_new HR.out.1 (Nat.le_trans HSS.out.1 HR.out.2.1.size) [[34]] 1 rfl #[.string ⟨#[34]⟩] rfl (by decide) (by intro x hx; simp at hx; subst hx; decide))
      rw [List.take_length] at HD
      go_wp2_with (go_at_call 47; (with_reducible refine HD.out.mono ?_); rintro e1 w1 ⟨rfl, hd, hb, hk⟩; have HP2 := Lib.hid (And.intro hd (And.intro hb hk)); clear hd hb hk)
      go_returns
      exact ⟨rfl, HP2.out.1, HR.out.2.1.trans HP2.out.2.1, HR.out.2.2.trans HP2.out.2.2⟩
end Go.Proofs.YtjmgnohepoacbaaDoor

namespace Go.Proofs.YtjmgnohepoacbaaDoor
open Go Go.ChangeShapes Go.WideShapes Go.ChangeAt Go.RowKit Go.Sort
set_option linter.unusedVariables false
set_option linter.unusedSimpArgs false

def partS (br : Bool) (out : Str → Str) (bs : Str) : Str := if br = true then say1 (out (say1 bs [40])) [41] else out bs
set_option maxHeartbeats 4000000 in
set_option maxRecDepth 100000 in
theorem Part2_any {S b : Nat} {bs : Str} {w : World} (h : WD S b bs w) (hS : S ≤ w.heap.size) (br : Bool) (p0 p1 p2 : Value) (out : Str → Str)
    (hC : ∀ bs1 w1, (bs1 = bs ∨ bs1 = say1 bs [40]) → WD S b bs1 w1 → Below S w w1 → Keeps w w1 → Calls Tryd.prog 53 #[p0, p1, p2] w1 fun e w' => e = .returned (.tuple #[]) ∧ WD S b (out bs1) w' ∧ Below S w1 w' ∧ Keeps w1 w') :
    Calls Tryd.prog 52 #[.pointer (some ⟨b, 0, none⟩), .bool br, .func (.func 53) #[] #[p0, p1, p2]] w fun e w' => e = .returned (.tuple #[]) ∧ WD S b (partS br out bs) w' ∧ Below S w w' ∧ Keeps w w' := by
  have HS := Lib.hid hS
  have HC := Lib.hid hC
  cases br with
  | false =>
    have HD := Lib.hid (hC bs w (.inl rfl) h (Below.refl _ _) (Keeps.refl _))
    clear h hC hS
    go_enter Tryd.func52, Tryd.ntmps52
    go_wp2_with (go_at_call 53; (with_reducible refine HD.out.mono ?_); rintro e1 w1 ⟨rfl, hd⟩; have HP := Lib.hid hd; clear hd)
    go_returns
    exact ⟨rfl, HP.out⟩
  | true =>
    have HD := Lib.hid (Say_new h hS [[40]] 1 rfl #[.string ⟨#[40]⟩] rfl (by decide) (by intro x hx; simp at hx; subst hx; decide))
    clear h hC hS
    go_enter Tryd.func52, Tryd.ntmps52
    go_upto_region 3 with (go_at_call 47; (with_reducible refine HD.out.mono ?_); rintro e1 w1 ⟨rfl, hd, hb, hk⟩; have HP := Lib.hid (And.intro hd (And.intro hb hk)); clear hd hb hk)
    have HD2 := Lib.hid (HC.out _ w1 (.inr rfl) HP.out.1 HP.out.2.1 HP.out.2.2)
    go_upto_region 4 with (go_at_call 53; (with_reducible refine HD2.out.mono ?_); rintro e2 w2 ⟨rfl, hd, hb, hk⟩; have HP2 := Lib.hid (And.intro hd (And.intro (HP.out.2.1.trans hb) (HP.out.2.2.trans hk))); clear hd hb hk)
    have HD3 := Lib.hid (Say_new HP2.out.1 (Nat.le_trans HS.out HP2.out.2.1.size) [[41]] 1 rfl #[.string ⟨#[41]⟩] rfl (by decide) (by intro x hx; simp at hx; subst hx; decide))
    go_wp2_with (go_at_call 47; (with_reducible refine HD3.out.mono ?_); rintro e3 w3 ⟨rfl, hd, hb, hk⟩; have HP3 := Lib.hid (And.intro hd (And.intro (HP2.out.2.1.trans hb) (HP2.out.2.2.trans hk))); clear hd hb hk)
    go_returns
    exact ⟨rfl, HP3.out⟩
set_option maxHeartbeats 4000000 in
set_option maxRecDepth 100000 in
theorem Part3_any {S b : Nat} {bs : Str} {w : World} (h : WD S b bs w) (hS : S ≤ w.heap.size) (br : Bool) (p0 p1 p2 : Value) (out : Str → Str)
    (hC : ∀ bs1 w1, (bs1 = bs ∨ bs1 = say1 bs [40]) → WD S b bs1 w1 → Below S w w1 → Keeps w w1 → Calls Tryd.prog 55 #[p0, p1, p2] w1 fun e w' => e = .returned (.tuple #[]) ∧ WD S b (out bs1) w' ∧ Below S w1 w' ∧ Keeps w1 w') :
    Calls Tryd.prog 52 #[.pointer (some ⟨b, 0, none⟩), .bool br, .func (.func 55) #[] #[p0, p1, p2]] w fun e w' => e = .returned (.tuple #[]) ∧ WD S b (partS br out bs) w' ∧ Below S w w' ∧ Keeps w w' := by
  have HS := Lib.hid hS
  have HC := Lib.hid hC
  cases br with
  | false =>
    have HD := Lib.hid (hC bs w (.inl rfl) h (Below.refl _ _) (Keeps.refl _))
    clear h hC hS
    go_enter Tryd.func52, Tryd.ntmps52
    go_wp2_with (go_at_call 55; (with_reducible refine HD.out.mono ?_); rintro e1 w1 ⟨rfl, hd⟩; have HP := Lib.hid hd; clear hd)
    go_returns
    exact ⟨rfl, HP.out⟩
  | true =>
    have HD := Lib.hid (Say_new h hS [[40]] 1 rfl #[.string ⟨#[40]⟩] rfl (by decide) (by intro x hx; simp at hx; subst hx; decide))
    clear h hC hS
    go_enter Tryd.func52, Tryd.ntmps52
    go_upto_region 3 with (go_at_call 47; (with_reducible refine HD.out.mono ?_); rintro e1 w1 ⟨rfl, hd, hb, hk⟩; have HP := Lib.hid (And.intro hd (And.intro hb hk)); clear hd hb hk)
    have HD2 := Lib.hid (HC.out _ w1 (.inr rfl) HP.out.1 HP.out.2.1 HP.out.2.2)
    go_upto_region 4 with (go_at_call 55; (with_reducible refine HD2.out.mono ?_); rintro e2 w2 ⟨rfl, hd, hb, hk⟩; have HP2 := Lib.hid (And.intro hd (And.intro (HP.out.2.1.trans hb) (HP.out.2.2.trans hk))); clear hd hb hk)
    have HD3 := Lib.hid (Say_new HP2.out.1 (Nat.le_trans HS.out HP2.out.2.1.size) [[41]] 1 rfl #[.string ⟨#[41]⟩] rfl (by decide) (by intro x hx; simp at hx; subst hx; decide))
    go_wp2_with (go_at_call 47; (with_reducible refine HD3.out.mono ?_); rintro e3 w3 ⟨rfl, hd, hb, hk⟩; have HP3 := Lib.hid (And.intro hd (And.intro (HP2.out.2.1.trans hb) (HP2.out.2.2.trans hk))); clear hd hb hk)
    go_returns
    exact ⟨rfl, HP3.out⟩
end Go.Proofs.YtjmgnohepoacbaaDoor

namespace Go.Proofs.YtjmgnohepoacbaaDoor
open Go Go.ChangeShapes Go.WideShapes Go.ChangeAt Go.RowKit Go.Sort
set_option linter.unusedVariables false
set_option linter.unusedSimpArgs false

def stpF (out : Nat → Str → Str) (i : Nat) (b s : Str) : Str := if b.length = 2000 then b else out i (sayL (if 0 < i then sayL b [[44, 32]] else b) [s, [32, 61, 32]])
def fldF (out : Nat → Str → Str) : Nat → Str → List Str → Str
  | _, b, [] => b
  | i, b, s :: l => fldF out (i + 1) (stpF out i b s) l
def fieldsS (out : Nat → Str → Str) (bs : Str) (labels : List Str) : Str := say1 (fldF out 0 (say1 bs [123]) labels) [125]
theorem fldF_snoc (out : Nat → Str → Str) (l : List Str) (s : Str) : ∀ (i : Nat) (b : Str), fldF out i b (l ++ [s]) = stpF out (i + l.length) (fldF out i b l) s := by
  induction l with
  | nil => intro i b; rfl
  | cons x l ih => intro i b; show fldF out (i + 1) (stpF out i b x) (l ++ [s]) = _; rw [ih, List.length_cons, show i + 1 + l.length = i + (l.length + 1) by omega]; rfl
theorem fldF_full (out : Nat → Str → Str) (l : List Str) : ∀ (i : Nat) (b : Str), b.length = 2000 → fldF out i b l = b := by
  induction l with
  | nil => intro i b h; rfl
  | cons x l ih => intro i b h; show fldF out (i + 1) (stpF out i b x) l = b; unfold stpF; rw [if_pos h]; exact ih _ _ h
theorem fldF_app (out : Nat → Str → Str) (l m : List Str) : ∀ (i : Nat) (b : Str), fldF out i b (l ++ m) = fldF out (i + l.length) (fldF out i b l) m := by
  induction l with
  | nil => intro i b; rfl
  | cons x l ih => intro i b; show fldF out (i + 1) (stpF out i b x) (l ++ m) = _; rw [ih, List.length_cons, show i + 1 + l.length = i + (l.length + 1) by omega]; rfl
theorem say1_full {b s : Str} (h : b.length = 2000) : say1 b s = b := by unfold say1; rw [h]; simp
theorem say1_ge (b s : Str) : b.length ≤ (say1 b s).length := by unfold say1; rw [List.length_append]; omega
theorem sayL_ge (b : Str) (l : List Str) : b.length ≤ (sayL b l).length := by
  induction l generalizing b with
  | nil => exact Nat.le_refl _
  | cons x l ih => exact Nat.le_trans (say1_ge b x) (ih _)
theorem stpF_ge {out : Nat → Str → Str} (ho : ∀ i b, b.length ≤ (out i b).length) (i : Nat) (b s : Str) : b.length ≤ (stpF out i b s).length := by
  unfold stpF
  split
  · exact Nat.le_refl _
  · refine Nat.le_trans ?_ (ho _ _)
    refine Nat.le_trans ?_ (sayL_ge _ _)
    split
    · exact sayL_ge _ _
    · exact Nat.le_refl _
theorem fldF_ge {out : Nat → Str → Str} (ho : ∀ i b, b.length ≤ (out i b).length) (l : List Str) : ∀ (i : Nat) (b : Str), b.length ≤ (fldF out i b l).length := by
  induction l with
  | nil => intro i b; exact Nat.le_refl _
  | cons x l ih => intro i b; exact Nat.le_trans (stpF_ge ho i b x) (ih _ _)
set_option maxHeartbeats 8000000 in
set_option maxRecDepth 100000 in
theorem Fields_any {wS w : World} {b : Nat} {bs : Str} (h : WD wS.heap.size b bs w) (hB : Below wS.heap.size wS w) (hr : bs.length < 2000) (labels : List Str) (LA : Option Addr) (lc : Nat) (hL : Rd wS 1 LA labels.length (strs labels)) (hlm : labels.length ≤ 100000000000) (hlx : ∀ x ∈ labels, x.length ≤ 4000000) (p0 p1 p2 : Value) (out : Nat → Str → Str) (ho : ∀ i b, b.length ≤ (out i b).length)
    (hC : ∀ k bs1 w1, k < labels.length → bs.length < bs1.length → WD wS.heap.size b bs1 w1 → Below wS.heap.size w w1 → Keeps w w1 → Calls Tryd.prog 51 #[.int .i64 (k : Nat), p0, p1, p2] w1 fun e w' => e = .returned (.tuple #[]) ∧ WD wS.heap.size b (out k bs1) w' ∧ Below wS.heap.size w1 w' ∧ Keeps w1 w') :
    Calls Tryd.prog 50 #[.pointer (some ⟨b, 0, none⟩), .slice LA labels.length lc, .func (.func 51) #[] #[p0, p1, p2]] w fun e w' => e = .returned (.tuple #[]) ∧ WD wS.heap.size b (fieldsS out bs labels) w' ∧ Below wS.heap.size w w' ∧ Keeps w w' := by
  have HC := Lib.hid hC
  have HO := Lib.hid ho
  have HX := Lib.hid hlx
  have HBB := Lib.hid hB
  have hb0 : bs.length + 1 ≤ (say1 bs [123]).length := by unfold say1; rw [List.length_append, List.length_take]; simp; omega
  have HB0 := Lib.hid hb0
  have HD := Lib.hid (Say_new h hB.size [[123]] 1 rfl #[.string ⟨#[123]⟩] rfl (by decide) (by intro x hx; simp at hx; subst hx; decide))
  clear h hB hr hC ho hlx hb0
  go_enter Tryd.func50, Tryd.ntmps50
  go_upto_region 2 with (go_at_call 47; (with_reducible refine HD.out.mono ?_); rintro e1 w1 ⟨rfl, hd, hb, hk⟩; have HP := Lib.hid (And.intro hd (And.intro hb hk)); clear hd hb hk)
  go_loopw [6, 7, 13] (fun _ _ i wr => ∃ k : Nat, i = .int .i64 k ∧ k ≤ labels.length ∧ WD wS.heap.size b (fldF out 0 (say1 bs [123]) (labels.take k)) wr ∧ Below wS.heap.size w wr ∧ Keeps w wr) (fun _ _ i _ => labels.length - (intOf i).toNat)
  case atStart => exact ⟨0, rfl, Nat.zero_le _, HP.out⟩
  case round =>
    obtain ⟨k, rfl, hk, hwd, hbr, hkp⟩ := hrel
    have HR := Lib.hid (And.intro hwd (And.intro hbr hkp))
    obtain ⟨acc, hacc⟩ : ∃ acc, fldF out 0 (say1 bs [123]) (labels.take k) = acc := ⟨_, rfl⟩
    have hge : (say1 bs [123]).length ≤ acc.length := by rw [← hacc]; exact fldF_ge HO.out _ _ _
    have HGE := Lib.hid hge
    rw [hacc] at HR hwd
    by_cases hlt : k < labels.length
    · have HF := Lib.hid (Full_any hwd)
      obtain ⟨x, hx⟩ : ∃ x, labels[k]? = some x := ⟨_, List.getElem?_eq_getElem hlt⟩
      have HN := Lib.hid (show fldF out 0 (say1 bs [123]) (labels.take (k + 1)) = stpF out k acc x from by
        obtain ⟨h1, h2⟩ := List.getElem?_eq_some_iff.1 hx
        rw [List.take_succ_eq_append_getElem h1, h2, fldF_snoc, hacc, List.length_take, Nat.min_eq_left (Nat.le_of_lt h1), Nat.zero_add])
      have HFU := Lib.hid (show acc.length = 2000 → fieldsS out bs labels = acc from fun q => by
        unfold fieldsS
        rw [show labels = labels.take k ++ labels.drop k from (List.take_append_drop k labels).symm, fldF_app, hacc, fldF_full out _ _ _ q, say1_full q])
      have hbW : Below wS.heap.size wS wr := HBB.out.trans hbr
      obtain ⟨lb, lo, rfl, hlc⟩ := (hL.below hbW).str (k := k) hlt
      have hc := hlc k hlt
      rw [show labels[k] = x from (List.getElem?_eq_some_iff.1 hx).2] at hc
      have HXL := Lib.hid (HX.out x (List.mem_of_getElem? hx))
      have HK := Lib.hid (show k + 1 ≤ labels.length from hlt)
      have i1 : (k : Int) < (labels.length : Int) := by omega
      have i0 : (0 : Int) ≤ (k : Int) := by omega
      have i2 : (labels.length : Int) ≤ 100000000000 := by omega
      clear hwd hbr hkp hacc hge hbW hlc hx
      by_cases q : acc.length = 2000
      · rw [decide_eq_true q] at HF
        have HE := Lib.hid (HFU.out q)
        clear q
        go_wp2_with (go_at_call 46; (with_reducible refine HF.out.mono ?_); rintro e1 w1 ⟨rfl, rfl⟩)
        go_returns
        exact ⟨rfl, by rw [HE.out]; exact HR.out.1, HR.out.2⟩
      · rw [decide_eq_false q] at HF
        by_cases k0 : 0 < k
        · have j1 : (0 : Int) < (k : Int) := by omega
          have HSX := Lib.hid (show stpF out k acc x = out k (sayL (sayL acc [[44, 32]]) [x, [32, 61, 32]]) from by unfold stpF; rw [if_neg q, if_pos k0])
          have HD3 := Lib.hid (Say_new HR.out.1 (Nat.le_trans HBB.out.size HR.out.2.1.size) [[44, 32]] 1 rfl #[.string ⟨#[44, 32]⟩] rfl (by decide) (by intro x hx; simp at hx; subst hx; decide))
          have HLT := Lib.hid (show bs.length < (sayL (sayL acc [[44, 32]]) [x, [32, 61, 32]]).length from Nat.lt_of_lt_of_le (Nat.lt_of_lt_of_le (Nat.lt_of_lt_of_le (Nat.lt_succ_self _) HB0.out) HGE.out) (Nat.le_trans (sayL_ge _ _) (sayL_ge _ _)))
          clear q k0
          go_upto_region 7 with (first | (go_at_call 46; (with_reducible refine HF.out.mono ?_); rintro e1 w1 ⟨rfl, rfl⟩) | (go_at_call 47; (with_reducible refine HD3.out.mono ?_); rintro e1 w_HP2 ⟨rfl, hd, hb, hk⟩; have HP2 := Lib.hid (And.intro hd (And.intro (HR.out.2.1.trans hb) (HR.out.2.2.trans hk))); clear hd hb hk))
          have HD5 := Lib.hid (Say_new HP2.out.1 (Nat.le_trans HBB.out.size HP2.out.2.1.size) [x, [32, 61, 32]] 2 rfl #[.string (bstr x), .string ⟨#[32, 61, 32]⟩] rfl (by simp) (by intro y hy; simp at hy; rcases hy with rfl | rfl; exact HXL.out; decide))
          go_upto_region 8 with (go_at_call 47; (with_reducible refine HD5.out.mono ?_); rintro e1 w_HP3 ⟨rfl, hd, hb, hk⟩; have HP3 := Lib.hid (And.intro hd (And.intro (HP2.out.2.1.trans hb) (HP2.out.2.2.trans hk))); clear hd hb hk)
          have HD4 := Lib.hid (HC.out k _ w_HP3 HK.out HLT.out HP3.out.1 HP3.out.2.1 HP3.out.2.2)
          go_wp2_with (go_at_call 51; (with_reducible refine HD4.out.mono ?_); rintro e1 w4 ⟨rfl, hd, hb, hk⟩; have HP4 := Lib.hid (And.intro hd (And.intro (HP3.out.2.1.trans hb) (HP3.out.2.2.trans hk))); clear hd hb hk)
          go_roundw
          case rel => exact ⟨k + 1, by go_num, HK.out, by rw [HN.out, HSX.out]; exact HP4.out.1, HP4.out.2⟩
          case measure => simp [intOf] <;> omega
        · have hk0 : k = 0 := by omega
          have j1 : ¬ (0 : Int) < (k : Int) := by omega
          have HSX := Lib.hid (show stpF out k acc x = out k (sayL acc [x, [32, 61, 32]]) from by unfold stpF; rw [if_neg q, if_neg k0])
          have HLT := Lib.hid (show bs.length < (sayL acc [x, [32, 61, 32]]).length from Nat.lt_of_lt_of_le (Nat.lt_of_lt_of_le (Nat.lt_of_lt_of_le (Nat.lt_succ_self _) HB0.out) HGE.out) (sayL_ge _ _))
          clear q k0 hk0
          go_upto_region 7 with (go_at_call 46; (with_reducible refine HF.out.mono ?_); rintro e1 w1 ⟨rfl, rfl⟩)
          have HD5 := Lib.hid (Say_new HR.out.1 (Nat.le_trans HBB.out.size HR.out.2.1.size) [x, [32, 61, 32]] 2 rfl #[.string (bstr x), .string ⟨#[32, 61, 32]⟩] rfl (by simp) (by intro y hy; simp at hy; rcases hy with rfl | rfl; exact HXL.out; decide))
          go_upto_region 8 with (go_at_call 47; (with_reducible refine HD5.out.mono ?_); rintro e1 w_HP3 ⟨rfl, hd, hb, hk⟩; have HP3 := Lib.hid (And.intro hd (And.intro (HR.out.2.1.trans hb) (HR.out.2.2.trans hk))); clear hd hb hk)
          have HD4 := Lib.hid (HC.out k _ w_HP3 HK.out HLT.out HP3.out.1 HP3.out.2.1 HP3.out.2.2)
          go_wp2_with (go_at_call 51; (with_reducible refine HD4.out.mono ?_); rintro e1 w4 ⟨rfl, hd, hb, hk⟩; have HP4 := Lib.hid (And.intro hd (And.intro (HP3.out.2.1.trans hb) (HP3.out.2.2.trans hk))); clear hd hb hk)
          go_roundw
          case rel => exact ⟨k + 1, by go_num, HK.out, by rw [HN.out, HSX.out]; exact HP4.out.1, HP4.out.2⟩
          case measure => simp [intOf] <;> omega
    · obtain rfl : k = labels.length := by omega
      have HD2 := Lib.hid (Say_new HR.out.1 (Nat.le_trans HBB.out.size HR.out.2.1.size) [[125]] 1 rfl #[.string ⟨#[125]⟩] rfl (by decide) (by intro x hx; simp at hx; subst hx; decide))
      have HE := Lib.hid (show sayL acc [[125]] = fieldsS out bs labels from by rw [← hacc, List.take_length]; rfl)
      clear hwd hbr hkp hacc hge
      go_wp2_with (go_at_call 47; (with_reducible refine HD2.out.mono ?_); rintro e1 w2 ⟨rfl, hd, hb, hk⟩; have HP2 := Lib.hid (And.intro hd (And.intro (HR.out.2.1.trans hb) (HR.out.2.2.trans hk))); clear hd hb hk)
      go_returns
      exact ⟨rfl, by rw [← HE.out]; exact HP2.out.1, HP2.out.2⟩
end Go.Proofs.YtjmgnohepoacbaaDoor

namespace Go.Proofs.YtjmgnohepoacbaaDoor
open Go Go.ChangeShapes Go.WideShapes Go.ChangeAt Go.RowKit Go.Sort
set_option linter.unusedVariables false
set_option linter.unusedSimpArgs false

def St.done (s : St) : Prop := s.err ≠ 0 ∨ (s.next = none ∧ s.frames = [])
def St.step (s : St) : St :=
  if s.err ≠ 0 then s else
  match s.next with
  | some (e, env) => if s.fuel ≤ 0 then { s with err := 8 } else St.begin { s with fuel := s.fuel - 1, next := none } e env
  | none => match s.frames.reverse with
    | [] => s
    | x :: fr => s.goOn fr.reverse x (s.vals.drop x.base)
/-- Expressions as they come. -/
inductive ExG : Ex → Prop
  | mk (d : ExD) (l : List Ex) (n : -9223372036854775808 ≤ d.n ∧ d.n ≤ 9223372036854775807) (s : d.s.length ≤ 4000000) (pl : l.length = d.pn) (pm : d.pn ≤ 4000000) (nl : d.names.length = d.nn) (ll : d.labels.length = d.ln) (lm : d.ln ≤ 4000000) (ls : ∀ x ∈ d.labels, x.length ≤ 4000000) (sub : ∀ x ∈ l, ExG x) : ExG (.mk d l)
theorem ExG.sub_ {e : Ex} (h : ExG e) : ∀ x ∈ e.l, ExG x := by cases h; assumption
theorem ExG.get {e x : Ex} {k : Nat} (h : ExG e) (hk : e.l[k]? = some x) : ExG x := h.sub_ x (List.mem_of_getElem? hk)
theorem ExG.len {e : Ex} (h : ExG e) : e.l.length = e.d.pn := by cases h; assumption
theorem ExG.pm_ {e : Ex} (h : ExG e) : e.d.pn ≤ 4000000 := by cases h; assumption
theorem ExG.nam {e : Ex} (h : ExG e) : e.d.names.length = e.d.nn := by cases h; assumption
theorem ExG.lab {e : Ex} (h : ExG e) : e.d.labels.length = e.d.ln ∧ e.d.ln ≤ 4000000 := by cases h; exact ⟨by assumption, by assumption⟩
theorem ExG.labs {e : Ex} (h : ExG e) : ∀ x ∈ e.d.labels, x.length ≤ 4000000 := by cases h; assumption
theorem ExG.num {e : Ex} (h : ExG e) : -9223372036854775808 ≤ e.d.n ∧ e.d.n ≤ 9223372036854775807 := by cases h; assumption
theorem ExG.txt {e : Ex} (h : ExG e) : e.d.s.length ≤ 4000000 := by cases h; assumption
/-- Values as they run: R references, no row longer than A, no deeper than the number. -/
inductive VG (R A : Nat) : Nat → Val → Prop
  | mk (D : Nat) (sort n : Int) (s : Str) (labels : List Str) (l : List Val) (f : Option Fnc) (h0 : 1 ≤ sort ∧ sort ≤ 6) (h3 : sort = 3 → f ≠ none) (h5 : sort = 5 → l.length = 1) (h6 : sort = 6 → ∃ k : Nat, n = k ∧ k < R) (hs : s.length ≤ 4000000) (hn : -9223372036854775808 ≤ n ∧ n ≤ 9223372036854775807) (hl : l.length ≤ A ∧ labels.length ≤ A) (h4 : sort = 4 → labels.length = l.length) (hx : ∀ x ∈ labels, x.length ≤ 4000000)
      (sub : ∀ v ∈ l, VG R A D v) (fe : ∀ self isRec a part env, f = some (.mk self isRec a part env) → ExG part) (fn : ∀ self isRec a part env, f = some (.mk self isRec a part env) → ∀ p ∈ env, VG R A (D + 1) p.2) : VG R A (D + 1) (.mk sort n s labels l f)
theorem VG.mono {R A R' A' : Nat} (hR : R ≤ R') (hA : A ≤ A') {D : Nat} {z : Val} (h : VG R A D z) : ∀ D', D ≤ D' → VG R' A' D' z := by
  induction h with
  | mk D sort n s labels l f h0 h3 h5 h6 hs hn hl h4 hx sub fe fn ih1 ih2 =>
    intro D' hD
    obtain ⟨D'', rfl⟩ : ∃ D'', D' = D'' + 1 := ⟨D' - 1, by omega⟩
    exact .mk D'' sort n s labels l f h0 h3 h5 (fun q => by obtain ⟨k, k1, k2⟩ := h6 q; exact ⟨k, k1, by omega⟩) hs hn ⟨by omega, by omega⟩ h4 hx (fun v hv => ih1 v hv D'' (by omega)) fe (fun self isRec a part env hf p hp => ih2 self isRec a part env hf p hp (D'' + 1) (by omega))
theorem VG.zero {R A : Nat} {z : Val} (h : VG R A 0 z) : False := by cases h
section
variable {R A D : Nat} {z : Val}
theorem VG.sort_ (h : VG R A D z) : 1 ≤ z.sort ∧ z.sort ≤ 6 := by cases h; assumption
theorem VG.fn_ (h : VG R A D z) : z.sort = 3 → z.f ≠ none := by cases h; assumption
theorem VG.tag_ (h : VG R A D z) : z.sort = 5 → z.l.length = 1 := by cases h; assumption
theorem VG.ref_ (h : VG R A D z) : z.sort = 6 → ∃ k : Nat, z.n = k ∧ k < R := by cases h; assumption
theorem VG.txt_ (h : VG R A D z) : z.s.length ≤ 4000000 := by cases h; assumption
theorem VG.num_ (h : VG R A D z) : -9223372036854775808 ≤ z.n ∧ z.n ≤ 9223372036854775807 := by cases h; assumption
theorem VG.len_ (h : VG R A D z) : z.l.length ≤ A ∧ z.labels.length ≤ A := by cases h; assumption
theorem VG.tup_ (h : VG R A D z) : z.sort = 4 → z.labels.length = z.l.length := by cases h; assumption
theorem VG.labs_ (h : VG R A D z) : ∀ x ∈ z.labels, x.length ≤ 4000000 := by cases h; assumption
theorem VG.subs (h : VG R A (D + 1) z) : ∀ v ∈ z.l, VG R A D v := by cases h; assumption
theorem VG.subs' (h : VG R A D z) : ∀ v ∈ z.l, VG R A D v := by
  intro v hv
  cases h with
  | mk D sort n s labels l f h0 h3 h5 h6 hs hn hl h4 hx sub fe fn => exact (sub v hv).mono (Nat.le_refl _) (Nat.le_refl _) _ (Nat.le_succ D)
theorem VG.clo (h : VG R A D z) {self : Str} {isRec : Bool} {a : Str} {part : Ex} {env : Env} (hf : z.f = some (.mk self isRec a part env)) : ExG part ∧ ∀ p ∈ env, VG R A D p.2 := by
  cases h with
  | mk D sort n s labels l f h0 h3 h5 h6 hs hn hl h4 hx sub fe fn => exact ⟨fe self isRec a part env hf, fn self isRec a part env hf⟩
end
/-- A value without parts. -/
theorem VG.plain {R A : Nat} (D : Nat) (sort n : Int) (s : Str) (h0 : 1 ≤ sort ∧ sort ≤ 6) (h3 : sort ≠ 3 ∧ sort ≠ 5) (h6 : sort = 6 → ∃ k : Nat, n = k ∧ k < R) (hs : s.length ≤ 4000000) (hn : -9223372036854775808 ≤ n ∧ n ≤ 9223372036854775807) : VG R A (D + 1) (.mk sort n s [] [] none) :=
  .mk D sort n s [] [] none h0 (fun q => absurd q h3.1) (fun q => absurd q h3.2) h6 hs hn ⟨Nat.zero_le _, Nat.zero_le _⟩ (fun _ => rfl) (fun x hx => by cases hx) (fun v hv => by cases hv) (fun self isRec a part env hf => by cases hf) (fun self isRec a part env hf => by cases hf)
theorem VG.tuple {R A : Nat} (D : Nat) (labels : List Str) (l : List Val) (hl : labels.length = l.length) (hA : l.length ≤ A) (hx : ∀ x ∈ labels, x.length ≤ 4000000) (hv : ∀ v ∈ l, VG R A D v) : VG R A (D + 1) (.mk 4 0 [] labels l none) :=
  .mk D 4 0 [] labels l none (by decide) (fun q => by cases q) (fun q => by cases q) (fun q => by cases q) (by decide) (by decide) ⟨hA, by omega⟩ (fun _ => hl) hx hv (fun self isRec a part env hf => by cases hf) (fun self isRec a part env hf => by cases hf)
theorem VG.clos {R A : Nat} (D : Nat) {self : Str} {isRec : Bool} {a : Str} {part : Ex} {env : Env} (he : ExG part) (hv : ∀ p ∈ env, VG R A (D + 1) p.2) : VG R A (D + 1) (.mk 3 0 [] [] [] (some (.mk self isRec a part env))) :=
  .mk D 3 0 [] [] [] _ (by decide) (fun _ q => by cases q) (fun q => by cases q) (fun q => by cases q) (by decide) (by decide) ⟨Nat.zero_le _, Nat.zero_le _⟩ (fun q => by cases q) (fun x hx => by cases hx) (fun v hv => by cases hv) (fun self isRec a part env hf => by cases hf; exact he) (fun self isRec a part env hf p hp => by cases hf; exact hv p hp)
/-- What the values, and the expressions, are: T steps behind the start. -/
structure Dat (T : Nat) (s : St) : Prop where
  vals : ∀ z ∈ s.vals, VG s.refs.length (4000000 + T) (T + 1) z
  refs : ∀ z ∈ s.refs, VG s.refs.length (4000000 + T) (T + 1) z
  frames : ∀ x ∈ s.frames, GoodF x ∧ ExG x.e ∧ ∀ p ∈ x.env, VG s.refs.length (4000000 + T) (T + 1) p.2
  next : ∀ e env, s.next = some (e, env) → ExG e ∧ ∀ p ∈ env, VG s.refs.length (4000000 + T) (T + 1) p.2
  nv : s.vals.length ≤ T
  nr : s.refs.length ≤ T
  nf : s.frames.length ≤ T
  nt : s.trace.length ≤ T
  ni : s.input.length ≤ 90000000000
theorem VG.up {R A T T' : Nat} {z : Val} (h : VG R A (T + 1) z) (hT : T ≤ T') : VG R A (T' + 1) z := h.mono (Nat.le_refl _) (Nat.le_refl _) _ (by omega)
theorem vg_next {R T : Nat} {z : Val} (h : VG R (4000000 + T) (T + 1) z) : VG R (4000000 + (T + 1)) (T + 1 + 1) z := h.mono (Nat.le_refl _) (by omega) _ (by omega)
theorem vg_next' {R R' T : Nat} {z : Val} (h : VG R (4000000 + T) (T + 1) z) (hR : R ≤ R') : VG R' (4000000 + (T + 1)) (T + 1 + 1) z := h.mono hR (by omega) _ (by omega)
theorem Dat.up {T : Nat} {s : St} (h : Dat T s) : Dat (T + 1) s :=
  ⟨fun z hz => vg_next (h.vals z hz), fun z hz => vg_next (h.refs z hz), fun x hx => ⟨(h.frames x hx).1, (h.frames x hx).2.1, fun p hp => vg_next ((h.frames x hx).2.2 p hp)⟩, fun e env hn => ⟨(h.next e env hn).1, fun p hp => vg_next ((h.next e env hn).2 p hp)⟩, Nat.le_succ_of_le h.nv, Nat.le_succ_of_le h.nr, Nat.le_succ_of_le h.nf, Nat.le_succ_of_le h.nt, h.ni⟩
/-- What a step that ends no expression that waits leaves: a value more, or what is begun next, or an end. -/
structure Out (T : Nat) (s s' : St) : Prop where
  dat : Dat (T + 1) s'
  frames : s'.frames = s.frames
  fuel : s'.fuel = s.fuel
  out : s'.err ≠ 0 ∨ (s'.err = 0 ∧ s'.next = none ∧ s'.vals.length = s.vals.length + 1) ∨ (s'.err = 0 ∧ s'.next ≠ none ∧ s'.vals.length = s.vals.length)
section
variable {T : Nat} {s : St}
theorem Dat.stuck (h : Dat T s) (k : Int) (hk : k ≠ 0) : Out T s { s with err := k } :=
  ⟨⟨h.up.vals, h.up.refs, h.up.frames, h.up.next, h.up.nv, h.up.nr, h.up.nf, h.up.nt, h.up.ni⟩, rfl, rfl, .inl hk⟩
theorem Dat.fault (h : Dat T s) (k m : Int) (hk : k ≠ 0) : Out T s { s with err := k, fault := m } :=
  ⟨⟨h.up.vals, h.up.refs, h.up.frames, h.up.next, h.up.nv, h.up.nr, h.up.nf, h.up.nt, h.up.ni⟩, rfl, rfl, .inl hk⟩
theorem Dat.told (h : Dat T s) (h0 : s.err = 0) (hn : s.next = none) {z : Val} (hz : VG s.refs.length (4000000 + (T + 1)) (T + 1 + 1) z) : Out T s { s with vals := s.vals ++ [z] } :=
  ⟨⟨fun y hy => by
      rcases List.mem_append.1 hy with q | q
      · exact h.up.vals y q
      · rw [List.mem_singleton.1 q]; exact hz, h.up.refs, h.up.frames, h.up.next, by show (s.vals ++ [z]).length ≤ _; rw [List.length_append]; exact Nat.succ_le_succ h.nv, h.up.nr, h.up.nf, h.up.nt, h.up.ni⟩, rfl, rfl, .inr (.inl ⟨h0, hn, by show (s.vals ++ [z]).length = _; rw [List.length_append]; rfl⟩)⟩
theorem Dat.nexted (h : Dat T s) (h0 : s.err = 0) {e : Ex} {env : Env} (he : ExG e) (hv : ∀ p ∈ env, VG s.refs.length (4000000 + (T + 1)) (T + 1 + 1) p.2) : Out T s { s with next := some (e, env) } :=
  ⟨⟨h.up.vals, h.up.refs, h.up.frames, fun e' env' q => by injection q with q; injection q with q1 q2; subst q1 q2; exact ⟨he, hv⟩, h.up.nv, h.up.nr, h.up.nf, h.up.nt, h.up.ni⟩, rfl, rfl, .inr (.inr ⟨h0, by simp, rfl⟩)⟩
theorem env_cons {R A D : Nat} {env : Env} {x : Str} {z : Val} (hz : VG R A D z) (h : ∀ p ∈ env, VG R A D p.2) : ∀ p ∈ (x, z) :: env, VG R A D p.2 := by
  intro p hp
  rcases List.mem_cons.1 hp with rfl | q
  · exact hz
  · exact h p q
theorem env_next {R T : Nat} {env : Env} (h : ∀ p ∈ env, VG R (4000000 + T) (T + 1) p.2) : ∀ p ∈ env, VG R (4000000 + (T + 1)) (T + 1 + 1) p.2 := fun p hp => vg_next (h p hp)
theorem Dat.tell (h : Dat T s) (h0 : s.err = 0) (hn : s.next = none) {z : Val} (k : Int) (is : Bool) (hz : is = true → k = 0 → VG s.refs.length (4000000 + (T + 1)) (T + 1 + 1) z) : Out T s (s.tell z k is) := by
  unfold St.tell
  split
  · rename_i hi
    split
    · rename_i hk
      exact h.told h0 hn (hz hi hk)
    · exact h.fault 9 _ (by decide)
  · exact h.stuck 11 (by decide)
theorem Dat.name (h : Dat T s) (h0 : s.err = 0) (hn : s.next = none) (x : Str) (env : Env) (hv : ∀ p ∈ env, VG s.refs.length (4000000 + T) (T + 1) p.2) : Out T s (s.name x env) := by
  induction env with
  | nil => exact h.stuck 11 (by decide)
  | cons p env ih =>
    obtain ⟨y, z⟩ := p
    unfold St.name
    split
    · exact h.told h0 hn (vg_next (hv (y, z) (List.mem_cons_self ..)))
    · exact ih (fun p hp => hv p (List.mem_cons_of_mem _ hp))
theorem Dat.ifd (h : Dat T s) (h0 : s.err = 0) (z : Val) {e1 e2 : Ex} {env : Env} (h1 : ExG e1) (h2 : ExG e2) (hv : ∀ p ∈ env, VG s.refs.length (4000000 + T) (T + 1) p.2) : Out T s (s.ifd z e1 e2 env) := by
  unfold St.ifd
  split
  · split
    · exact h.nexted h0 h2 (env_next hv)
    · exact h.nexted h0 h1 (env_next hv)
  · exact h.stuck 11 (by decide)
theorem Dat.call (h : Dat T s) (h0 : s.err = 0) {z y : Val} (hz : VG s.refs.length (4000000 + T) (T + 1) z) (hy : VG s.refs.length (4000000 + T) (T + 1) y) : Out T s (s.call z y) := by
  unfold St.call
  split
  · rename_i hs
    split
    · rename_i self isRec x part env hf
      obtain ⟨g1, g2⟩ := hz.clo hf
      refine h.nexted h0 g1 (env_cons (vg_next hy) ?_)
      cases isRec with
      | true => exact env_cons (vg_next hz) (env_next g2)
      | false => exact env_next g2
    · rename_i hf
      exact absurd hf (hz.fn_ hs)
  · exact h.stuck 11 (by decide)
theorem lineOf_len (l : List Str) : (lineOf l).1.length ≤ 2000 ∧ (lineOf l).2.1.length ≤ l.length := by
  cases l with
  | nil => exact ⟨by decide, Nat.le_refl _⟩
  | cons x l =>
    by_cases hx : 2000 < x.length
    · rw [show lineOf (x :: l) = ([], [], 2) from if_pos hx]
      exact ⟨by decide, Nat.zero_le _⟩
    · rw [show lineOf (x :: l) = (x, l, 0) from if_neg hx]
      exact ⟨Nat.le_of_not_lt hx, Nat.le_succ _⟩
theorem Dat.read (h : Dat T s) (h0 : s.err = 0) (hn : s.next = none) : Out T s s.read := by
  have hl := lineOf_len s.input
  have h' : Dat T { s with input := (lineOf s.input).2.1 } := ⟨h.vals, h.refs, h.frames, h.next, h.nv, h.nr, h.nf, h.nt, Nat.le_trans hl.2 h.ni⟩
  have := h'.tell h0 hn (z := .mk 2 0 (lineOf s.input).1 [] [] none) (lineOf s.input).2.2 true (fun _ _ => VG.plain _ 2 0 _ (by decide) (by decide) (fun q => by cases q) (by omega) (by decide))
  exact ⟨this.dat, this.frames, this.fuel, this.out⟩
theorem Dat.print (h : Dat T s) (h0 : s.err = 0) (hn : s.next = none) (z : Val) : Out T s (s.print z) := by
  unfold St.print
  split
  · have := h.told h0 hn (z := .mk 4 0 [] [] [] none) (VG.plain _ 4 0 [] (by decide) (by decide) (fun q => by cases q) (by decide) (by decide))
    exact ⟨⟨this.dat.vals, this.dat.refs, this.dat.frames, this.dat.next, this.dat.nv, this.dat.nr, this.dat.nf, by show (s.trace ++ [z.s]).length ≤ _; rw [List.length_append]; exact Nat.succ_le_succ h.nt, this.dat.ni⟩, rfl, rfl, this.out⟩
  · exact h.stuck 11 (by decide)
theorem Dat.ref (h : Dat T s) (h0 : s.err = 0) (hn : s.next = none) {z : Val} (hz : VG s.refs.length (4000000 + T) (T + 1) z) (hT : T ≤ 90000000000) : Out T s { s with refs := s.refs ++ [z], vals := s.vals ++ [.mk 6 s.refs.length [] [] [] none] } := by
  have hR : (s.refs ++ [z]).length = s.refs.length + 1 := by rw [List.length_append]; rfl
  have hnr := h.nr
  refine ⟨⟨fun y hy => ?_, fun y hy => ?_, fun x hx => ⟨(h.frames x hx).1, (h.frames x hx).2.1, fun p hp => ?_⟩, fun e env q => ⟨(h.next e env q).1, fun p hp => ?_⟩, ?_, ?_, Nat.le_succ_of_le h.nf, Nat.le_succ_of_le h.nt, h.ni⟩, rfl, rfl, .inr (.inl ⟨h0, hn, by show (s.vals ++ [_]).length = _; rw [List.length_append]; rfl⟩)⟩
  · show VG (s.refs ++ [z]).length _ _ y
    rw [hR]
    rcases List.mem_append.1 hy with q | q
    · exact vg_next' (h.vals y q) (Nat.le_succ _)
    · rw [List.mem_singleton.1 q]
      exact VG.plain _ 6 _ [] (by decide) (by decide) (fun _ => ⟨s.refs.length, rfl, Nat.lt_succ_self _⟩) (by decide) (by omega)
  · show VG (s.refs ++ [z]).length _ _ y
    rw [hR]
    rcases List.mem_append.1 hy with q | q
    · exact vg_next' (h.refs y q) (Nat.le_succ _)
    · rw [List.mem_singleton.1 q]; exact vg_next' hz (Nat.le_succ _)
  · show VG (s.refs ++ [z]).length _ _ p.2
    rw [hR]; exact vg_next' ((h.frames x hx).2.2 p hp) (Nat.le_succ _)
  · show VG (s.refs ++ [z]).length _ _ p.2
    rw [hR]; exact vg_next' ((h.next e env q).2 p hp) (Nat.le_succ _)
  · show (s.vals ++ [_]).length ≤ _; rw [List.length_append]; exact Nat.succ_le_succ h.nv
  · show (s.refs ++ [_]).length ≤ _; rw [List.length_append]; exact Nat.succ_le_succ h.nr
theorem Dat.get (h : Dat T s) (h0 : s.err = 0) (hn : s.next = none) {z : Val} (hz : VG s.refs.length (4000000 + T) (T + 1) z) : Out T s (s.get z) := by
  unfold St.get
  split
  · rename_i hs
    obtain ⟨k, k1, k2⟩ := hz.ref_ hs
    split
    · rename_i y hy
      exact h.told h0 hn (vg_next (h.refs y (List.mem_of_getElem? hy)))
    · rename_i hy
      rw [k1, Int.toNat_natCast, List.getElem?_eq_getElem k2] at hy
      cases hy
  · exact h.stuck 11 (by decide)
theorem Dat.set (h : Dat T s) (h0 : s.err = 0) (hn : s.next = none) (z : Val) {y : Val} (hy : VG s.refs.length (4000000 + T) (T + 1) y) : Out T s (s.set z y) := by
  unfold St.set
  split
  · have hR : (s.refs.set z.n.toNat y).length = s.refs.length := List.length_set
    have ht := h.told h0 hn (z := .mk 4 0 [] [] [] none) (VG.plain _ 4 0 [] (by decide) (by decide) (fun q => by cases q) (by decide) (by decide))
    refine ⟨⟨fun a ha => ?_, fun a ha => ?_, fun x hx => ⟨(h.frames x hx).1, (h.frames x hx).2.1, fun p hp => ?_⟩, fun e env q => ⟨(h.next e env q).1, fun p hp => ?_⟩, ht.dat.nv, ?_, Nat.le_succ_of_le h.nf, Nat.le_succ_of_le h.nt, h.ni⟩, rfl, rfl, ht.out⟩
    · show VG (s.refs.set z.n.toNat y).length _ _ a
      rw [hR]; exact ht.dat.vals a ha
    · show VG (s.refs.set z.n.toNat y).length _ _ a
      rw [hR]
      rcases List.mem_or_eq_of_mem_set ha with q | q
      · exact vg_next (h.refs a q)
      · rw [q]; exact vg_next hy
    · show VG (s.refs.set z.n.toNat y).length _ _ p.2
      rw [hR]; exact vg_next ((h.frames x hx).2.2 p hp)
    · show VG (s.refs.set z.n.toNat y).length _ _ p.2
      rw [hR]; exact vg_next ((h.next e env q).2 p hp)
    · show (s.refs.set z.n.toNat y).length ≤ _; rw [hR]; exact Nat.le_succ_of_le h.nr
  · exact h.stuck 11 (by decide)
theorem Dat.shw (h : Dat T s) (h0 : s.err = 0) (hn : s.next = none) {z : Val} (hz : VG s.refs.length (4000000 + T) (T + 1) z) : Out T s (s.shw z) :=
  h.tell h0 hn 0 _ (fun _ _ => VG.plain _ 2 0 _ (by decide) (by decide) (fun q => by cases q) (by have := itoa_len z.n hz.num_; omega) (by decide))
theorem joinOf_len (a b : Str) : (joinOf a b).1.length ≤ 2000 := by
  unfold joinOf
  split
  · decide
  · rename_i h; simp; omega
theorem byteOf_in (a : Str) (n : Int) : -9223372036854775808 ≤ (byteOf a n).1 ∧ (byteOf a n).1 ≤ 9223372036854775807 := by
  unfold byteOf
  split
  · decide
  · have := (a[n.toNat]?.getD 0).toNat_lt
    constructor <;> simp <;> omega
theorem wrap64_bounds (n : Int) : -9223372036854775808 ≤ wrap64 n ∧ wrap64 n ≤ 9223372036854775807 := by unfold wrap64; omega
theorem intsOf_in (s : Str) (a b : Int) : -9223372036854775808 ≤ (intsOf s a b).1 ∧ (intsOf s a b).1 ≤ 9223372036854775807 := by
  unfold intsOf
  repeat' split
  all_goals first
    | exact wrap64_bounds _
    | exact ⟨by decide, by decide⟩
theorem Dat.oper (h : Dat T s) (h0 : s.err = 0) (hn : s.next = none) (o : Str) (x y : Val) : Out T s (s.oper o x y) := by
  unfold St.oper
  split
  · exact h.tell h0 hn _ _ (fun _ _ => VG.plain _ 2 0 _ (by decide) (by decide) (fun q => by cases q) (by have := joinOf_len x.s y.s; omega) (by decide))
  split
  · exact h.tell h0 hn _ _ (fun _ _ => VG.plain _ 1 _ _ (by decide) (by decide) (fun q => by cases q) (by decide) (byteOf_in _ _))
  split
  · exact h.tell h0 hn _ _ (fun _ _ => VG.plain _ 1 _ _ (by decide) (by decide) (fun q => by cases q) (by decide) (intsOf_in _ _ _))
  · exact h.tell h0 hn _ _ (fun q => by cases q)
theorem Dat.tup (h : Dat T s) (h0 : s.err = 0) (hn : s.next = none) (labels : List Str) (l : List Val) (hlb : labels.length = l.length) (hx : ∀ x ∈ labels, x.length ≤ 4000000) (hl : ∀ z ∈ l, VG s.refs.length (4000000 + T) (T + 1) z) (hll : l.length ≤ 4000000 + T + 1) : Out T s { s with vals := s.vals ++ [.mk 4 0 [] labels l none] } :=
  h.told h0 hn (VG.tuple (T + 1) labels l hlb hll hx (fun v hv => (hl v hv).mono (Nat.le_refl _) (by omega) _ (Nat.le_refl _)))
theorem Dat.tag (h : Dat T s) (h0 : s.err = 0) (hn : s.next = none) (c : Str) (hc : c.length ≤ 4000000) {x : Val} (hx : VG s.refs.length (4000000 + T) (T + 1) x) : Out T s { s with vals := s.vals ++ [.mk 5 0 c [] [x] none] } :=
  h.told h0 hn (.mk (T + 1) 5 0 c [] [x] none (by decide) (fun q => by cases q) (fun _ => rfl) (fun q => by cases q) hc (by decide) ⟨by show 1 ≤ _; omega, Nat.zero_le _⟩ (fun q => by cases q) (fun x hx => by cases hx) (fun v hv => by rw [List.mem_singleton.1 hv]; exact hx.mono (Nat.le_refl _) (by omega) _ (Nat.le_refl _)) (fun self isRec a part env hf => by cases hf) (fun self isRec a part env hf => by cases hf))
theorem recT_mem (labels : List Str) (l : List Val) (ord : List Nat) (ho : ∀ i ∈ ord, i < labels.length) (hl : l.length = labels.length) : ∀ k, k ≤ ord.length → (∀ x ∈ (recT labels l ord k).1, x ∈ labels) ∧ ∀ v ∈ (recT labels l ord k).2, v ∈ l
  | 0, _ => ⟨fun x hx => (by cases hx), fun v hv => (by cases hv)⟩
  | k + 1, hk => by
    have ih := recT_mem labels l ord ho hl k (by omega)
    unfold recT
    split
    · exact ih
    · have hi : ord[k]?.getD 0 < labels.length := by
        rw [List.getElem?_eq_getElem (show k < ord.length by omega), Option.getD_some]
        exact ho _ (List.getElem_mem _)
      constructor
      · intro x hx
        rcases List.mem_append.1 hx with q | q
        · exact ih.1 x q
        · rw [List.mem_singleton.1 q, List.getElem?_eq_getElem hi, Option.getD_some]; exact List.getElem_mem _
      · intro v hv
        rcases List.mem_append.1 hv with q | q
        · exact ih.2 v q
        · rw [List.mem_singleton.1 q, List.getElem?_eq_getElem (show ord[k]?.getD 0 < l.length by omega), Option.getD_some]; exact List.getElem_mem _
theorem Dat.recd (h : Dat T s) (h0 : s.err = 0) (hn : s.next = none) (labels : List Str) (l : List Val) (hlb : l.length = labels.length) (hx : ∀ x ∈ labels, x.length ≤ 4000000) (hl : ∀ z ∈ l, VG s.refs.length (4000000 + T) (T + 1) z) (hll : labels.length ≤ 4000000) : Out T s { s with vals := s.vals ++ [recOf labels l] } := by
  have h1 := recT_len labels l (ordOf labels) labels.length
  have h2 := recT_mem labels l (ordOf labels) (ordOf_lt labels) hlb labels.length (by rw [ordOf_len]; exact Nat.le_refl _)
  exact h.tup h0 hn _ _ h1.1 (fun x q => hx x (h2.1 x q)) (fun v q => hl v (h2.2 v q)) (by have := h1.1; have := h1.2; omega)
theorem mem_cut {α : Type} {l : List α} {i j : Nat} {v : α} (h : v ∈ l.take i ++ l.drop j) : v ∈ l := by
  rcases List.mem_append.1 h with q | q
  · exact List.mem_of_mem_take q
  · exact List.mem_of_mem_drop q
theorem Dat.take (h : Dat T s) (h0 : s.err = 0) (hn : s.next = none) (k : Int) (x : Str) {z : Val} (hz : VG s.refs.length (4000000 + T) (T + 1) z) : Out T s (s.take k x z) := by
  unfold St.take
  split
  · rename_i hq
    have hlt := isS_lt hq.2
    have hln := hz.tup_ hq.1
    have hA := hz.len_
    split
    · rw [List.getElem?_eq_getElem (show atS z.labels x < z.l.length by omega), Option.getD_some]
      exact h.told h0 hn (vg_next (hz.subs' _ (List.getElem_mem _)))
    · exact h.tup h0 hn _ _ (by simp only [List.length_append, List.length_take, List.length_drop]; omega) (fun y q => hz.labs_ y (mem_cut q)) (fun v q => hz.subs' v (mem_cut q)) (by simp only [List.length_append, List.length_take, List.length_drop]; omega)
  · exact h.stuck 11 (by decide)
theorem mem_ins {α : Type} {l : List α} {i j : Nat} {y v : α} (h : v ∈ l.take i ++ [y] ++ l.drop j) : v = y ∨ v ∈ l := by
  rcases List.mem_append.1 h with q | q
  · rcases List.mem_append.1 q with q | q
    · exact .inr (List.mem_of_mem_take q)
    · exact .inl (List.mem_singleton.1 q)
  · exact .inr (List.mem_of_mem_drop q)
theorem Dat.putAt (h : Dat T s) (h0 : s.err = 0) (hn : s.next = none) (k j : Nat) (x : Str) (hx : x.length ≤ 4000000) {z y : Val} (hz : VG s.refs.length (4000000 + T) (T + 1) z) (hy : VG s.refs.length (4000000 + T) (T + 1) y) (hs : z.sort = 4) (hkj : k ≤ j ∧ j ≤ z.labels.length) : Out T s (s.putAt k j x z y) := by
  have hln := hz.tup_ hs
  have hA := hz.len_
  refine h.tup h0 hn _ _ (by simp only [List.length_append, List.length_take, List.length_drop, List.length_singleton]; omega) (fun y q => ?_) (fun v q => ?_) (by simp only [List.length_append, List.length_take, List.length_drop, List.length_singleton]; omega)
  · rcases mem_ins q with rfl | q
    · exact hx
    · exact hz.labs_ y q
  · rcases mem_ins q with rfl | q
    · exact hy
    · exact hz.subs' v q
theorem Dat.put (h : Dat T s) (h0 : s.err = 0) (hn : s.next = none) (k : Int) (x : Str) (hx : x.length ≤ 4000000) {z y : Val} (hz : VG s.refs.length (4000000 + T) (T + 1) z) (hy : VG s.refs.length (4000000 + T) (T + 1) y) : Out T s (s.put k x z y) := by
  unfold St.put
  split
  · rename_i hq
    have hle := atS_le z.labels x
    split
    · rename_i hi
      have hlt := isS_lt hi
      exact h.putAt h0 hn _ _ x hx hz hy hq.1 ⟨by omega, by omega⟩
    · exact h.putAt h0 hn _ _ x hx hz hy hq.1 ⟨Nat.le_refl _, hle⟩
  · exact h.stuck 11 (by decide)
end
end Go.Proofs.YtjmgnohepoacbaaDoor

namespace Go.Proofs.YtjmgnohepoacbaaDoor
open Go Go.ChangeShapes Go.WideShapes Go.ChangeAt Go.RowKit Go.Sort
set_option linter.unusedVariables false
set_option linter.unusedSimpArgs false

section
variable {T : Nat} {s : St}
theorem Dat.apply (h : Dat T s) (h0 : s.err = 0) (hn : s.next = none) (hT : T ≤ 90000000000) {e : Ex} (he : ExG e) (hk : partsOk e.d = true) {l : List Val} (hll : l.length = e.d.pn) (hl : ∀ z ∈ l, VG s.refs.length (4000000 + T) (T + 1) z)
    (q1 : ¬ (e.d.kind = 1 ∨ e.d.kind = 2 ∨ e.d.kind = 3 ∨ e.d.kind = 4 ∨ e.d.kind = 6 ∨ e.d.kind = 7 ∨ e.d.kind = 14 ∨ e.d.kind = 15 ∨ e.d.kind = 22)) : Out T s (s.apply e.d l) := by
  have hkk := partsKind hk
  unfold St.apply
  split
  · rename_i k8
    exact h.recd h0 hn _ l (hll.trans ((parts8 hk k8).trans he.lab.1.symm)) he.labs hl (by rw [he.lab.1]; exact he.lab.2)
  rename_i k8
  by_cases p1 : e.d.kind = 9 ∨ e.d.kind = 11 ∨ e.d.kind = 13 ∨ e.d.kind = 17 ∨ e.d.kind = 18 ∨ e.d.kind = 20 ∨ e.d.kind = 21
  · obtain ⟨x, rfl⟩ := len1 (hll.trans (parts1 hk (.inr p1)))
    have gx := hl x (List.mem_cons_self ..)
    show Out T s (s.apply1 e.d x)
    unfold St.apply1
    split
    · exact h.take h0 hn _ _ gx
    split
    · exact h.tag h0 hn _ he.txt gx
    split
    · exact h.ref h0 hn gx hT
    split
    · exact h.get h0 hn gx
    split
    · exact h.print h0 hn x
    · exact h.shw h0 hn gx
  · obtain ⟨x, y, rfl⟩ := len2 (hll.trans (parts2 hk (by omega)))
    have gx := hl x (List.mem_cons_self ..)
    have gy := hl y (List.mem_cons_of_mem _ (List.mem_cons_self ..))
    show Out T s (s.apply2 e.d x y)
    unfold St.apply2
    split
    · exact h.call h0 gx gy
    split
    · exact h.put h0 hn _ _ he.txt gy gx
    split
    · exact h.oper h0 hn _ x y
    · exact h.set h0 hn x gy
/-- How many values stand, where something is begun next: the frames, the last one first. -/
def Wt : List Frm → Nat → Prop
  | [], n => n = 0
  | x :: fr, n => x.base ≤ n ∧ n < x.base + limOf x.e.d ∧ Wt fr x.base
/-- How many values stand. -/
def Wf (fr : List Frm) (n : Nat) : Option (Ex × Env) → Prop
  | some _ => Wt fr n
  | none => match fr with
    | [] => n = 1
    | x :: fr => x.base ≤ n ∧ n ≤ x.base + limOf x.e.d ∧ Wt fr x.base
theorem wf_told {fr : List Frm} {n : Nat} (h : Wt fr n) : Wf fr (n + 1) none := by
  cases fr with
  | nil => show n + 1 = 1; have : n = 0 := h; omega
  | cons x fr => exact ⟨Nat.le_succ_of_le h.1, h.2.1, h.2.2⟩
structure Inv (T : Nat) (s : St) : Prop where
  dat : Dat T s
  wf : s.err = 0 → Wf s.frames.reverse s.vals.length s.next
theorem Out.inv {s' : St} (h : Out T s s') (hw : Wt s.frames.reverse s.vals.length) : Inv (T + 1) s' := by
  refine ⟨h.dat, fun he => ?_⟩
  rw [h.frames]
  rcases h.out with q | ⟨_, q1, q2⟩ | ⟨_, q1, q2⟩
  · exact absurd he q
  · rw [q1, q2]; exact wf_told hw
  · rw [q2]
    cases hn : s'.next with
    | none => exact absurd hn q1
    | some p => exact hw
/-- What is left to do. -/
def mu (s : St) : Nat := 3 * s.fuel.toNat + s.frames.length + (match s.next with | none => 2 | some _ => 1) + (if s.err = 0 then 1 else 0)
theorem mu_none {s : St} (h : s.next = none) (h0 : s.err = 0) : mu s = 3 * s.fuel.toNat + s.frames.length + 3 := by unfold mu; rw [h, if_pos h0]
theorem mu_some {s : St} (h : s.next ≠ none) (h0 : s.err = 0) : mu s = 3 * s.fuel.toNat + s.frames.length + 2 := by
  unfold mu
  rw [if_pos h0]
  cases hn : s.next with
  | none => exact absurd hn h
  | some p => rfl
theorem mu_err {s : St} (h0 : s.err ≠ 0) : mu s ≤ 3 * s.fuel.toNat + s.frames.length + 2 := by
  unfold mu
  rw [if_neg h0]
  cases s.next <;> simp
theorem mu_le (s : St) : mu s ≤ 3 * s.fuel.toNat + s.frames.length + 3 := by
  unfold mu
  have h1 : (match s.next with | none => 2 | some _ => 1) ≤ 2 := by cases s.next with | none => exact Nat.le_refl 2 | some p => exact Nat.le_succ 1
  have h2 : (if s.err = 0 then 1 else 0) ≤ 1 := by split <;> decide
  omega
structure Go (T : Nat) (s s' : St) : Prop where
  inv : Inv (T + 1) s'
  mu : mu s' < mu s
theorem Out.go1 {s1 s' : St} (h : Out T s1 s') (hw : Wt s1.frames.reverse s1.vals.length) (hlt : s1.frames.length < s.frames.length) (hf : s1.fuel = s.fuel) (h0 : s.err = 0) (hn : s.next = none) : Go T s s' := by
  refine ⟨h.inv hw, ?_⟩
  have h1 := mu_le s'
  rw [mu_none hn h0]
  rw [h.frames, h.fuel, hf] at h1
  omega
theorem Out.go2 {s' : St} (h : Out T s s') (hw : Wt s.frames.reverse s.vals.length) (hn' : s'.next ≠ none) (he : s'.err = 0) (h0 : s.err = 0) (hn : s.next = none) : Go T s s' := by
  refine ⟨h.inv hw, ?_⟩
  rw [mu_none hn h0, mu_some hn' he, h.frames, h.fuel]
  omega
theorem lim_pos {x : Frm} (h : GoodF x) (hk : x.e.d.kind ≠ 8) : 1 ≤ limOf x.e.d := by
  have h1 := partsKind h.parts
  have h2 := h.kind
  unfold limOf
  split
  · exact Nat.le_refl _
  · by_cases p1 : x.e.d.kind = 9 ∨ x.e.d.kind = 11 ∨ x.e.d.kind = 13 ∨ x.e.d.kind = 17 ∨ x.e.d.kind = 18 ∨ x.e.d.kind = 20 ∨ x.e.d.kind = 21
    · have := parts1 h.parts (.inr p1); omega
    · have := parts2 h.parts (by omega); omega
theorem Out.inv3 {s' : St} (h : Out T s s') (hw : Wt s.frames.reverse s.vals.length) : Inv (T + 1) s' ∧ s'.fuel = s.fuel ∧ s'.frames.length ≤ s.frames.length + 1 := ⟨h.inv hw, h.fuel, by rw [h.frames]; exact Nat.le_succ _⟩
theorem Dat.begin (h : Dat T s) (h0 : s.err = 0) (hn : s.next = none) (hw : Wt s.frames.reverse s.vals.length) {e : Ex} {env : Env} (he : ExG e) (hv : ∀ p ∈ env, VG s.refs.length (4000000 + T) (T + 1) p.2) : Inv (T + 1) (s.begin e env) ∧ (s.begin e env).fuel = s.fuel ∧ (s.begin e env).frames.length ≤ s.frames.length + 1 := by
  unfold St.begin
  split
  · exact (h.stuck 11 (by decide)).inv3 hw
  rename_i hk
  have hk' : partsOk e.d = true := by simpa using hk
  split
  · exact (h.told h0 hn (VG.plain _ 1 _ [] (by decide) (by decide) (fun q => by cases q) (by decide) he.num)).inv3 hw
  split
  · exact (h.told h0 hn (VG.plain _ 2 0 _ (by decide) (by decide) (fun q => by cases q) he.txt (by decide))).inv3 hw
  split
  · exact (h.name h0 hn _ env hv).inv3 hw
  split
  · rename_i k4
    obtain ⟨x, hx⟩ := len1 (he.len.trans (parts1 hk' (.inl k4)))
    rw [hx]
    exact (h.told h0 hn (VG.clos (T + 1) (he.sub_ x (by rw [hx]; exact List.mem_singleton_self x)) (fun p hp => vg_next (hv p hp)))).inv3 hw
  split
  · rename_i k7
    obtain ⟨x, y, hx⟩ := len2 (he.len.trans (parts2 hk' (.inr (.inr (.inl k7)))))
    rw [hx]
    exact (h.nexted h0 (he.sub_ y (by rw [hx]; simp)) (env_cons (VG.clos (T + 1) (he.sub_ x (by rw [hx]; simp)) (fun p hp => vg_next (hv p hp))) (env_next hv))).inv3 hw
  split
  · exact (h.read h0 hn).inv3 hw
  rename_i q1 q2 q3 q4 q7 q22
  have hg : GoodF ⟨e, env, s.vals.length⟩ := ⟨hk', by intro q; rcases q with q | q | q | q | q | q <;> exact absurd q (by assumption)⟩
  refine ⟨⟨⟨h.up.vals, h.up.refs, fun x hx => ?_, h.up.next, h.up.nv, h.up.nr, ?_, h.up.nt, h.up.ni⟩, fun _ => ?_⟩, rfl, by show (s.frames ++ [_]).length ≤ _; rw [List.length_append]; exact Nat.le_refl _⟩
  · rcases List.mem_append.1 hx with q | q
    · exact h.up.frames x q
    · rw [List.mem_singleton.1 q]; exact ⟨hg, he, env_next hv⟩
  · show (s.frames ++ [_]).length ≤ _; rw [List.length_append]; exact Nat.succ_le_succ h.nf
  · show Wf (s.frames ++ [_]).reverse s.vals.length s.next
    rw [hn, List.reverse_append]
    exact ⟨Nat.le_refl _, Nat.le_add_right _ _, hw⟩
theorem Dat.ended (h : Dat T s) {fs : List Frm} {x : Frm} (hx : s.frames = fs ++ [x]) : Dat T (s.ended fs x) :=
  ⟨fun z hz => h.vals z (List.mem_of_mem_take hz), h.refs, fun y hy => h.frames y (by rw [hx]; exact List.mem_append_left _ hy), h.next, by show (s.vals.take x.base).length ≤ _; rw [List.length_take]; have := h.nv; omega, h.nr, by show fs.length ≤ _; have := h.nf; rw [hx, List.length_append] at this; omega, h.nt, h.ni⟩
theorem Dat.choose (h : Dat T s) (h0 : s.err = 0) {e : Ex} {env : Env} (hk : partsOk e.d = true) (hkd : e.d.kind = 14) (he : ExG e) (hv : ∀ p ∈ env, VG s.refs.length (4000000 + T) (T + 1) p.2) {z : Val} (hz : VG s.refs.length (4000000 + T) (T + 1) z) :
    Out T s (s.choose e env z) := by
  have hpn := partsC hk hkd
  have hel := he.len
  have hnl := he.nam
  have hlb := he.lab.1
  unfold St.choose
  split
  · rename_i hs
    split
    · rename_i hlt
      obtain ⟨yx, hyx⟩ := get_some (l := e.l) (k := fnd e.d.labels z.s + 1) (by split at hpn <;> omega)
      obtain ⟨p, hp⟩ := len1 (hz.tag_ hs)
      rw [hyx, hp]
      exact h.nexted h0 (he.get hyx) (env_cons (vg_next (hz.subs' p (by rw [hp]; exact List.mem_singleton_self p))) (env_next hv))
    split
    · exact h.stuck 11 (by decide)
    · obtain ⟨yx, hyx⟩ := get_some (l := e.l) (k := e.l.length - 1) (by split at hpn <;> omega)
      rw [hyx]
      exact h.nexted h0 (he.get hyx) (env_cons (vg_next hz) (env_next hv))
  · exact h.stuck 11 (by decide)
theorem Dat.goOn (h : Dat T s) (h0 : s.err = 0) (hn : s.next = none) (hT : T ≤ 90000000000) {fs : List Frm} {x : Frm} (hx : s.frames = fs ++ [x]) (hbs : x.base ≤ s.vals.length) (hlim : s.vals.length ≤ x.base + limOf x.e.d) (hw : Wt fs.reverse x.base) : Go T s (s.goOn fs x (s.vals.drop x.base)) := by
  have hfl : (s.ended fs x).frames.length < s.frames.length := by show fs.length < _; rw [hx, List.length_append]; exact Nat.lt_succ_self _
  obtain ⟨hg, he, hv⟩ := h.frames x (by rw [hx]; simp)
  have hkind := hg.kind
  have hel := he.len
  have hend : (s.ended fs x).vals.length = x.base := by show (s.vals.take x.base).length = _; rw [List.length_take]; omega
  have hwE : Wt (s.ended fs x).frames.reverse (s.ended fs x).vals.length := by rw [hend]; exact hw
  have hll : (s.vals.drop x.base).length = s.vals.length - x.base := List.length_drop
  have hl : ∀ z ∈ s.vals.drop x.base, VG s.refs.length (4000000 + T) (T + 1) z := fun z hz => h.vals z (List.mem_of_mem_drop hz)
  generalize s.vals.drop x.base = l at hll hl
  unfold St.goOn
  split
  · rename_i q
    obtain ⟨z, rfl⟩ := len1 q.2
    exact ((h.ended hx).choose h0 hg.parts q.1 he hv (hl z (List.mem_singleton_self z))).go1 hwE hfl rfl h0 hn
  rename_i q14
  split
  · rename_i q
    obtain ⟨z, rfl⟩ := len1 q.2
    have hpn := parts2 hg.parts (.inr (.inl q.1))
    obtain ⟨y, hy⟩ := get_some (l := x.e.l) (k := 1) (by omega)
    rw [hy]
    exact ((h.ended hx).nexted h0 (he.get hy) (env_cons (vg_next (hl z (List.mem_singleton_self z))) (env_next hv))).go1 hwE hfl rfl h0 hn
  rename_i q6
  split
  · rename_i q
    obtain ⟨z, rfl⟩ := len1 q.2
    have hpn := parts3 hg.parts q.1
    obtain ⟨y, hy⟩ := get_some (l := x.e.l) (k := 1) (by omega)
    obtain ⟨y2, hy2⟩ := get_some (l := x.e.l) (k := 2) (by omega)
    rw [hy, hy2]
    exact ((h.ended hx).ifd h0 z (he.get hy) (he.get hy2) hv).go1 hwE hfl rfl h0 hn
  rename_i q15
  split
  · rename_i y hy
    refine (h.nexted h0 (he.get hy) (env_next hv)).go2 ?_ (by simp) h0 h0 hn
    rw [hx, List.reverse_append]
    have hlt := (List.getElem?_eq_some_iff.1 hy).1
    refine ⟨hbs, ?_, hw⟩
    unfold limOf at hlim ⊢
    split
    · rename_i k
      rw [if_pos k] at hlim
      have : ¬ l.length = 1 := fun q => by
        rcases k with k | k | k
        · exact q6 ⟨k, q⟩
        · exact q14 ⟨k, q⟩
        · exact q15 ⟨k, q⟩
      show s.vals.length < _
      omega
    · rename_i k
      rw [if_neg k] at hlim
      show s.vals.length < _
      omega
  · rename_i hy
    have hge : x.e.l.length ≤ l.length := by
      rcases Nat.lt_or_ge l.length x.e.l.length with q | q
      · rw [List.getElem?_eq_getElem q] at hy; cases hy
      · exact q
    have hkk := partsKind hg.parts
    have hk2 : ¬ (x.e.d.kind = 6 ∨ x.e.d.kind = 14 ∨ x.e.d.kind = 15) := by
      intro q
      have hl1 : limOf x.e.d = 1 := by unfold limOf; rw [if_pos q]
      have hl2 : l.length ≤ 1 := by omega
      rcases q with q | q | q
      · have := parts2 hg.parts (.inr (.inl q)); omega
      · have := partsC hg.parts q
        have h3 : l.length = 1 := by split at this <;> omega
        exact q14 ⟨q, h3⟩
      · have := parts3 hg.parts q; omega
    have hlim' : limOf x.e.d = x.e.d.pn := by unfold limOf; rw [if_neg hk2]
    exact ((h.ended hx).apply h0 hn hT he hg.parts (by omega) hl (by omega)).go1 hwE hfl rfl h0 hn
theorem Inv.step (h : Inv T s) (hd : ¬ s.done) (hT : T ≤ 90000000000) : Go T s s.step := by
  have h0 : s.err = 0 := by
    by_cases q : s.err = 0
    · exact q
    · exact absurd (.inl q) hd
  have hw := h.wf h0
  unfold St.step
  rw [if_neg (fun q => q h0)]
  cases hn : s.next with
  | some p =>
    obtain ⟨e, env⟩ := p
    rw [hn] at hw
    have hm := mu_some (s := s) (by rw [hn]; simp) h0
    simp only
    split
    · rw [← hn]
      refine ⟨⟨(h.dat.stuck 8 (by decide)).dat, fun q => absurd (show (8 : Int) = 0 from q) (by decide)⟩, ?_⟩

      show mu { s with err := 8 } < mu s
      unfold mu
      rw [if_pos h0, if_neg (show ¬ (8 : Int) = 0 by decide)]
      exact Nat.lt_succ_self _
    · rename_i hf
      obtain ⟨he, hv⟩ := h.dat.next e env hn
      obtain ⟨g1, g2, g3⟩ := Dat.begin (s := { s with fuel := s.fuel - 1, next := none }) ⟨h.dat.vals, h.dat.refs, h.dat.frames, (fun e env q => nomatch q), h.dat.nv, h.dat.nr, h.dat.nf, h.dat.nt, h.dat.ni⟩ h0 rfl hw he hv
      refine ⟨g1, ?_⟩
      have h1 := mu_le (St.begin { s with fuel := s.fuel - 1, next := none } e env)
      rw [g2] at h1
      have g3' : (St.begin { s with fuel := s.fuel - 1, next := none } e env).frames.length ≤ s.frames.length + 1 := g3
      have h2 : ({ s with fuel := s.fuel - 1, next := none } : St).fuel.toNat = s.fuel.toNat - 1 := by show (s.fuel - 1).toNat = _; omega
      rw [h2] at h1
      have h3 : 1 ≤ s.fuel.toNat := by omega
      rw [hm]
      omega
  | none =>
    rw [hn] at hw
    simp only
    cases hr : s.frames.reverse with
    | nil => exact absurd (.inr ⟨hn, List.reverse_eq_nil_iff.1 hr⟩) hd
    | cons x fr =>
      rw [hr] at hw
      have hx : s.frames = fr.reverse ++ [x] := by rw [← List.reverse_reverse s.frames, hr, List.reverse_cons]
      exact h.dat.goOn h0 hn hT hx hw.1 hw.2.1 (by rw [List.reverse_reverse]; exact hw.2.2)
end
end Go.Proofs.YtjmgnohepoacbaaDoor
