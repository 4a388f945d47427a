/-
  core's machine: what an expression comes to, of which all parts have: the other kinds; all kinds. (Made by gen_mbe.py.)
  core's machine goes on: all parts have values.
-/
import Derived.Test.YtpdfjdomjklkbaaGreatDoorK08
namespace Go.Proofs.YtpdfjdomjklkbaaGreatDoor
open Go.ChangeShapes Go.WideShapes Go.ChangeAt Go.RowKit Go.Sort
set_option linter.unusedVariables false
set_option linter.unusedSimpArgs false

section
variable {w0 w : World} {B mb : Nat} {s : St} {t i r v f nx nm : Value} {rcs vcs fcs : List (List Value)}
set_option maxHeartbeats 8000000 in
theorem applyShow_any (h : Rep w0 B mb s w t i r v f nx nm rcs vcs fcs) (hv : s.vals.length ≤ 100000000000) (hT : Tab w) (e : Ex) (eb eo : Nat) (hd : e.d.At w eb eo) (x : Val) (css : List (List Value)) (ab ao c : Nat) (hl : Vs w0 w (Mv mb t r v f) [x] (some ⟨ab, ao, none⟩) css) (hkd : e.d.kind = 21) (hn : -9223372036854775808 ≤ x.n ∧ x.n ≤ 9223372036854775807) :
    Calls Tryz.prog 51 #[.agg #[.pointer (some ⟨mb, 0, none⟩)], .pointer (some ⟨eb, eo, none⟩), .slice (some ⟨ab, ao, none⟩) 1 c] w fun e1 w' => e1 = .returned (.tuple #[]) ∧ Post w0 B mb (Mv mb t r v f) w (s.shw x) w' := by
  have hb : Below w.heap.size w (w.alloc (.cells #[.pointer (some ⟨mb, 0, none⟩)] 56)) := (Below.refl _ _).alloc (Nat.le_refl _) _
  obtain ⟨A0, kc0, p0, hz0, g00, g01, g02, g03, g04, g05⟩ := (hl.below hb).six 0 (z := x) rfl ao (ao + 1) (ao + 2) (ao + 3) (ao + 4) (ao + 5) ⟨by omega, by omega, by omega, by omega, by omega, by omega⟩
  have HC := Lib.hid (fun (wr : World) (hb' : Below (w.alloc (.cells #[.pointer (some ⟨mb, 0, none⟩)] 56)).heap.size (w.alloc (.cells #[.pointer (some ⟨mb, 0, none⟩)] 56)) wr) => show_any ((h.below hb).below hb') hv (tab_below (tab_below hT hb) hb') x A0 kc0 p0 hn)
  have c0 : (w.alloc (.cells #[.pointer (some ⟨mb, 0, none⟩)] 56)).cell? ⟨w.heap.size, 0, none⟩ = some (.pointer (some ⟨mb, 0, none⟩)) := (by rw [Lib.cell_of_heap (heap_new (w := w) (o := .cells #[.pointer (some ⟨mb, 0, none⟩)] 56) rfl)]; rfl)
  have k0 := (hd.lower hb).c0
  have k2 := (hd.lower hb).c2
  rw [hkd] at k0
  have HB := Lib.hid hb
  have HBM := Lib.hid (fun (wr : World) (hb : Below w.heap.size w wr) => And.intro (Tr.below (P := Mv mb t r v f) hb) (hb.mono (Nat.le_of_lt (Nat.lt_of_le_of_lt h.base.2 h.lt))))
  clear h hb hd hv hl hkd hz0 hT hn
  go_enter Tryz.func51, Tryz.ntmps51
  go_upto_region 26 with fail
  go_region_law (go_simp; go_at_call 67; (with_reducible refine (HC.out _ (below_drew1 _)).mono ?_); rintro e1 w2 ⟨rfl, hp⟩; have HP := Lib.hid hp; clear hp)
  all_goals
    go_wp2_with fail
    go_returns
    with_reducible exact ⟨rfl, HP.out.mono (HBM.out _ (Below.drew HB.out)).1 (HBM.out _ (Below.drew HB.out)).2⟩
set_option maxHeartbeats 8000000 in
theorem applySel_any (h : Rep w0 B mb s w t i r v f nx nm rcs vcs fcs) (hv : s.vals.length ≤ 100000000000) (e : Ex) (eb eo : Nat) (hd : e.d.At w eb eo) (x y : Val) (css : List (List Value)) (ab ao c : Nat) (hl : Vs w0 w (Mv mb t r v f) [x, y] (some ⟨ab, ao, none⟩) css) (hkd : e.d.kind = 9) (hx : x.l.length ≤ 90000000000) :
    Calls Tryz.prog 51 #[.agg #[.pointer (some ⟨mb, 0, none⟩)], .pointer (some ⟨eb, eo, none⟩), .slice (some ⟨ab, ao, none⟩) 2 c] w fun e1 w' => e1 = .returned (.tuple #[]) ∧ Post w0 B mb (Mv mb t r v f) w (s.inTup 9 x y x) w' := by
  have hb : Below w.heap.size w (w.alloc (.cells #[.pointer (some ⟨mb, 0, none⟩)] 56)) := (Below.refl _ _).alloc (Nat.le_refl _) _
  obtain ⟨A0, kc0, p0, hz0, g00, g01, g02, g03, g04, g05⟩ := (hl.below hb).six 0 (z := x) rfl ao (ao + 1) (ao + 2) (ao + 3) (ao + 4) (ao + 5) ⟨by omega, by omega, by omega, by omega, by omega, by omega⟩
  obtain ⟨A1, kc1, p1, hz1, g10, g11, g12, g13, g14, g15⟩ := (hl.below hb).six 1 (z := y) rfl (ao + 6) (ao + 7) (ao + 8) (ao + 9) (ao + 10) (ao + 11) ⟨by omega, by omega, by omega, by omega, by omega, by omega⟩
  have HC := Lib.hid (fun (wr : World) (hb' : Below (w.alloc (.cells #[.pointer (some ⟨mb, 0, none⟩)] 56)).heap.size (w.alloc (.cells #[.pointer (some ⟨mb, 0, none⟩)] 56)) wr) => inTwo_any ((h.below hb).below hb') hv 9 (.inl rfl) x y css ab ao c ((hl.below hb).below hb') hx)
  have c0 : (w.alloc (.cells #[.pointer (some ⟨mb, 0, none⟩)] 56)).cell? ⟨w.heap.size, 0, none⟩ = some (.pointer (some ⟨mb, 0, none⟩)) := (by rw [Lib.cell_of_heap (heap_new (w := w) (o := .cells #[.pointer (some ⟨mb, 0, none⟩)] 56) rfl)]; rfl)
  have k0 := (hd.lower hb).c0
  have k2 := (hd.lower hb).c2
  rw [hkd] at k0
  have HB := Lib.hid hb
  have HBM := Lib.hid (fun (wr : World) (hb : Below w.heap.size w wr) => And.intro (Tr.below (P := Mv mb t r v f) hb) (hb.mono (Nat.le_of_lt (Nat.lt_of_le_of_lt h.base.2 h.lt))))
  clear h hb hd hv hl hkd hz0 hz1 hx
  go_enter Tryz.func51, Tryz.ntmps51
  go_upto_region 14 with fail
  go_region_law (go_simp; go_at_call 61; (with_reducible refine (HC.out _ (below_drew1 _)).mono ?_); rintro e1 w2 ⟨rfl, hp⟩; have HP := Lib.hid hp; clear hp)
  all_goals
    go_wp2_with fail
    go_returns
    with_reducible exact ⟨rfl, HP.out.mono (HBM.out _ (Below.drew HB.out)).1 (HBM.out _ (Below.drew HB.out)).2⟩
set_option maxHeartbeats 8000000 in
theorem applyDel_any (h : Rep w0 B mb s w t i r v f nx nm rcs vcs fcs) (hv : s.vals.length ≤ 100000000000) (e : Ex) (eb eo : Nat) (hd : e.d.At w eb eo) (x y : Val) (css : List (List Value)) (ab ao c : Nat) (hl : Vs w0 w (Mv mb t r v f) [x, y] (some ⟨ab, ao, none⟩) css) (hkd : e.d.kind = 11) (hx : x.l.length ≤ 90000000000) :
    Calls Tryz.prog 51 #[.agg #[.pointer (some ⟨mb, 0, none⟩)], .pointer (some ⟨eb, eo, none⟩), .slice (some ⟨ab, ao, none⟩) 2 c] w fun e1 w' => e1 = .returned (.tuple #[]) ∧ Post w0 B mb (Mv mb t r v f) w (s.inTup 11 x y x) w' := by
  have hb : Below w.heap.size w (w.alloc (.cells #[.pointer (some ⟨mb, 0, none⟩)] 56)) := (Below.refl _ _).alloc (Nat.le_refl _) _
  obtain ⟨A0, kc0, p0, hz0, g00, g01, g02, g03, g04, g05⟩ := (hl.below hb).six 0 (z := x) rfl ao (ao + 1) (ao + 2) (ao + 3) (ao + 4) (ao + 5) ⟨by omega, by omega, by omega, by omega, by omega, by omega⟩
  obtain ⟨A1, kc1, p1, hz1, g10, g11, g12, g13, g14, g15⟩ := (hl.below hb).six 1 (z := y) rfl (ao + 6) (ao + 7) (ao + 8) (ao + 9) (ao + 10) (ao + 11) ⟨by omega, by omega, by omega, by omega, by omega, by omega⟩
  have HC := Lib.hid (fun (wr : World) (hb' : Below (w.alloc (.cells #[.pointer (some ⟨mb, 0, none⟩)] 56)).heap.size (w.alloc (.cells #[.pointer (some ⟨mb, 0, none⟩)] 56)) wr) => inTwo_any ((h.below hb).below hb') hv 11 (.inr rfl) x y css ab ao c ((hl.below hb).below hb') hx)
  have c0 : (w.alloc (.cells #[.pointer (some ⟨mb, 0, none⟩)] 56)).cell? ⟨w.heap.size, 0, none⟩ = some (.pointer (some ⟨mb, 0, none⟩)) := (by rw [Lib.cell_of_heap (heap_new (w := w) (o := .cells #[.pointer (some ⟨mb, 0, none⟩)] 56) rfl)]; rfl)
  have k0 := (hd.lower hb).c0
  have k2 := (hd.lower hb).c2
  rw [hkd] at k0
  have HB := Lib.hid hb
  have HBM := Lib.hid (fun (wr : World) (hb : Below w.heap.size w wr) => And.intro (Tr.below (P := Mv mb t r v f) hb) (hb.mono (Nat.le_of_lt (Nat.lt_of_le_of_lt h.base.2 h.lt))))
  clear h hb hd hv hl hkd hz0 hz1 hx
  go_enter Tryz.func51, Tryz.ntmps51
  go_upto_region 14 with fail
  go_region_law (go_simp; go_at_call 61; (with_reducible refine (HC.out _ (below_drew1 _)).mono ?_); rintro e1 w2 ⟨rfl, hp⟩; have HP := Lib.hid hp; clear hp)
  all_goals
    go_wp2_with fail
    go_returns
    with_reducible exact ⟨rfl, HP.out.mono (HBM.out _ (Below.drew HB.out)).1 (HBM.out _ (Below.drew HB.out)).2⟩
set_option maxHeartbeats 8000000 in
theorem applyIns_any (h : Rep w0 B mb s w t i r v f nx nm rcs vcs fcs) (hv : s.vals.length ≤ 100000000000) (e : Ex) (eb eo : Nat) (hd : e.d.At w eb eo) (x y z : Val) (css : List (List Value)) (ab ao c : Nat) (hl : Vs w0 w (Mv mb t r v f) [x, y, z] (some ⟨ab, ao, none⟩) css) (hkd : e.d.kind = 10) (hx : z.l.length ≤ 90000000000) (hc : 3 ≤ c ∧ c ≤ maxLen) :
    Calls Tryz.prog 51 #[.agg #[.pointer (some ⟨mb, 0, none⟩)], .pointer (some ⟨eb, eo, none⟩), .slice (some ⟨ab, ao, none⟩) 3 c] w fun e1 w' => e1 = .returned (.tuple #[]) ∧ Post w0 B mb (Mv mb t r v f) w (s.inTup 10 x y z) w' := by
  have hb : Below w.heap.size w (w.alloc (.cells #[.pointer (some ⟨mb, 0, none⟩)] 56)) := (Below.refl _ _).alloc (Nat.le_refl _) _
  obtain ⟨A0, kc0, p0, hz0, g00, g01, g02, g03, g04, g05⟩ := (hl.below hb).six 0 (z := x) rfl ao (ao + 1) (ao + 2) (ao + 3) (ao + 4) (ao + 5) ⟨by omega, by omega, by omega, by omega, by omega, by omega⟩
  obtain ⟨A1, kc1, p1, hz1, g10, g11, g12, g13, g14, g15⟩ := (hl.below hb).six 1 (z := y) rfl (ao + 6) (ao + 7) (ao + 8) (ao + 9) (ao + 10) (ao + 11) ⟨by omega, by omega, by omega, by omega, by omega, by omega⟩
  obtain ⟨A2, kc2, p2, hz2, g20, g21, g22, g23, g24, g25⟩ := (hl.below hb).six 2 (z := z) rfl (ao + 12) (ao + 13) (ao + 14) (ao + 15) (ao + 16) (ao + 17) ⟨by omega, by omega, by omega, by omega, by omega, by omega⟩
  have HC := Lib.hid (fun (wr : World) (hb' : Below (w.alloc (.cells #[.pointer (some ⟨mb, 0, none⟩)] 56)).heap.size (w.alloc (.cells #[.pointer (some ⟨mb, 0, none⟩)] 56)) wr) => inThree_any ((h.below hb).below hb') hv 10 (.inl rfl) x y z css ab ao c ((hl.below hb).below hb') hx hc)
  have c0 : (w.alloc (.cells #[.pointer (some ⟨mb, 0, none⟩)] 56)).cell? ⟨w.heap.size, 0, none⟩ = some (.pointer (some ⟨mb, 0, none⟩)) := (by rw [Lib.cell_of_heap (heap_new (w := w) (o := .cells #[.pointer (some ⟨mb, 0, none⟩)] 56) rfl)]; rfl)
  have k0 := (hd.lower hb).c0
  have k2 := (hd.lower hb).c2
  rw [hkd] at k0
  have HB := Lib.hid hb
  have HBM := Lib.hid (fun (wr : World) (hb : Below w.heap.size w wr) => And.intro (Tr.below (P := Mv mb t r v f) hb) (hb.mono (Nat.le_of_lt (Nat.lt_of_le_of_lt h.base.2 h.lt))))
  clear h hb hd hv hl hkd hz0 hz1 hz2 hx hc
  go_enter Tryz.func51, Tryz.ntmps51
  go_upto_region 14 with fail
  go_region_law (go_simp; go_at_call 61; (with_reducible refine (HC.out _ (below_drew1 _)).mono ?_); rintro e1 w2 ⟨rfl, hp⟩; have HP := Lib.hid hp; clear hp)
  all_goals
    go_wp2_with fail
    go_returns
    with_reducible exact ⟨rfl, HP.out.mono (HBM.out _ (Below.drew HB.out)).1 (HBM.out _ (Below.drew HB.out)).2⟩
set_option maxHeartbeats 8000000 in
theorem applyPut_any (h : Rep w0 B mb s w t i r v f nx nm rcs vcs fcs) (hv : s.vals.length ≤ 100000000000) (e : Ex) (eb eo : Nat) (hd : e.d.At w eb eo) (x y z : Val) (css : List (List Value)) (ab ao c : Nat) (hl : Vs w0 w (Mv mb t r v f) [x, y, z] (some ⟨ab, ao, none⟩) css) (hkd : e.d.kind = 12) (hx : z.l.length ≤ 90000000000) (hc : 3 ≤ c ∧ c ≤ maxLen) :
    Calls Tryz.prog 51 #[.agg #[.pointer (some ⟨mb, 0, none⟩)], .pointer (some ⟨eb, eo, none⟩), .slice (some ⟨ab, ao, none⟩) 3 c] w fun e1 w' => e1 = .returned (.tuple #[]) ∧ Post w0 B mb (Mv mb t r v f) w (s.inTup 12 x y z) w' := by
  have hb : Below w.heap.size w (w.alloc (.cells #[.pointer (some ⟨mb, 0, none⟩)] 56)) := (Below.refl _ _).alloc (Nat.le_refl _) _
  obtain ⟨A0, kc0, p0, hz0, g00, g01, g02, g03, g04, g05⟩ := (hl.below hb).six 0 (z := x) rfl ao (ao + 1) (ao + 2) (ao + 3) (ao + 4) (ao + 5) ⟨by omega, by omega, by omega, by omega, by omega, by omega⟩
  obtain ⟨A1, kc1, p1, hz1, g10, g11, g12, g13, g14, g15⟩ := (hl.below hb).six 1 (z := y) rfl (ao + 6) (ao + 7) (ao + 8) (ao + 9) (ao + 10) (ao + 11) ⟨by omega, by omega, by omega, by omega, by omega, by omega⟩
  obtain ⟨A2, kc2, p2, hz2, g20, g21, g22, g23, g24, g25⟩ := (hl.below hb).six 2 (z := z) rfl (ao + 12) (ao + 13) (ao + 14) (ao + 15) (ao + 16) (ao + 17) ⟨by omega, by omega, by omega, by omega, by omega, by omega⟩
  have HC := Lib.hid (fun (wr : World) (hb' : Below (w.alloc (.cells #[.pointer (some ⟨mb, 0, none⟩)] 56)).heap.size (w.alloc (.cells #[.pointer (some ⟨mb, 0, none⟩)] 56)) wr) => inThree_any ((h.below hb).below hb') hv 12 (.inr rfl) x y z css ab ao c ((hl.below hb).below hb') hx hc)
  have c0 : (w.alloc (.cells #[.pointer (some ⟨mb, 0, none⟩)] 56)).cell? ⟨w.heap.size, 0, none⟩ = some (.pointer (some ⟨mb, 0, none⟩)) := (by rw [Lib.cell_of_heap (heap_new (w := w) (o := .cells #[.pointer (some ⟨mb, 0, none⟩)] 56) rfl)]; rfl)
  have k0 := (hd.lower hb).c0
  have k2 := (hd.lower hb).c2
  rw [hkd] at k0
  have HB := Lib.hid hb
  have HBM := Lib.hid (fun (wr : World) (hb : Below w.heap.size w wr) => And.intro (Tr.below (P := Mv mb t r v f) hb) (hb.mono (Nat.le_of_lt (Nat.lt_of_le_of_lt h.base.2 h.lt))))
  clear h hb hd hv hl hkd hz0 hz1 hz2 hx hc
  go_enter Tryz.func51, Tryz.ntmps51
  go_upto_region 14 with fail
  go_region_law (go_simp; go_at_call 61; (with_reducible refine (HC.out _ (below_drew1 _)).mono ?_); rintro e1 w2 ⟨rfl, hp⟩; have HP := Lib.hid hp; clear hp)
  all_goals
    go_wp2_with fail
    go_returns
    with_reducible exact ⟨rfl, HP.out.mono (HBM.out _ (Below.drew HB.out)).1 (HBM.out _ (Below.drew HB.out)).2⟩
set_option maxHeartbeats 8000000 in
theorem applyTuple_any (h : Rep w0 B mb s w t i r v f nx nm rcs vcs fcs) (hv : s.vals.length ≤ 100000000000) (e : Ex) (eb eo : Nat) (hd : e.d.At w eb eo) (l : List Val) (A : Option Addr) (css : List (List Value)) (c : Nat) (hl : Vs w0 w (Mv mb t r v f) l A css) (hn : l.length ≤ 100000000000) (hkd : e.d.kind = 8) :
    Calls Tryz.prog 51 #[.agg #[.pointer (some ⟨mb, 0, none⟩)], .pointer (some ⟨eb, eo, none⟩), .slice A l.length c] w fun e1 w' => e1 = .returned (.tuple #[]) ∧ Post w0 B mb (Mv mb t r v f) w { s with vals := s.vals ++ [.mk 4 0 [] l none] } w' := by
  have hb : Below w.heap.size w (w.alloc (boxM mb)) := (Below.refl _ _).alloc (Nat.le_refl _) _
  have HTU := Lib.hid (fun (wr : World) (hb' : Below w.heap.size w wr) => tuple_any w0 wr (Mv mb t r v f) (fun b hbb => h.mvNew b (Nat.le_trans hb'.size hbb)) A l css c (hl.below hb') hn)
  have HTL := Lib.hid (fun (wr : World) (A' : Option Addr) (c' : Nat) (hb' : Below w.heap.size w wr) (hz : VR w0 wr (Mv mb t r v f) (.mk 4 0 [] l none) [.int .i64 4, .int .i64 0, .string (bstr []), .slice none 0 0, .slice A' l.length c', .pointer none]) => (show Calls Tryz.prog 41 #[.pointer (some ⟨mb, 0, none⟩), .agg #[.int .i64 4, .int .i64 0, .string ⟨#[]⟩, .slice none 0 0, .slice A' l.length c', .pointer none]] wr fun e w' => e = .returned (.tuple #[]) ∧ Post w0 B mb (Mv mb t r v f) wr { s with vals := s.vals ++ [.mk 4 0 [] l none] } w' from tell_any (h.below hb') hv (.mk 4 0 [] l none) (A := A') (c := c') (p := none) hz))
  have hx := heap_new (w := w) (o := boxM mb) rfl
  have c0 : (w.alloc (boxM mb)).cell? ⟨w.heap.size, 0, none⟩ = some (.pointer (some ⟨mb, 0, none⟩)) := (by rw [Lib.cell_of_heap hx]; rfl)
  have HC0 := Lib.hid c0
  have k0 := (hd.lower hb).c0
  rw [hkd] at k0
  have HB := Lib.hid hb
  have HBM := Lib.hid (fun (wr : World) (hb : Below w.heap.size w wr) => And.intro (Tr.below (P := Mv mb t r v f) hb) (hb.mono (Nat.le_of_lt (Nat.lt_of_le_of_lt h.base.2 h.lt))))
  clear h hb hd hv hl hkd hn hx
  go_enter Tryz.func51, Tryz.ntmps51
  go_upto_region 3 with fail
  go_region_law (first
    | (go_simp; go_at_call 59; (with_reducible refine (HTU.out _ (Below.drew HB.out)).mono ?_); rintro e1 w2 ⟨A9, c9, rfl, hv2, hb2⟩; have hb3 := below_then (Below.drew HB.out) hb2; have c0' : w2.cell? ⟨w.heap.size, 0, none⟩ = some (.pointer (some ⟨mb, 0, none⟩)) := cell_below hb2 HC0.out; have HB2 := Lib.hid hb3; have HT := Lib.hid (HTL.out _ _ _ hb3 hv2); clear hb2 hb3 hv2)
    | (go_simp; go_at_call 41; (with_reducible refine HT.out.mono ?_); rintro e1 w3 ⟨rfl, hp⟩; have HP := Lib.hid hp; clear hp))
  all_goals
    go_wp2_with fail
    go_returns
    with_reducible exact ⟨rfl, HP.out.mono (HBM.out _ HB2.out).1 (HBM.out _ HB2.out).2⟩
set_option maxHeartbeats 8000000 in
theorem applyTagF (h : Rep w0 B mb s w t i r v f nx nm rcs vcs fcs) (hv : s.vals.length ≤ 100000000000) (e : Ex) (eb eo : Nat) (hd : e.d.At w eb eo) (x y : Val) (css : List (List Value)) (ab ao c : Nat) (hl : Vs w0 w (Mv mb t r v f) [x, y] (some ⟨ab, ao, none⟩) css) (hkd : e.d.kind = 13) (hy : ¬ y.sort = 1) :
    Calls Tryz.prog 51 #[.agg #[.pointer (some ⟨mb, 0, none⟩)], .pointer (some ⟨eb, eo, none⟩), .slice (some ⟨ab, ao, none⟩) 2 c] w fun e1 w' => e1 = .returned (.tuple #[]) ∧ Post w0 B mb (Mv mb t r v f) w { s with err := 11 } w' := by
  have hb : Below w.heap.size w (w.alloc (boxM mb)) := (Below.refl _ _).alloc (Nat.le_refl _) _
  obtain ⟨A0, kc0, p0, hz0, g00, g01, g02, g03, g04, g05⟩ := (hl.below hb).six 0 (z := x) rfl ao (ao + 1) (ao + 2) (ao + 3) (ao + 4) (ao + 5) ⟨by omega, by omega, by omega, by omega, by omega, by omega⟩
  obtain ⟨A1, kc1, p1, hz1, g10, g11, g12, g13, g14, g15⟩ := (hl.below hb).six 1 (z := y) rfl (ao + 6) (ao + 6 + 1) (ao + 6 + 2) (ao + 6 + 3) (ao + 6 + 4) (ao + 6 + 5) ⟨by omega, by omega, by omega, by omega, by omega, by omega⟩
  have hx := heap_new (w := w) (o := boxM mb) rfl
  have c0 : (w.alloc (boxM mb)).cell? ⟨w.heap.size, 0, none⟩ = some (.pointer (some ⟨mb, 0, none⟩)) := (by rw [Lib.cell_of_heap hx]; rfl)
  have k0 := (hd.lower hb).c0
  rw [hkd] at k0
  have HB := Lib.hid hb
  have HBM := Lib.hid (fun (wr : World) (hb : Below w.heap.size w wr) => And.intro (Tr.below (P := Mv mb t r v f) hb) (hb.mono (Nat.le_of_lt (Nat.lt_of_le_of_lt h.base.2 h.lt))))
  have HS := Lib.hid (fun (wr : World) (hb : Below w.heap.size w wr) => stuck_any (h.below hb))
  have e1 : (y.sort == 1) = false := by simpa using hy
  clear h hb hd hv hl hkd hx hz0 hz1 hy g00 g01 g02 g03 g04 g05 g11 g12 g13 g14 g15
  go_enter Tryz.func51, Tryz.ntmps51
  go_wp2_with (go_at_call 40; (with_reducible refine (HS.out _ HB.out).mono ?_); rintro e1 w2 ⟨rfl, hp⟩; have HP := Lib.hid hp; clear hp)
  go_returns
  with_reducible exact ⟨rfl, HP.out.mono (HBM.out _ HB.out).1 (HBM.out _ HB.out).2⟩
set_option maxHeartbeats 8000000 in
theorem applyTagT (h : Rep w0 B mb s w t i r v f nx nm rcs vcs fcs) (hv : s.vals.length ≤ 100000000000) (e : Ex) (eb eo : Nat) (hd : e.d.At w eb eo) (x y : Val) (css : List (List Value)) (ab ao c : Nat) (hl : Vs w0 w (Mv mb t r v f) [x, y] (some ⟨ab, ao, none⟩) css) (hkd : e.d.kind = 13) (hy : y.sort = 1) :
    Calls Tryz.prog 51 #[.agg #[.pointer (some ⟨mb, 0, none⟩)], .pointer (some ⟨eb, eo, none⟩), .slice (some ⟨ab, ao, none⟩) 2 c] w fun e1 w' => e1 = .returned (.tuple #[]) ∧ Post w0 B mb (Mv mb t r v f) w { s with vals := s.vals ++ [.mk 5 y.n [] [x] none] } w' := by
  have hb : Below w.heap.size w (w.alloc (boxM mb)) := (Below.refl _ _).alloc (Nat.le_refl _) _
  obtain ⟨A0, kc0, p0, hz0, g00, g01, g02, g03, g04, g05⟩ := (hl.below hb).six 0 (z := x) rfl ao (ao + 1) (ao + 2) (ao + 3) (ao + 4) (ao + 5) ⟨by omega, by omega, by omega, by omega, by omega, by omega⟩
  obtain ⟨A1, kc1, p1, hz1, g10, g11, g12, g13, g14, g15⟩ := (hl.below hb).six 1 (z := y) rfl (ao + 6) (ao + 6 + 1) (ao + 6 + 2) (ao + 6 + 3) (ao + 6 + 4) (ao + 6 + 5) ⟨by omega, by omega, by omega, by omega, by omega, by omega⟩
  have hx := heap_new (w := w) (o := boxM mb) rfl
  have c0 : (w.alloc (boxM mb)).cell? ⟨w.heap.size, 0, none⟩ = some (.pointer (some ⟨mb, 0, none⟩)) := (by rw [Lib.cell_of_heap hx]; rfl)
  have k0 := (hd.lower hb).c0
  rw [hkd] at k0
  have HB := Lib.hid hb
  have HBM := Lib.hid (fun (wr : World) (hb : Below w.heap.size w wr) => And.intro (Tr.below (P := Mv mb t r v f) hb) (hb.mono (Nat.le_of_lt (Nat.lt_of_le_of_lt h.base.2 h.lt))))
  have hbt : Below w.heap.size w (((w.alloc (boxM mb)).alloc (.cells #[.int .i64 x.sort, .int .i64 x.n, .string (bstr x.s), .slice none 0 0, .slice A0 x.l.length kc0, .pointer p0] 60)).drew) := (hb.alloc (by rw [World.size_alloc]; omega) _).drew
  have hvt : VR w0 (((w.alloc (boxM mb)).alloc (.cells #[.int .i64 x.sort, .int .i64 x.n, .string (bstr x.s), .slice none 0 0, .slice A0 x.l.length kc0, .pointer p0] 60)).drew) (Mv mb t r v f) (.mk 5 y.n [] [x] none) [.int .i64 5, .int .i64 y.n, .string (bstr []), .slice none 0 0, .slice (some ⟨w.heap.size + 1, 0, none⟩) 1 1, .pointer none] := by
    have hr := Rd.lit (size := 6) (n := 1) (w.alloc (boxM mb)) #[.int .i64 x.sort, .int .i64 x.n, .string (bstr x.s), .slice none 0 0, .slice A0 x.l.length kc0, .pointer p0] 60 rfl (fr := (0, 0))
    rw [World.size_alloc] at hr
    have hbb : Below (w.alloc (boxM mb)).heap.size (w.alloc (boxM mb)) (((w.alloc (boxM mb)).alloc (.cells #[.int .i64 x.sort, .int .i64 x.n, .string (bstr x.s), .slice none 0 0, .slice A0 x.l.length kc0, .pointer p0] 60)).drew) := ((Below.refl _ _).alloc (Nat.le_refl _) _).drew
    have hlr : LR (VR w0 (((w.alloc (boxM mb)).alloc (.cells #[.int .i64 x.sort, .int .i64 x.n, .string (bstr x.s), .slice none 0 0, .slice A0 x.l.length kc0, .pointer p0] 60)).drew) (Mv mb t r v f)) [x] [[.int .i64 x.sort, .int .i64 x.n, .string (bstr x.s), .slice none 0 0, .slice A0 x.l.length kc0, .pointer p0]] := LR.nil.snoc (hz0.keep (Tr.below hbb))
    exact Vs.vr (l := [x]) (css := [[.int .i64 x.sort, .int .i64 x.n, .string (bstr x.s), .slice none 0 0, .slice A0 x.l.length kc0, .pointer p0]]) ⟨hr.drew, hlr⟩ (fun _ a ha => by cases ha; exact h.mvNew _ (by show w.heap.size ≤ w.heap.size + 1; omega)) ⟨Nat.le_refl 1, by simp [maxLen]⟩ 5 y.n []
  have HT := Lib.hid (show Calls Tryz.prog 41 #[.pointer (some ⟨mb, 0, none⟩), .agg #[.int .i64 5, .int .i64 y.n, .string ⟨#[]⟩, .slice none 0 0, .slice (some ⟨w.heap.size + 1, 0, none⟩) 1 1, .pointer none]] (((w.alloc (boxM mb)).alloc (.cells #[.int .i64 x.sort, .int .i64 x.n, .string (bstr x.s), .slice none 0 0, .slice A0 x.l.length kc0, .pointer p0] 60)).drew) fun e w' => e = .returned (.tuple #[]) ∧ Post w0 B mb (Mv mb t r v f) (((w.alloc (boxM mb)).alloc (.cells #[.int .i64 x.sort, .int .i64 x.n, .string (bstr x.s), .slice none 0 0, .slice A0 x.l.length kc0, .pointer p0] 60)).drew) { s with vals := s.vals ++ [.mk 5 y.n [] [x] none] } w' from tell_any (h.below hbt) hv (.mk 5 y.n [] [x] none) (A := some ⟨w.heap.size + 1, 0, none⟩) (c := 1) (p := none) hvt)
  have HBT := Lib.hid hbt
  have HSK := Lib.hid (fun (V : World) (hb' : Below (w.alloc (boxM mb)).heap.size (w.alloc (boxM mb)) V) => (show V.cell? ⟨w.heap.size, 0, none⟩ = some (.pointer (some ⟨mb, 0, none⟩)) ∧ V.cell? ⟨ab, ao, none⟩ = some (.int .i64 x.sort) ∧ V.cell? ⟨ab, ao + 1, none⟩ = some (.int .i64 x.n) ∧ V.cell? ⟨ab, ao + 2, none⟩ = some (.string (bstr x.s)) ∧ V.cell? ⟨ab, ao + 3, none⟩ = some (.slice none 0 0) ∧ V.cell? ⟨ab, ao + 4, none⟩ = some (.slice A0 x.l.length kc0) ∧ V.cell? ⟨ab, ao + 5, none⟩ = some (.pointer p0) ∧ V.cell? ⟨ab, ao + 6 + 1, none⟩ = some (.int .i64 y.n) from ⟨cell_below hb' c0, cell_below hb' g00, cell_below hb' g01, cell_below hb' g02, cell_below hb' g03, cell_below hb' g04, cell_below hb' g05, cell_below hb' g11⟩))
  have e1 : (y.sort == 1) = true := by simpa using hy
  rw [hy] at g10
  clear h hb hd hv hl hkd hx hz0 hz1 hy hbt hvt g12 g13 g14 g15
  go_enter Tryz.func51, Tryz.ntmps51
  go_upto_region 9 with fail
  clear k0 g10
  obtain ⟨d0, f00, f01, f02, f03, f04, f05, f11⟩ := HSK.out (((w.alloc (boxM mb)).alloc (.cells #[.int .i64 x.sort, .int .i64 x.n, .string (bstr x.s), .slice none 0 0, .slice A0 x.l.length kc0, .pointer p0] 60))) ((Below.refl _ _).alloc (Nat.le_refl _) _)
  clear HSK
  go_region_law (go_simp; go_at_call 41; (with_reducible refine HT.out.mono ?_); rintro e1 w3 ⟨rfl, hp⟩; have HP := Lib.hid hp; clear hp)
  all_goals
    go_wp2_with fail
    go_returns
    with_reducible exact ⟨rfl, HP.out.mono (HBM.out _ HBT.out).1 (HBM.out _ HBT.out).2⟩

def St.tag (s : St) (x y : Val) : St := if y.sort = 1 then { s with vals := s.vals ++ [.mk 5 y.n [] [x] none] } else { s with err := 11 }
def St.apply1 (s : St) (k : Int) (x : Val) : St :=
  if k = 17 then { s with refs := s.refs ++ [x], vals := s.vals ++ [.mk 6 s.refs.length [] [] none] }
  else if k = 18 then s.get x else if k = 20 then s.print x else s.shw x
def St.apply2 (s : St) (d : ExD) (x y : Val) : St :=
  if d.kind = 5 then s.call x y else if d.kind = 13 then s.tag x y else if d.kind = 16 then s.oper d.s x y
  else if d.kind = 19 then s.set x y else s.inTup d.kind x y x
def St.apply (s : St) (d : ExD) (l : List Val) : St :=
  if d.kind = 8 then { s with vals := s.vals ++ [.mk 4 0 [] l none] } else
  match l with
  | [x] => s.apply1 d.kind x
  | [x, y] => s.apply2 d x y
  | [x, y, z] => s.inTup d.kind x y z
  | _ => s
/-- What the machine wants of a value. -/
structure GoodV (s : St) (z : Val) : Prop where
  fn : z.sort = 3 → z.f ≠ none
  ref : z.sort = 6 → ∃ k : Nat, z.n = k ∧ k < s.refs.length
  txt : z.s.length ≤ 4000000
  num : -9223372036854775808 ≤ z.n ∧ z.n ≤ 9223372036854775807
  len : z.l.length ≤ 90000000000
theorem apply_any (h : Rep w0 B mb s w t i r v f nx nm rcs vcs fcs) (hv : s.vals.length ≤ 100000000000) (hr : s.refs.length ≤ 100000000000) (ht : s.trace.length ≤ 100000000000) (hT : Tab w) (e : Ex) (eb eo : Nat) (hd : e.d.At w eb eo) (hk : partsOk e.d = true) (l : List Val) (A : Option Addr) (css : List (List Value)) (c : Nat) (hl : Vs w0 w (Mv mb t r v f) l A css) (hn : l.length = e.d.pn) (hp : e.d.pn ≤ 4000000) (hc : l.length ≤ c ∧ c ≤ maxLen) (hg : ∀ z ∈ l, GoodV s z)
    (q1 : ¬ (e.d.kind = 1 ∨ e.d.kind = 2 ∨ e.d.kind = 3 ∨ e.d.kind = 4 ∨ e.d.kind = 6 ∨ e.d.kind = 7 ∨ e.d.kind = 14 ∨ e.d.kind = 15 ∨ e.d.kind = 22)) :
    Calls Tryz.prog 51 #[.agg #[.pointer (some ⟨mb, 0, none⟩)], .pointer (some ⟨eb, eo, none⟩), .slice A l.length c] w fun e1 w' => e1 = .returned (.tuple #[]) ∧ Post w0 B mb (Mv mb t r v f) w (s.apply e.d l) w' := by
  have hkk := partsKind hk
  by_cases k8 : e.d.kind = 8
  · rw [show s.apply e.d l = _ from if_pos k8]
    exact applyTuple_any h hv e eb eo hd l A css c hl (by omega) k8
  rw [show s.apply e.d l = _ from if_neg k8]
  by_cases p1 : e.d.kind = 17 ∨ e.d.kind = 18 ∨ e.d.kind = 20 ∨ e.d.kind = 21
  · obtain ⟨x, rfl⟩ := len1 (hn.trans (parts1 hk (.inr p1)))
    obtain ⟨ab, ao, rfl⟩ := hl.addr Nat.one_pos
    have gx := hg x (List.mem_cons_self ..)
    rcases p1 with k | k | k | k
    · rw [k]; exact applyRef_any h hv hr e eb eo hd x css ab ao c hl k
    · rw [k]; exact applyGet_any h hv hr e eb eo hd x css ab ao c hl k gx.ref
    · rw [k]; exact applyPrint_any h hv ht e eb eo hd x css ab ao c hl k
    · rw [k]; exact applyShow_any h hv hT e eb eo hd x css ab ao c hl k gx.num
  by_cases p2 : e.d.kind = 5 ∨ e.d.kind = 9 ∨ e.d.kind = 11 ∨ e.d.kind = 13 ∨ e.d.kind = 16 ∨ e.d.kind = 19
  · obtain ⟨x, y, rfl⟩ := len2 (hn.trans (parts2 hk (by omega)))
    obtain ⟨ab, ao, rfl⟩ := hl.addr Nat.two_pos
    have gx := hg x (List.mem_cons_self ..)
    have gy := hg y (List.mem_cons_of_mem _ (List.mem_cons_self ..))
    show Calls _ _ _ _ fun e1 w' => e1 = .returned (.tuple #[]) ∧ Post w0 B mb (Mv mb t r v f) w (s.apply2 e.d x y) w'
    rcases p2 with k | k | k | k | k | k
    · rw [show s.apply2 e.d x y = s.call x y from if_pos k]
      exact applyCall_any h hv e eb eo hd x y css ab ao c hl k gx.fn
    · rw [show s.apply2 e.d x y = s.inTup 9 x y x by unfold St.apply2; rw [if_neg (by omega), if_neg (by omega), if_neg (by omega), if_neg (by omega), k]]
      exact applySel_any h hv e eb eo hd x y css ab ao c hl k gx.len
    · rw [show s.apply2 e.d x y = s.inTup 11 x y x by unfold St.apply2; rw [if_neg (by omega), if_neg (by omega), if_neg (by omega), if_neg (by omega), k]]
      exact applyDel_any h hv e eb eo hd x y css ab ao c hl k gx.len
    · rw [show s.apply2 e.d x y = s.tag x y by unfold St.apply2; rw [if_neg (by omega), if_pos k]]
      by_cases hy : y.sort = 1
      · rw [show s.tag x y = _ from if_pos hy]
        exact applyTagT h hv e eb eo hd x y css ab ao c hl k hy
      · rw [show s.tag x y = _ from if_neg hy]
        exact applyTagF h hv e eb eo hd x y css ab ao c hl k hy
    · rw [show s.apply2 e.d x y = s.oper e.d.s x y by unfold St.apply2; rw [if_neg (by omega), if_neg (by omega), if_pos k]]
      exact applyOper_any h hv e eb eo hd x y css ab ao c hl k gx.txt gy.txt gx.num gy.num
    · rw [show s.apply2 e.d x y = s.set x y by unfold St.apply2; rw [if_neg (by omega), if_neg (by omega), if_neg (by omega), if_pos k]]
      exact applySet_any h hv hr e eb eo hd x y css ab ao c hl k gx.ref
  have p3 : e.d.kind = 10 ∨ e.d.kind = 12 := by omega
  obtain ⟨x, y, z, rfl⟩ := len3 (hn.trans (parts3 hk (by omega)))
  obtain ⟨ab, ao, rfl⟩ := hl.addr (Nat.succ_pos 2)
  have gz := hg z (List.mem_cons_of_mem _ (List.mem_cons_of_mem _ (List.mem_cons_self ..)))
  rcases p3 with k | k
  · rw [k]; exact applyIns_any h hv e eb eo hd x y z css ab ao c hl k gz.len hc
  · rw [k]; exact applyPut_any h hv e eb eo hd x y z css ab ao c hl k gz.len hc
end
end Go.Proofs.YtpdfjdomjklkbaaGreatDoor

namespace Go.Proofs.YtpdfjdomjklkbaaGreatDoor
open Go.ChangeShapes Go.WideShapes Go.ChangeAt Go.RowKit Go.Sort
set_option linter.unusedVariables false
set_option linter.unusedSimpArgs false

abbrev boxF (eb eo : Nat) (u : Option Addr) (base : Nat) : Obj := .cells #[.pointer (some ⟨eb, eo, none⟩), .pointer u, .int .i64 base] 77
theorem cells3 {w : World} {g : Nat} {x0 x1 x2 : Value} {T : TypeId} {fr : Nat × Nat} (h : w.heap[g]? = some (.cells #[x0, x1, x2] T fr)) :
    w.cell? ⟨g, 0, none⟩ = some x0 ∧ w.cell? ⟨g, 1, none⟩ = some x1 ∧ w.cell? ⟨g, 2, none⟩ = some x2 := by
  refine ⟨?_, ?_, ?_⟩ <;> (rw [Lib.cell_of_heap h]; rfl)
theorem two_boxes (w : World) (o1 o2 : Obj) : ((w.alloc o1).alloc o2).heap[w.heap.size]? = some o1 ∧ ((w.alloc o1).alloc o2).heap[w.heap.size + 1]? = some o2 ∧ Below w.heap.size w ((w.alloc o1).alloc o2) :=
  ⟨(Below.heap_alloc _ _ _ (by rw [World.size_alloc]; omega)).trans (heap_new rfl), heap_new (World.size_alloc _ _), ((Below.refl _ _).alloc (Nat.le_refl _) _).alloc (by rw [World.size_alloc]; omega) _⟩
section
variable {w0 w w' : World} {B mb : Nat} {s : St} {t i r v f nx nm : Value} {rcs vcs fcs : List (List Value)}
variable {A0 : Option Addr} {k0 q1 k1 : Nat} {fs : List Frm} {x : Frm}
theorem Ended.tr (hE : Ended w0 w B mb s t i r A0 k0 q1 k1 nx nm rcs vcs fcs fs x w') :
    Tr w (Mv mb t r (.slice A0 s.vals.length k0) (.slice (some ⟨q1, 0, none⟩) (fs.length + 1) k1)) w' (Mv mb t r (.slice A0 x.base k0) (.slice (some ⟨q1, 0, none⟩) fs.length k1)) :=
  fun b hb hl => ⟨⟨hb.1, hb.2.1, hb.2.2.1, by rw [own_len A0 x.base s.vals.length]; exact hb.2.2.2.1, hb.2.2.2.2⟩, hE.kept b hb.1⟩
theorem Ended.below (hE : Ended w0 w B mb s t i r A0 k0 q1 k1 nx nm rcs vcs fcs fs x w') : Below B w w' := by
  have hB := hE.rep.base.2
  exact ⟨hE.io.1, hE.io.2.1, hE.io.2.2.1, by rw [hE.io.2.2.2]; exact Nat.le_refl _, fun b hb => hE.kept b (by omega)⟩
/-- Values that stand elsewhere than in the machine's own block stand still. -/
theorem Ended.vs (hE : Ended w0 w B mb s t i r A0 k0 q1 k1 nx nm rcs vcs fcs fs x w') {l : List Val} {A : Option Addr} {css : List (List Value)} (h : Vs w0 w (Mv mb t r (.slice A0 s.vals.length k0) (.slice (some ⟨q1, 0, none⟩) (fs.length + 1) k1)) l A css) (hA : 0 < l.length → ∀ a, A = some a → a.block ≠ mb) :
    Vs w0 w' (Mv mb t r (.slice A0 x.base k0) (.slice (some ⟨q1, 0, none⟩) fs.length k1)) l A css :=
  ⟨rd_keepP (P := fun b => b ≠ mb) h.rd hA (fun b hb _ => hE.kept b hb), h.lr.imp (fun a c => VR.keep hE.tr)⟩
theorem below_w0 (hW : Below w0.heap.size w0 w) (hB : w0.heap.size ≤ B) (hb : Below B w w') : Below w0.heap.size w0 w' := hW.trans (hb.mono hB)
def St.ended (s : St) (fs : List Frm) (x : Frm) : St := { s with vals := s.vals.take x.base, frames := fs }
set_option maxHeartbeats 8000000 in
theorem goApply_any (h : Rep w0 B mb s w t i r v f nx nm rcs vcs fcs) (hW : Below w0.heap.size w0 w) (hT : Tab w0) (hv : s.vals.length ≤ 100000000000) (hr : s.refs.length ≤ 100000000000) (ht : s.trace.length ≤ 100000000000) (hf : s.frames.length ≤ 100000000000)
    (fs : List Frm) (x : Frm) (hx : s.frames = fs ++ [x]) (hbs : x.base ≤ s.vals.length) (hk : partsOk x.e.d = true) (eb eo : Nat) (u : Option Addr) (he : EN w0 w (Mv mb t r v f) x.e x.env eb eo (.pointer u)) (l : List Val) (A : Option Addr) (css : List (List Value)) (c : Nat) (hl : Vs w0 w (Mv mb t r v f) l A css) (hA : 0 < l.length → ∀ a, A = some a → a.block ≠ mb) (hn : l.length = x.e.d.pn) (hc : l.length ≤ c ∧ c ≤ maxLen) (hg : ∀ z ∈ l, GoodV s z)
    (q1 : ¬ (x.e.d.kind = 1 ∨ x.e.d.kind = 2 ∨ x.e.d.kind = 3 ∨ x.e.d.kind = 4 ∨ x.e.d.kind = 6 ∨ x.e.d.kind = 7 ∨ x.e.d.kind = 14 ∨ x.e.d.kind = 15 ∨ x.e.d.kind = 22)) :
    Calls Tryz.prog 28 #[.agg #[.pointer (some ⟨mb, 0, none⟩)], .agg #[.pointer (some ⟨eb, eo, none⟩), .pointer u, .int .i64 x.base], .slice A l.length c] w fun e1 w' => e1 = .returned (.tuple #[]) ∧ Post w0 B mb (Mv mb t r v f) w ((s.ended fs x).apply x.e.d l) w' := by
  obtain ⟨A0, k0, rfl, _⟩ := own_cap h.vr
  obtain ⟨hq1, hq2, hb⟩ := two_boxes w (boxM mb) (boxF eb eo u x.base)
  have hp : x.e.d.pn ≤ 4000000 := he.1.1.cap.2.1.2.2
  have HE := Lib.hid (end_any (h.below hb) fs x hx hf hbs hv)
  have HAP := Lib.hid (fun (q1' k1' : Nat) (hff : f = .slice (some ⟨q1', 0, none⟩) (fs.length + 1) k1') (wr : World) (hE : Ended w0 ((w.alloc (boxM mb)).alloc (boxF eb eo u x.base)) B mb s t i r A0 k0 q1' k1' nx nm rcs vcs fcs fs x wr) => (show Calls Tryz.prog 51 #[.agg #[.pointer (some ⟨mb, 0, none⟩)], .pointer (some ⟨eb, eo, none⟩), .slice A l.length c] wr fun e1 w' => e1 = .returned (.tuple #[]) ∧ Post w0 B mb (Mv mb t r (.slice A0 s.vals.length k0) f) w ((s.ended fs x).apply x.e.d l) w' from by
    subst hff
    have hw' : Below w0.heap.size w0 wr := below_w0 (hW.trans (hb.mono (Nat.le_trans h.base.1 (Nat.le_of_lt (Nat.lt_of_le_of_lt h.base.2 h.lt))))) h.base.1 hE.below
    have hT1 : Tr w (Mv mb t r (.slice A0 s.vals.length k0) (.slice (some ⟨q1', 0, none⟩) (fs.length + 1) k1')) wr (Mv mb t r (.slice A0 x.base k0) (.slice (some ⟨q1', 0, none⟩) fs.length k1')) := (Tr.below (P := Mv mb t r (.slice A0 s.vals.length k0) (.slice (some ⟨q1', 0, none⟩) (fs.length + 1) k1')) hb).trans hb.size hE.tr
    have hB1 : Below B w wr := (hb.mono (Nat.le_of_lt (Nat.lt_of_le_of_lt h.base.2 h.lt))).trans hE.below
    refine (apply_any hE.rep (s := s.ended fs x) (by show (s.vals.take x.base).length ≤ _; rw [List.length_take]; omega) hr ht (tab_below hT hw') x.e eb eo (he.1.2.lower hw') hk l A css c (hE.vs (hl.below hb) hA) hn hp hc (fun z hz => ⟨(hg z hz).fn, (hg z hz).ref, (hg z hz).txt, (hg z hz).num, (hg z hz).len⟩) q1).mono ?_
    rintro e1 w' ⟨rfl, hp⟩
    exact ⟨rfl, hp.mono hT1 hB1⟩))
  obtain ⟨f0, f1, f2⟩ := cells3 hq2
  have c0 : ((w.alloc (boxM mb)).alloc (boxF eb eo u x.base)).cell? ⟨w.heap.size, 0, none⟩ = some (.pointer (some ⟨mb, 0, none⟩)) := (by rw [Lib.cell_of_heap hq1]; rfl)
  have HC := Lib.hid (fun (q1' k1' : Nat) (wr : World) (hE : Ended w0 ((w.alloc (boxM mb)).alloc (boxF eb eo u x.base)) B mb s t i r A0 k0 q1' k1' nx nm rcs vcs fcs fs x wr) => (show wr.cell? ⟨w.heap.size, 0, none⟩ = some (.pointer (some ⟨mb, 0, none⟩)) from by rw [Lib.cell_of_heap ((hE.kept _ (Nat.ne_of_gt h.lt)).trans hq1)]; rfl))
  have hdd := (he.1.2.lower hW).lower hb
  have kd := hdd.c0
  have k5 := hdd.c5
  have hkk := partsKind hk
  obtain ⟨K, hK⟩ : ∃ K, x.e.d.kind = K := ⟨_, rfl⟩
  rw [hK] at kd q1 hkk
  have e14 : (K == 14) = false := by simp; omega
  have e6 : (K == 6) = false := by simp; omega
  have e15 : (K == 15) = false := by simp; omega
  rw [hn] at HAP ⊢
  clear h hW hT hv hr ht hf hx hbs hk he hl hA hn hc hg q1 hb hq1 hq2 hdd hK hkk hp
  go_enter Tryz.func28, Tryz.ntmps28
  go_wp2_with (first
    | (go_at_call 49; (with_reducible refine HE.out.mono ?_); rintro e1 w1 ⟨rfl, q1', k1', hff, hE⟩; have c0' := HC.out _ _ _ hE; have HA2 := Lib.hid (HAP.out _ _ hff _ hE); clear hE hff)
    | (go_at_call 51; (with_reducible refine HA2.out.mono ?_); rintro e1 w2 ⟨rfl, hp⟩; have HP := Lib.hid hp; clear hp))
  go_returns
  with_reducible exact ⟨rfl, HP.out⟩
end
end Go.Proofs.YtpdfjdomjklkbaaGreatDoor
