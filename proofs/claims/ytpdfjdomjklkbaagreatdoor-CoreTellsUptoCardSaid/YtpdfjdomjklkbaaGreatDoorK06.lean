/-
  Whether an expression has as many parts as its kind asks for. (Made by gen_mat.py.)
  core's machine begins an expression: its simple kinds.
  core's machine begins an expression: its simple kinds. (Made by gen_mav.py.)
  core's machine begins a function.
  core's machine begins a function that has a name of its own.
  core's machine begins an expression: all kinds.
  core's machine: what an expression comes to, of which all parts have: one or two values handed on. (Made by gen_maz.py.)
-/
import Derived.Test.YtpdfjdomjklkbaaGreatDoorK05
import Derived.StillTailTactics
import Derived.Deep.RegionHeld3
namespace Go.Proofs.YtpdfjdomjklkbaaGreatDoor
open Go.ChangeShapes Go.WideShapes Go.ChangeAt Go.RowKit Go.Sort
set_option linter.unusedVariables false
set_option linter.unusedSimpArgs false

def partsOk (d : ExD) : Bool :=
  if d.kind = 1 ∨ d.kind = 2 ∨ d.kind = 3 ∨ d.kind = 22 then ((d.pn : Int) == 0) else
  if d.kind = 4 ∨ d.kind = 17 ∨ d.kind = 18 ∨ d.kind = 20 ∨ d.kind = 21 then ((d.pn : Int) == 1) else
  if d.kind = 5 ∨ d.kind = 6 ∨ d.kind = 7 ∨ d.kind = 9 ∨ d.kind = 11 ∨ d.kind = 13 ∨ d.kind = 16 ∨ d.kind = 19 then ((d.pn : Int) == 2) else
  if d.kind = 10 ∨ d.kind = 12 ∨ d.kind = 15 then ((d.pn : Int) == 3) else
  if d.kind = 8 then true else
  if d.kind = 14 then (if d.t = [] then ((d.pn : Int) == 1 + 2 * (d.nn : Int)) else ((d.pn : Int) - 1 == 1 + 2 * (d.nn : Int))) else false
set_option maxRecDepth 100000 in
set_option maxHeartbeats 4000000 in
theorem parts_any (d : ExD) (w : World) (eb eo : Nat) (hd : d.At w eb eo) (hp : d.pn ≤ 4000000) (hn : d.nn ≤ 4000000) :
    Calls Tryz.prog 39 #[.pointer (some ⟨eb, eo, none⟩)] w fun e w' => e = .returned (.bool (partsOk d)) ∧ Below w.heap.size w w' := by
  have c0 := hd.c0
  have c3 := hd.c3
  have c4 := hd.c4
  have c5 := hd.c5
  clear hd
  obtain ⟨kind, n, s, t, nA, nn, nc, names, pA, pn, pc⟩ := d
  simp only at c0 c3 c4 c5 hp hn
  have hp1 : (pn : Int) ≤ 4000000 := by omega
  have hn1 : (nn : Int) ≤ 4000000 := by omega
  by_cases h1 : kind = 1
  · subst h1
    go_enter Tryz.func39, Tryz.ntmps39
    go_wp2_with fail
    go_returns
    exact ⟨rfl, Below.refl _ _⟩
  by_cases h2 : kind = 2
  · subst h2
    go_enter Tryz.func39, Tryz.ntmps39
    go_wp2_with fail
    go_returns
    exact ⟨rfl, Below.refl _ _⟩
  by_cases h3 : kind = 3
  · subst h3
    go_enter Tryz.func39, Tryz.ntmps39
    go_wp2_with fail
    go_returns
    exact ⟨rfl, Below.refl _ _⟩
  by_cases h4 : kind = 4
  · subst h4
    go_enter Tryz.func39, Tryz.ntmps39
    go_wp2_with fail
    go_returns
    exact ⟨rfl, Below.refl _ _⟩
  by_cases h5 : kind = 5
  · subst h5
    go_enter Tryz.func39, Tryz.ntmps39
    go_wp2_with fail
    go_returns
    exact ⟨rfl, Below.refl _ _⟩
  by_cases h6 : kind = 6
  · subst h6
    go_enter Tryz.func39, Tryz.ntmps39
    go_wp2_with fail
    go_returns
    exact ⟨rfl, Below.refl _ _⟩
  by_cases h7 : kind = 7
  · subst h7
    go_enter Tryz.func39, Tryz.ntmps39
    go_wp2_with fail
    go_returns
    exact ⟨rfl, Below.refl _ _⟩
  by_cases h8 : kind = 8
  · subst h8
    go_enter Tryz.func39, Tryz.ntmps39
    go_wp2_with fail
    go_returns
    exact ⟨rfl, Below.refl _ _⟩
  by_cases h9 : kind = 9
  · subst h9
    go_enter Tryz.func39, Tryz.ntmps39
    go_wp2_with fail
    go_returns
    exact ⟨rfl, Below.refl _ _⟩
  by_cases h10 : kind = 10
  · subst h10
    go_enter Tryz.func39, Tryz.ntmps39
    go_wp2_with fail
    go_returns
    exact ⟨rfl, Below.refl _ _⟩
  by_cases h11 : kind = 11
  · subst h11
    go_enter Tryz.func39, Tryz.ntmps39
    go_wp2_with fail
    go_returns
    exact ⟨rfl, Below.refl _ _⟩
  by_cases h12 : kind = 12
  · subst h12
    go_enter Tryz.func39, Tryz.ntmps39
    go_wp2_with fail
    go_returns
    exact ⟨rfl, Below.refl _ _⟩
  by_cases h13 : kind = 13
  · subst h13
    go_enter Tryz.func39, Tryz.ntmps39
    go_wp2_with fail
    go_returns
    exact ⟨rfl, Below.refl _ _⟩
  by_cases h15 : kind = 15
  · subst h15
    go_enter Tryz.func39, Tryz.ntmps39
    go_wp2_with fail
    go_returns
    exact ⟨rfl, Below.refl _ _⟩
  by_cases h16 : kind = 16
  · subst h16
    go_enter Tryz.func39, Tryz.ntmps39
    go_wp2_with fail
    go_returns
    exact ⟨rfl, Below.refl _ _⟩
  by_cases h17 : kind = 17
  · subst h17
    go_enter Tryz.func39, Tryz.ntmps39
    go_wp2_with fail
    go_returns
    exact ⟨rfl, Below.refl _ _⟩
  by_cases h18 : kind = 18
  · subst h18
    go_enter Tryz.func39, Tryz.ntmps39
    go_wp2_with fail
    go_returns
    exact ⟨rfl, Below.refl _ _⟩
  by_cases h19 : kind = 19
  · subst h19
    go_enter Tryz.func39, Tryz.ntmps39
    go_wp2_with fail
    go_returns
    exact ⟨rfl, Below.refl _ _⟩
  by_cases h20 : kind = 20
  · subst h20
    go_enter Tryz.func39, Tryz.ntmps39
    go_wp2_with fail
    go_returns
    exact ⟨rfl, Below.refl _ _⟩
  by_cases h21 : kind = 21
  · subst h21
    go_enter Tryz.func39, Tryz.ntmps39
    go_wp2_with fail
    go_returns
    exact ⟨rfl, Below.refl _ _⟩
  by_cases h22 : kind = 22
  · subst h22
    go_enter Tryz.func39, Tryz.ntmps39
    go_wp2_with fail
    go_returns
    exact ⟨rfl, Below.refl _ _⟩
  by_cases h14 : kind = 14
  · subst h14
    by_cases ht : t = []
    · subst ht
      have ft : ((bstr []).toList == []) = true := by rw [bstr_toList]; rfl
      go_enter Tryz.func39, Tryz.ntmps39
      go_wp2_with fail
      go_returns
      exact ⟨rfl, Below.refl _ _⟩
    · have ft : ((bstr t).toList == []) = false := by rw [bstr_toList]; simpa using ht
      have e : partsOk ⟨14, n, s, t, nA, nn, nc, names, pA, pn, pc⟩ = ((pn : Int) - 1 == 1 + 2 * (nn : Int)) := by show (if t = [] then _ else _) = _; rw [if_neg ht]
      rw [e]
      clear e
      go_enter Tryz.func39, Tryz.ntmps39
      go_wp2_with fail
      go_returns
      exact ⟨rfl, Below.refl _ _⟩
  have e : partsOk ⟨kind, n, s, t, nA, nn, nc, names, pA, pn, pc⟩ = false := by simp [partsOk, *]
  rw [e]
  clear e
  go_enter Tryz.func39, Tryz.ntmps39
  go_wp2_with fail
  go_returns
  exact ⟨rfl, Below.refl _ _⟩
end Go.Proofs.YtpdfjdomjklkbaaGreatDoor

namespace Go.Proofs.YtpdfjdomjklkbaaGreatDoor
open Go.ChangeShapes Go.WideShapes Go.ChangeAt Go.RowKit Go.Sort
set_option linter.unusedVariables false
set_option linter.unusedSimpArgs false

section
variable {w0 w : World} {B mb : Nat} {s : St} {t i r v f nx nm : Value} {rcs vcs fcs : List (List Value)}
set_option maxHeartbeats 4000000 in
theorem beginStuck_any (h : Rep w0 B mb s w t i r v f nx nm rcs vcs fcs) (hv : s.vals.length ≤ 100000000000) (e : Ex) (env : Env) (eb eo : Nat) (u : Option Addr) (he : EN w0 w (Mv mb t r v f) e env eb eo (.pointer u)) (hd : e.d.At w eb eo) (hp : e.d.pn ≤ 4000000) (hn : e.d.nn ≤ 4000000) (hk : partsOk e.d = false) :
    Calls Tryz.prog 27 #[.agg #[.pointer (some ⟨mb, 0, none⟩)], .pointer (some ⟨eb, eo, none⟩), .pointer u] w fun e1 w' => e1 = .returned (.tuple #[]) ∧ Post w0 B mb (Mv mb t r v f) w { s with err := 11 } w' := by
  have hb : Below w.heap.size w (w.alloc (.cells #[.pointer (some ⟨mb, 0, none⟩)] 56)) := (Below.refl _ _).alloc (Nat.le_refl _) _
  have HP0 := Lib.hid (parts_any e.d _ eb eo (hd.lower hb) hp hn)
  rw [hk] at HP0
  have HC := Lib.hid (fun (wr : World) (hb : Below w.heap.size w wr) => stuck_any (h.below hb))
  have HB := Lib.hid hb
  have hx := heap_new (w := w) (o := .cells #[.pointer (some ⟨mb, 0, none⟩)] 56) rfl
  have HX := Lib.hid hx
  have HBM := Lib.hid (fun (wr : World) (hb : Below w.heap.size w wr) => And.intro (Tr.below (P := Mv mb t r v f) hb) (hb.mono (Nat.le_of_lt (Nat.lt_of_le_of_lt h.base.2 h.lt))))
  clear h hb he hd hp hn hk hv hx
  go_enter Tryz.func27, Tryz.ntmps27
  go_wp2_with (first
    | (go_at_call 39; (with_reducible refine HP0.out.mono ?_); rintro e1 w1 ⟨rfl, hb1⟩; have c0 : w1.cell? ⟨w.heap.size, 0, none⟩ = some (.pointer (some ⟨mb, 0, none⟩)) := (by rw [Lib.cell_of_heap ((hb1.block _ (lt_of_heap HX.out)).trans HX.out)]; rfl); have HB1 := Lib.hid (below_then HB.out hb1); clear hb1 HP0)
    | (go_at_call 40; (with_reducible refine (HC.out _ HB1.out).mono ?_); rintro e1 w2 ⟨rfl, hp⟩; have HP := Lib.hid hp; clear hp))
  go_returns
  with_reducible exact ⟨rfl, HP.out.mono (HBM.out _ HB1.out).1 (HBM.out _ HB1.out).2⟩
end
end Go.Proofs.YtpdfjdomjklkbaaGreatDoor

namespace Go.Proofs.YtpdfjdomjklkbaaGreatDoor
open Go.ChangeShapes Go.WideShapes Go.ChangeAt Go.RowKit Go.Sort
set_option linter.unusedVariables false
set_option linter.unusedSimpArgs false

section
variable {w0 w : World} {B mb : Nat} {s : St} {t i r v f nx nm : Value} {rcs vcs fcs : List (List Value)}
set_option maxHeartbeats 4000000 in
theorem beginInt_any (h : Rep w0 B mb s w t i r v f nx nm rcs vcs fcs) (hv : s.vals.length ≤ 100000000000)  (e : Ex) (env : Env) (eb eo : Nat) (u : Option Addr) (he : EN w0 w (Mv mb t r v f) e env eb eo (.pointer u)) (hd : e.d.At w eb eo) (hp : e.d.pn ≤ 4000000) (hn : e.d.nn ≤ 4000000) (hk : partsOk e.d = true) (hkd : e.d.kind = 1) :
    Calls Tryz.prog 27 #[.agg #[.pointer (some ⟨mb, 0, none⟩)], .pointer (some ⟨eb, eo, none⟩), .pointer u] w fun e1 w' => e1 = .returned (.tuple #[]) ∧ Post w0 B mb (Mv mb t r v f) w { s with vals := s.vals ++ [.mk 1 e.d.n [] [] none] } w' := by
  have hb : Below w.heap.size w (w.alloc (.cells #[.pointer (some ⟨mb, 0, none⟩)] 56)) := (Below.refl _ _).alloc (Nat.le_refl _) _
  have HP0 := Lib.hid (parts_any e.d _ eb eo (hd.lower hb) hp hn)
  rw [hk] at HP0
  have HC := Lib.hid (fun (wr : World) (hb : Below w.heap.size w wr) => tellE_any (h.below hb) hv 1 e.d.n)
  have HD := Lib.hid (fun (wr : World) (hb : Below w.heap.size w wr) => hd.lower hb)
  have HB := Lib.hid hb
  have hx := heap_new (w := w) (o := .cells #[.pointer (some ⟨mb, 0, none⟩)] 56) rfl
  have HX := Lib.hid hx
  have HBM := Lib.hid (fun (wr : World) (hb : Below w.heap.size w wr) => And.intro (Tr.below (P := Mv mb t r v f) hb) (hb.mono (Nat.le_of_lt (Nat.lt_of_le_of_lt h.base.2 h.lt))))
  have HKD := hkd
  clear h hb he hd hp hn hk hv hx
  go_enter Tryz.func27, Tryz.ntmps27
  go_upto_region 6 with (go_at_call 39; (with_reducible refine HP0.out.mono ?_); rintro e1 w1 ⟨rfl, hb1⟩; have hbw := below_then HB.out hb1; have c0 : w1.cell? ⟨w.heap.size, 0, none⟩ = some (.pointer (some ⟨mb, 0, none⟩)) := (by rw [Lib.cell_of_heap ((hb1.block _ (lt_of_heap HX.out)).trans HX.out)]; rfl); have k0 := (HD.out _ hbw).c0; have k1 := (HD.out _ hbw).c1; have k2 := (HD.out _ hbw).c2; rw [hkd] at k0; have HB1 := Lib.hid hbw; clear hb1 HP0 hbw)
  go_region_law (go_simp; go_at_call 41; (with_reducible refine (HC.out _ (Below.drew HB1.out)).mono ?_); rintro e1 w2 ⟨rfl, hp⟩; have HP := Lib.hid hp; clear hp)
  all_goals
    go_wp2_with fail
    go_returns
    with_reducible exact ⟨rfl, HP.out.mono (HBM.out _ (Below.drew HB1.out)).1 (HBM.out _ (Below.drew HB1.out)).2⟩
set_option maxHeartbeats 4000000 in
theorem beginText_any (h : Rep w0 B mb s w t i r v f nx nm rcs vcs fcs) (hv : s.vals.length ≤ 100000000000)  (e : Ex) (env : Env) (eb eo : Nat) (u : Option Addr) (he : EN w0 w (Mv mb t r v f) e env eb eo (.pointer u)) (hd : e.d.At w eb eo) (hp : e.d.pn ≤ 4000000) (hn : e.d.nn ≤ 4000000) (hk : partsOk e.d = true) (hkd : e.d.kind = 2) :
    Calls Tryz.prog 27 #[.agg #[.pointer (some ⟨mb, 0, none⟩)], .pointer (some ⟨eb, eo, none⟩), .pointer u] w fun e1 w' => e1 = .returned (.tuple #[]) ∧ Post w0 B mb (Mv mb t r v f) w { s with vals := s.vals ++ [.mk 2 0 e.d.s [] none] } w' := by
  have hb : Below w.heap.size w (w.alloc (.cells #[.pointer (some ⟨mb, 0, none⟩)] 56)) := (Below.refl _ _).alloc (Nat.le_refl _) _
  have HP0 := Lib.hid (parts_any e.d _ eb eo (hd.lower hb) hp hn)
  rw [hk] at HP0
  have HC := Lib.hid (fun (wr : World) (hb : Below w.heap.size w wr) => tellS_any (h.below hb) hv 2 0 e.d.s)
  have HD := Lib.hid (fun (wr : World) (hb : Below w.heap.size w wr) => hd.lower hb)
  have HB := Lib.hid hb
  have hx := heap_new (w := w) (o := .cells #[.pointer (some ⟨mb, 0, none⟩)] 56) rfl
  have HX := Lib.hid hx
  have HBM := Lib.hid (fun (wr : World) (hb : Below w.heap.size w wr) => And.intro (Tr.below (P := Mv mb t r v f) hb) (hb.mono (Nat.le_of_lt (Nat.lt_of_le_of_lt h.base.2 h.lt))))
  have HKD := hkd
  clear h hb he hd hp hn hk hv hx
  go_enter Tryz.func27, Tryz.ntmps27
  go_upto_region 8 with (go_at_call 39; (with_reducible refine HP0.out.mono ?_); rintro e1 w1 ⟨rfl, hb1⟩; have hbw := below_then HB.out hb1; have c0 : w1.cell? ⟨w.heap.size, 0, none⟩ = some (.pointer (some ⟨mb, 0, none⟩)) := (by rw [Lib.cell_of_heap ((hb1.block _ (lt_of_heap HX.out)).trans HX.out)]; rfl); have k0 := (HD.out _ hbw).c0; have k1 := (HD.out _ hbw).c1; have k2 := (HD.out _ hbw).c2; rw [hkd] at k0; have HB1 := Lib.hid hbw; clear hb1 HP0 hbw)
  go_region_law (go_simp; go_at_call 41; (with_reducible refine (HC.out _ (Below.drew HB1.out)).mono ?_); rintro e1 w2 ⟨rfl, hp⟩; have HP := Lib.hid hp; clear hp)
  all_goals
    go_wp2_with fail
    go_returns
    with_reducible exact ⟨rfl, HP.out.mono (HBM.out _ (Below.drew HB1.out)).1 (HBM.out _ (Below.drew HB1.out)).2⟩
set_option maxHeartbeats 4000000 in
theorem beginVar_any (h : Rep w0 B mb s w t i r v f nx nm rcs vcs fcs) (hv : s.vals.length ≤ 100000000000)  (e : Ex) (env : Env) (eb eo : Nat) (u : Option Addr) (he : EN w0 w (Mv mb t r v f) e env eb eo (.pointer u)) (hd : e.d.At w eb eo) (hp : e.d.pn ≤ 4000000) (hn : e.d.nn ≤ 4000000) (hk : partsOk e.d = true) (hkd : e.d.kind = 3) :
    Calls Tryz.prog 27 #[.agg #[.pointer (some ⟨mb, 0, none⟩)], .pointer (some ⟨eb, eo, none⟩), .pointer u] w fun e1 w' => e1 = .returned (.tuple #[]) ∧ Post w0 B mb (Mv mb t r v f) w (s.name e.d.s env) w' := by
  have hb : Below w.heap.size w (w.alloc (.cells #[.pointer (some ⟨mb, 0, none⟩)] 56)) := (Below.refl _ _).alloc (Nat.le_refl _) _
  have HP0 := Lib.hid (parts_any e.d _ eb eo (hd.lower hb) hp hn)
  rw [hk] at HP0
  have HC := Lib.hid (fun (wr : World) (hb : Below w.heap.size w wr) => name_any (h.below hb) hv e.d.s env _ (he.2.keep (Tr.below hb)))
  have HD := Lib.hid (fun (wr : World) (hb : Below w.heap.size w wr) => hd.lower hb)
  have HB := Lib.hid hb
  have hx := heap_new (w := w) (o := .cells #[.pointer (some ⟨mb, 0, none⟩)] 56) rfl
  have HX := Lib.hid hx
  have HBM := Lib.hid (fun (wr : World) (hb : Below w.heap.size w wr) => And.intro (Tr.below (P := Mv mb t r v f) hb) (hb.mono (Nat.le_of_lt (Nat.lt_of_le_of_lt h.base.2 h.lt))))
  have HKD := hkd
  clear h hb he hd hp hn hk hv hx
  go_enter Tryz.func27, Tryz.ntmps27
  go_upto_region 10 with (go_at_call 39; (with_reducible refine HP0.out.mono ?_); rintro e1 w1 ⟨rfl, hb1⟩; have hbw := below_then HB.out hb1; have c0 : w1.cell? ⟨w.heap.size, 0, none⟩ = some (.pointer (some ⟨mb, 0, none⟩)) := (by rw [Lib.cell_of_heap ((hb1.block _ (lt_of_heap HX.out)).trans HX.out)]; rfl); have k0 := (HD.out _ hbw).c0; have k1 := (HD.out _ hbw).c1; have k2 := (HD.out _ hbw).c2; rw [hkd] at k0; have HB1 := Lib.hid hbw; clear hb1 HP0 hbw)
  go_region_law (go_simp; go_at_call 42; (with_reducible refine (HC.out _ (Below.drew HB1.out)).mono ?_); rintro e1 w2 ⟨rfl, hp⟩; have HP := Lib.hid hp; clear hp)
  all_goals
    go_wp2_with fail
    go_returns
    with_reducible exact ⟨rfl, HP.out.mono (HBM.out _ (Below.drew HB1.out)).1 (HBM.out _ (Below.drew HB1.out)).2⟩
set_option maxHeartbeats 4000000 in
theorem beginRead_any (h : Rep w0 B mb s w t i r v f nx nm rcs vcs fcs) (hv : s.vals.length ≤ 100000000000) (hi : s.input.length ≤ 100000000000) (e : Ex) (env : Env) (eb eo : Nat) (u : Option Addr) (he : EN w0 w (Mv mb t r v f) e env eb eo (.pointer u)) (hd : e.d.At w eb eo) (hp : e.d.pn ≤ 4000000) (hn : e.d.nn ≤ 4000000) (hk : partsOk e.d = true) (hkd : e.d.kind = 22) :
    Calls Tryz.prog 27 #[.agg #[.pointer (some ⟨mb, 0, none⟩)], .pointer (some ⟨eb, eo, none⟩), .pointer u] w fun e1 w' => e1 = .returned (.tuple #[]) ∧ Post w0 B mb (Mv mb t r v f) w s.read w' := by
  have hb : Below w.heap.size w (w.alloc (.cells #[.pointer (some ⟨mb, 0, none⟩)] 56)) := (Below.refl _ _).alloc (Nat.le_refl _) _
  have HP0 := Lib.hid (parts_any e.d _ eb eo (hd.lower hb) hp hn)
  rw [hk] at HP0
  have HC := Lib.hid (fun (wr : World) (hb : Below w.heap.size w wr) => read_any (h.below hb) hv hi)
  have HD := Lib.hid (fun (wr : World) (hb : Below w.heap.size w wr) => hd.lower hb)
  have HB := Lib.hid hb
  have hx := heap_new (w := w) (o := .cells #[.pointer (some ⟨mb, 0, none⟩)] 56) rfl
  have HX := Lib.hid hx
  have HBM := Lib.hid (fun (wr : World) (hb : Below w.heap.size w wr) => And.intro (Tr.below (P := Mv mb t r v f) hb) (hb.mono (Nat.le_of_lt (Nat.lt_of_le_of_lt h.base.2 h.lt))))
  have HKD := hkd
  clear h hb he hd hp hn hk hv hx
  go_enter Tryz.func27, Tryz.ntmps27
  go_wp2_with (first
    | (go_at_call 39; (with_reducible refine HP0.out.mono ?_); rintro e1 w1 ⟨rfl, hb1⟩; have hbw := below_then HB.out hb1; have c0 : w1.cell? ⟨w.heap.size, 0, none⟩ = some (.pointer (some ⟨mb, 0, none⟩)) := (by rw [Lib.cell_of_heap ((hb1.block _ (lt_of_heap HX.out)).trans HX.out)]; rfl); have k0 := (HD.out _ hbw).c0; have k1 := (HD.out _ hbw).c1; have k2 := (HD.out _ hbw).c2; rw [hkd] at k0; have HB1 := Lib.hid hbw; clear hb1 HP0 hbw)
    | (go_at_call 46; (with_reducible refine (HC.out _ HB1.out).mono ?_); rintro e1 w2 ⟨rfl, hp⟩; have HP := Lib.hid hp; clear hp))
  go_returns
  with_reducible exact ⟨rfl, HP.out.mono (HBM.out _ HB1.out).1 (HBM.out _ HB1.out).2⟩
set_option maxHeartbeats 4000000 in
theorem beginWait_any (h : Rep w0 B mb s w t i r v f nx nm rcs vcs fcs) (hv : s.vals.length ≤ 100000000000) (hf : s.frames.length ≤ 100000000000) (e : Ex) (env : Env) (eb eo : Nat) (u : Option Addr) (he : EN w0 w (Mv mb t r v f) e env eb eo (.pointer u)) (hd : e.d.At w eb eo) (hp : e.d.pn ≤ 4000000) (hn : e.d.nn ≤ 4000000) (hk : partsOk e.d = true) (q1 : ¬ e.d.kind = 1) (q2 : ¬ e.d.kind = 2) (q3 : ¬ e.d.kind = 3) (q4 : ¬ e.d.kind = 4) (q7 : ¬ e.d.kind = 7) (q22 : ¬ e.d.kind = 22) :
    Calls Tryz.prog 27 #[.agg #[.pointer (some ⟨mb, 0, none⟩)], .pointer (some ⟨eb, eo, none⟩), .pointer u] w fun e1 w' => e1 = .returned (.tuple #[]) ∧ Post w0 B mb (Mv mb t r v f) w { s with frames := s.frames ++ [⟨e, env, s.vals.length⟩] } w' := by
  have hb : Below w.heap.size w (w.alloc (.cells #[.pointer (some ⟨mb, 0, none⟩)] 56)) := (Below.refl _ _).alloc (Nat.le_refl _) _
  have HP0 := Lib.hid (parts_any e.d _ eb eo (hd.lower hb) hp hn)
  rw [hk] at HP0
  have HC := Lib.hid (fun (wr : World) (hb : Below w.heap.size w wr) => wait_any (h.below hb) hv hf e env eb eo u ⟨he.1, he.2.keep (Tr.below hb)⟩)
  have HD := Lib.hid (fun (wr : World) (hb : Below w.heap.size w wr) => hd.lower hb)
  have HB := Lib.hid hb
  have hx := heap_new (w := w) (o := .cells #[.pointer (some ⟨mb, 0, none⟩)] 56) rfl
  have HX := Lib.hid hx
  have HBM := Lib.hid (fun (wr : World) (hb : Below w.heap.size w wr) => And.intro (Tr.below (P := Mv mb t r v f) hb) (hb.mono (Nat.le_of_lt (Nat.lt_of_le_of_lt h.base.2 h.lt))))
  have f1 : (e.d.kind == 1) = false := by simpa using q1
  have f2 : (e.d.kind == 2) = false := by simpa using q2
  have f3 : (e.d.kind == 3) = false := by simpa using q3
  have f4 : (e.d.kind == 4) = false := by simpa using q4
  have f7 : (e.d.kind == 7) = false := by simpa using q7
  have f22 : (e.d.kind == 22) = false := by simpa using q22
  clear h hb he hd hp hn hk hv hx
  go_enter Tryz.func27, Tryz.ntmps27
  go_wp2_with (first
    | (go_at_call 39; (with_reducible refine HP0.out.mono ?_); rintro e1 w1 ⟨rfl, hb1⟩; have hbw := below_then HB.out hb1; have c0 : w1.cell? ⟨w.heap.size, 0, none⟩ = some (.pointer (some ⟨mb, 0, none⟩)) := (by rw [Lib.cell_of_heap ((hb1.block _ (lt_of_heap HX.out)).trans HX.out)]; rfl); have k0 := (HD.out _ hbw).c0; have k1 := (HD.out _ hbw).c1; have k2 := (HD.out _ hbw).c2; have HB1 := Lib.hid hbw; clear hb1 HP0 hbw)
    | (go_at_call 47; (with_reducible refine (HC.out _ HB1.out).mono ?_); rintro e1 w2 ⟨rfl, hp⟩; have HP := Lib.hid hp; clear hp))
  go_returns
  with_reducible exact ⟨rfl, HP.out.mono (HBM.out _ HB1.out).1 (HBM.out _ HB1.out).2⟩
end
end Go.Proofs.YtpdfjdomjklkbaaGreatDoor

namespace Go.Proofs.YtpdfjdomjklkbaaGreatDoor
open Go.ChangeShapes Go.WideShapes Go.ChangeAt Go.RowKit Go.Sort
set_option linter.unusedVariables false
set_option linter.unusedSimpArgs false

theorem lambda2_any (w0 w : World) (P : Nat → Prop) (hP : ∀ b, w.heap.size ≤ b → P b) (x : Str) (e : Ex) (env : Env) (eb eo : Nat) (u : Option Addr) (he : EN w0 w P e env eb eo (.pointer u)) :
    Calls Tryz.prog 43 #[.string (bstr x), .pointer (some ⟨eb, eo, none⟩), .pointer u] w fun e1 w' => ∃ q : Option Addr, e1 = .returned (.agg #[.int .i64 3, .int .i64 0, .string (bstr []), .slice none 0 0, .slice none 0 0, .pointer q]) ∧ VR w0 w' P (.mk 3 0 [] [] (some (.mk [] false x e env))) [.int .i64 3, .int .i64 0, .string (bstr []), .slice none 0 0, .slice none 0 0, .pointer q] ∧ Below w.heap.size w w' := by
  refine (lambda_any w0 w P hP x e env eb eo u he).mono ?_
  rintro e1 w1 ⟨c5, rfl, hv, hb⟩
  obtain ⟨A, c, q, e⟩ := hv.six
  simp only [List.cons.injEq, and_true] at e
  obtain ⟨_, _, _, _, _, rfl⟩ := e
  exact ⟨q, rfl, hv, hb⟩
theorem named2_any (w0 w : World) (P : Nat → Prop) (hP : ∀ b, w.heap.size ≤ b → P b) (self x : Str) (e : Ex) (env : Env) (eb eo : Nat) (u : Option Addr) (he : EN w0 w P e env eb eo (.pointer u)) :
    Calls Tryz.prog 45 #[.string (bstr self), .string (bstr x), .pointer (some ⟨eb, eo, none⟩), .pointer u] w fun e1 w' => ∃ q : Option Addr, e1 = .returned (.agg #[.int .i64 3, .int .i64 0, .string (bstr []), .slice none 0 0, .slice none 0 0, .pointer q]) ∧ VR w0 w' P (.mk 3 0 [] [] (some (.mk self true x e env))) [.int .i64 3, .int .i64 0, .string (bstr []), .slice none 0 0, .slice none 0 0, .pointer q] ∧ Below w.heap.size w w' := by
  refine (named_any w0 w P hP self x e env eb eo u he).mono ?_
  rintro e1 w1 ⟨c5, rfl, hv, hb⟩
  obtain ⟨A, c, q, e⟩ := hv.six
  simp only [List.cons.injEq, and_true] at e
  obtain ⟨_, _, _, _, _, rfl⟩ := e
  exact ⟨q, rfl, hv, hb⟩
section
variable {w0 w : World} {B mb : Nat} {s : St} {t i r v f nx nm : Value} {rcs vcs fcs : List (List Value)}
theorem tellFn_any (h : Rep w0 B mb s w t i r v f nx nm rcs vcs fcs) (hn : s.vals.length ≤ 100000000000) (g : Fnc) (q : Option Addr) (hz : VR w0 w (Mv mb t r v f) (.mk 3 0 [] [] (some g)) [.int .i64 3, .int .i64 0, .string (bstr []), .slice none 0 0, .slice none 0 0, .pointer q]) :
    Calls Tryz.prog 41 #[.pointer (some ⟨mb, 0, none⟩), .agg #[.int .i64 3, .int .i64 0, .string (bstr []), .slice none 0 0, .slice none 0 0, .pointer q]] w fun e w' => e = .returned (.tuple #[]) ∧ Post w0 B mb (Mv mb t r v f) w { s with vals := s.vals ++ [.mk 3 0 [] [] (some g)] } w' :=
  tell_any h hn (.mk 3 0 [] [] (some g)) hz
set_option maxHeartbeats 8000000 in
theorem beginFn_any (h : Rep w0 B mb s w t i r v f nx nm rcs vcs fcs) (hv : s.vals.length ≤ 100000000000) (e x : Ex) (env : Env) (eb eo : Nat) (u : Option Addr) (he : EN w0 w (Mv mb t r v f) e env eb eo (.pointer u)) (hd : e.d.At w eb eo) (hl : e.l = [x]) (hp : e.d.pn ≤ 4000000) (hn : e.d.nn ≤ 4000000) (hk : partsOk e.d = true) (hkd : e.d.kind = 4) :
    Calls Tryz.prog 27 #[.agg #[.pointer (some ⟨mb, 0, none⟩)], .pointer (some ⟨eb, eo, none⟩), .pointer u] w fun e1 w' => e1 = .returned (.tuple #[]) ∧ Post w0 B mb (Mv mb t r v f) w { s with vals := s.vals ++ [.mk 3 0 [] [] (some (.mk [] false e.d.s x env))] } w' := by
  have hb : Below w.heap.size w (w.alloc (.cells #[.pointer (some ⟨mb, 0, none⟩)] 56)) := (Below.refl _ _).alloc (Nat.le_refl _) _
  have HP0 := Lib.hid (parts_any e.d _ eb eo (hd.lower hb) hp hn)
  rw [hk] at HP0
  obtain ⟨pb, po, hpA, hAt⟩ := he.1.1.part (k := 0) (by rw [hl]; exact Nat.one_pos)
  have hpn : e.d.pn = 1 := by rw [← he.1.1.len, hl]; rfl
  have hxA : x.d.At w0 pb po := by have := hAt 0 (by rw [hl]; exact Nat.one_pos); simpa [hl] using this
  have hxI : x.In w0 := he.1.1.sub x (by rw [hl]; exact List.mem_singleton_self x)
  have HL := Lib.hid (fun (wr : World) (hb : Below w.heap.size w wr) => lambda2_any w0 wr (Mv mb t r v f) (fun b hbb => (h.below hb).mvNew b hbb) e.d.s x env pb po u ⟨⟨hxI, hxA⟩, he.2.keep (Tr.below hb)⟩)
  have HC := Lib.hid (fun (wr : World) (hb : Below w.heap.size w wr) (q : Option Addr) hz => tellFn_any (h.below hb) hv (.mk [] false e.d.s x env) q hz)
  have HD := Lib.hid (fun (wr : World) (hb : Below w.heap.size w wr) => hd.lower hb)
  have HB := Lib.hid hb
  have hx := heap_new (w := w) (o := .cells #[.pointer (some ⟨mb, 0, none⟩)] 56) rfl
  have HX := Lib.hid hx
  have HBM := Lib.hid (fun (wr : World) (hb : Below w.heap.size w wr) => And.intro (Tr.below (P := Mv mb t r v f) hb) (hb.mono (Nat.le_of_lt (Nat.lt_of_le_of_lt h.base.2 h.lt))))
  clear h hb he hd hp hn hk hv hx hl hAt hxA hxI
  go_enter Tryz.func27, Tryz.ntmps27
  go_upto_region 12 with (go_at_call 39; (with_reducible refine HP0.out.mono ?_); rintro e1 w1 ⟨rfl, hb1⟩; have hbw := below_then HB.out hb1; have c0 : w1.cell? ⟨w.heap.size, 0, none⟩ = some (.pointer (some ⟨mb, 0, none⟩)) := (by rw [Lib.cell_of_heap ((hb1.block _ (lt_of_heap HX.out)).trans HX.out)]; rfl); have k0 := (HD.out _ hbw).c0; have k2 := (HD.out _ hbw).c2; have k5 := (HD.out _ hbw).c5; rw [hkd] at k0; rw [hpA, hpn] at k5; have HB1 := Lib.hid hbw; clear hb1 HP0 hbw)
  go_region_law (first
    | (go_simp; go_at_call 43; (with_reducible refine (HL.out _ (Below.drew HB1.out)).mono ?_); rintro e1 w2 ⟨q, rfl, hv2, hb2⟩; have hb3 := below_then (Below.drew HB1.out) hb2; have c0' : w2.cell? ⟨w.heap.size, 0, none⟩ = some (.pointer (some ⟨mb, 0, none⟩)) := cell_below hb2 c0; have HB2 := Lib.hid hb3; have HT := Lib.hid (HC.out _ hb3 q hv2); clear hb2 hb3 hv2)
    | (go_simp; go_at_call 41; (with_reducible refine HT.out.mono ?_); rintro e1 w3 ⟨rfl, hp⟩; have HP := Lib.hid hp; clear hp))
  all_goals
    go_wp2_with fail
    go_returns
    with_reducible exact ⟨rfl, HP.out.mono (HBM.out _ HB2.out).1 (HBM.out _ HB2.out).2⟩
end
end Go.Proofs.YtpdfjdomjklkbaaGreatDoor

namespace Go.Proofs.YtpdfjdomjklkbaaGreatDoor
open Go.ChangeShapes Go.WideShapes Go.ChangeAt Go.RowKit Go.Sort
set_option linter.unusedVariables false
set_option linter.unusedSimpArgs false

section
variable {w0 w : World} {B mb : Nat} {s : St} {t i r v f nx nm : Value} {rcs vcs fcs : List (List Value)}
theorem Rep.eblt (h : Rep w0 B mb s w t i r v f nx nm rcs vcs fcs) {b : Nat} (hb : b < w0.heap.size) : Mv mb t r v f b := h.mv b (by have := h.base.1; omega)
theorem cell_tr {P Q : Nat → Prop} {wr w3 : World} (hT : Tr wr P w3 Q) {b o : Nat} (hP : P b) {u : Value} (hc : wr.cell? ⟨b, o, none⟩ = some u) : w3.cell? ⟨b, o, none⟩ = some u := by
  have hl : b < wr.heap.size := block_lt_of_cell hc
  rw [World.cell?_of_block (hT b hP hl).2]; exact hc
theorem ExD.At.blt {w : World} {d : ExD} {b o : Nat} (h : d.At w b o) : b < w.heap.size := block_lt_of_cell h.c0
theorem keep4 (h : Rep w0 B mb s w t i r v f nx nm rcs vcs fcs) {wr w3 : World} {s' : St} (hb : Below w.heap.size w wr) {d : ExD} {eb eo : Nat} (hd : d.At w0 eb eo) {o2 o3 o5 : Nat} {u0 u2 u3 u5 : Value} (hS : wr.cell? ⟨w.heap.size, 0, none⟩ = some u0 ∧ wr.cell? ⟨eb, o2, none⟩ = some u2 ∧ wr.cell? ⟨eb, o3, none⟩ = some u3 ∧ wr.cell? ⟨eb, o5, none⟩ = some u5) (hp : Post w0 B mb (Mv mb t r v f) wr s' w3) :
    w3.cell? ⟨w.heap.size, 0, none⟩ = some u0 ∧ w3.cell? ⟨eb, o2, none⟩ = some u2 ∧ w3.cell? ⟨eb, o3, none⟩ = some u3 ∧ w3.cell? ⟨eb, o5, none⟩ = some u5 := by
  obtain ⟨t', i', r', v', f', nx', nm', rcs', vcs', fcs', h1, h2, h3⟩ := hp
  have he := h.eblt hd.blt
  exact ⟨cell_tr h2 (h.mvNew _ (Nat.le_refl _)) hS.1, cell_tr h2 he hS.2.1, cell_tr h2 he hS.2.2.1, cell_tr h2 he hS.2.2.2⟩
set_option maxHeartbeats 8000000 in
theorem beginRec_any (h : Rep w0 B mb s w t i r v f nx nm rcs vcs fcs) (hv : s.vals.length ≤ 100000000000) (e x y : Ex) (env : Env) (eb eo : Nat) (u : Option Addr) (he : EN w0 w (Mv mb t r v f) e env eb eo (.pointer u)) (hd : e.d.At w eb eo) (hl : e.l = [x, y]) (hp : e.d.pn ≤ 4000000) (hn : e.d.nn ≤ 4000000) (hk : partsOk e.d = true) (hkd : e.d.kind = 7) :
    Calls Tryz.prog 27 #[.agg #[.pointer (some ⟨mb, 0, none⟩)], .pointer (some ⟨eb, eo, none⟩), .pointer u] w fun e1 w' => e1 = .returned (.tuple #[]) ∧ Post w0 B mb (Mv mb t r v f) w { s with next := some (y, (e.d.s, .mk 3 0 [] [] (some (.mk e.d.s true e.d.t x env))) :: env) } w' := by
  have hb : Below w.heap.size w (w.alloc (.cells #[.pointer (some ⟨mb, 0, none⟩)] 56)) := (Below.refl _ _).alloc (Nat.le_refl _) _
  have HP0 := Lib.hid (parts_any e.d _ eb eo (hd.lower hb) hp hn)
  rw [hk] at HP0
  obtain ⟨pb, po, hpA, hAt⟩ := he.1.1.part (k := 0) (by rw [hl]; exact (show 0 < 2 by decide))
  have hpn : e.d.pn = 2 := by rw [← he.1.1.len, hl]; rfl
  have hxA : x.d.At w0 pb po := by have := hAt 0 (by rw [hl]; exact (show 0 < 2 by decide)); simpa [hl] using this
  have hxI : x.In w0 := he.1.1.sub x (by rw [hl]; simp)
  have hyA : y.d.At w0 pb (po + 6) := by have := hAt 1 (by rw [hl]; exact (show 1 < 2 by decide)); simpa [hl] using this
  have hyI : y.In w0 := he.1.1.sub y (by rw [hl]; simp)
  have HL := Lib.hid (fun (wr : World) (hb : Below w.heap.size w wr) => named2_any w0 wr (Mv mb t r v f) (fun b hbb => (h.below hb).mvNew b hbb) e.d.s e.d.t x env pb po u ⟨⟨hxI, hxA⟩, he.2.keep (Tr.below hb)⟩)
  have HC := Lib.hid (fun (wr : World) (hb : Below w.heap.size w wr) (q : Option Addr) hz => bind_any (h.below hb) y env pb (po + 6) u ⟨⟨hyI, hyA⟩, he.2.keep (Tr.below hb)⟩ e.d.s (.mk 3 0 [] [] (some (.mk e.d.s true e.d.t x env))) (.int .i64 3) (.int .i64 0) (.string (bstr [])) (.slice none 0 0) (.slice none 0 0) (.pointer q) hz)
  have HD := Lib.hid (fun (wr : World) (hb : Below w.heap.size w wr) => hd.lower hb)
  have HB := Lib.hid hb
  have hx := heap_new (w := w) (o := .cells #[.pointer (some ⟨mb, 0, none⟩)] 56) rfl
  have HX := Lib.hid hx
  have HBM := Lib.hid (fun (wr : World) (hb : Below w.heap.size w wr) => And.intro (Tr.below (P := Mv mb t r v f) hb) (hb.mono (Nat.le_of_lt (Nat.lt_of_le_of_lt h.base.2 h.lt))))
  have HK := Lib.hid (fun (wr w3 : World) (hb : Below w.heap.size w wr) (hS : wr.cell? ⟨w.heap.size, 0, none⟩ = some (.pointer (some ⟨mb, 0, none⟩)) ∧ wr.cell? ⟨eb, eo + 2, none⟩ = some (.string (bstr e.d.s)) ∧ wr.cell? ⟨eb, eo + 3, none⟩ = some (.string (bstr e.d.t)) ∧ wr.cell? ⟨eb, eo + 5, none⟩ = some (.slice (some ⟨pb, po, none⟩) 2 e.d.pc)) (hp : Post w0 B mb (Mv mb t r v f) wr { s with next := some (y, (e.d.s, .mk 3 0 [] [] (some (.mk e.d.s true e.d.t x env))) :: env) } w3) => keep4 h hb he.1.2 hS hp)
  clear h hb he hd hp hn hk hv hx hl hAt hxA hxI hyA hyI
  go_enter Tryz.func27, Tryz.ntmps27
  go_upto_region 14 with (go_at_call 39; (with_reducible refine HP0.out.mono ?_); rintro e1 w1 ⟨rfl, hb1⟩; have hbw := below_then HB.out hb1; have c0 : w1.cell? ⟨w.heap.size, 0, none⟩ = some (.pointer (some ⟨mb, 0, none⟩)) := (by rw [Lib.cell_of_heap ((hb1.block _ (lt_of_heap HX.out)).trans HX.out)]; rfl); have k0 := (HD.out _ hbw).c0; have k2 := (HD.out _ hbw).c2; have k3 := (HD.out _ hbw).c3; have k5 := (HD.out _ hbw).c5; rw [hkd] at k0; rw [hpA, hpn] at k5; have HB1 := Lib.hid hbw; clear hb1 HP0 hbw)
  have HD1 := Lib.hid (below_then HB1.out (below_drew1 w1))
  have HS1 := Lib.hid (show (fun V : World => V.cell? ⟨w.heap.size, 0, none⟩ = some (.pointer (some ⟨mb, 0, none⟩)) ∧ V.cell? ⟨eb, eo + 2, none⟩ = some (.string (bstr e.d.s)) ∧ V.cell? ⟨eb, eo + 3, none⟩ = some (.string (bstr e.d.t)) ∧ V.cell? ⟨eb, eo + 5, none⟩ = some (.slice (some ⟨pb, po, none⟩) 2 e.d.pc)) w1.drew from ⟨cell_below (below_drew1 w1) c0, cell_below (below_drew1 w1) k2, cell_below (below_drew1 w1) k3, cell_below (below_drew1 w1) k5⟩)
  have HLD := Lib.hid (HL.out _ HD1.out)
  clear c0 k0 k2 k3 k5
  go_region_held3 (fun V => V.cell? ⟨w.heap.size, 0, none⟩ = some (.pointer (some ⟨mb, 0, none⟩)) ∧ V.cell? ⟨eb, eo + 2, none⟩ = some (.string (bstr e.d.s)) ∧ V.cell? ⟨eb, eo + 3, none⟩ = some (.string (bstr e.d.t)) ∧ V.cell? ⟨eb, eo + 5, none⟩ = some (.slice (some ⟨pb, po, none⟩) 2 e.d.pc))
    (first | with_reducible exact HS1.out | with_reducible exact HS2.out | with_reducible exact HS3.out | fail)
    (first
    | (go_at_call 45; (with_reducible refine HLD.out.mono ?_); rintro e1 w2 ⟨q, rfl, hv2, hb2⟩; have hb3 := below_then HD1.out hb2; have HB2 := Lib.hid hb3; have HS2 := Lib.hid (And.intro (cell_below hb2 HS1.out.1) (And.intro (cell_below hb2 HS1.out.2.1) (And.intro (cell_below hb2 HS1.out.2.2.1) (cell_below hb2 HS1.out.2.2.2)))); have HT := Lib.hid (HC.out _ hb3 q hv2); clear hb2 hb3 hv2)
    | (go_at_call 44; (with_reducible refine HT.out.mono ?_); rintro e1 w3 ⟨rfl, hp⟩; have HP := Lib.hid hp; have HS3 := Lib.hid (HK.out _ _ HB2.out HS2.out hp); clear hp)
    | fail)
  all_goals
    go_wp2_with fail
    go_returns
    with_reducible exact ⟨rfl, HP.out.mono (HBM.out _ HB2.out).1 (HBM.out _ HB2.out).2⟩
end
end Go.Proofs.YtpdfjdomjklkbaaGreatDoor

namespace Go.Proofs.YtpdfjdomjklkbaaGreatDoor
open Go.ChangeShapes Go.WideShapes Go.ChangeAt Go.RowKit Go.Sort
set_option linter.unusedVariables false
set_option linter.unusedSimpArgs false

def St.begin (s : St) (e : Ex) (env : Env) : St :=
  if partsOk e.d = false then { s with err := 11 }
  else if e.d.kind = 1 then { s with vals := s.vals ++ [.mk 1 e.d.n [] [] none] }
  else if e.d.kind = 2 then { s with vals := s.vals ++ [.mk 2 0 e.d.s [] none] }
  else if e.d.kind = 3 then s.name e.d.s env
  else if e.d.kind = 4 then (match e.l with
    | [x] => { s with vals := s.vals ++ [.mk 3 0 [] [] (some (.mk [] false e.d.s x env))] }
    | _ => s)
  else if e.d.kind = 7 then (match e.l with
    | [x, y] => { s with next := some (y, (e.d.s, .mk 3 0 [] [] (some (.mk e.d.s true e.d.t x env))) :: env) }
    | _ => s)
  else if e.d.kind = 22 then s.read
  else { s with frames := s.frames ++ [⟨e, env, s.vals.length⟩] }
theorem len1 {α : Type} {l : List α} (h : l.length = 1) : ∃ x, l = [x] := by
  match l, h with
  | [x], _ => exact ⟨x, rfl⟩
theorem len2 {α : Type} {l : List α} (h : l.length = 2) : ∃ x y, l = [x, y] := by
  match l, h with
  | [x, y], _ => exact ⟨x, y, rfl⟩
theorem len3 {α : Type} {l : List α} (h : l.length = 3) : ∃ x y z, l = [x, y, z] := by
  match l, h with
  | [x, y, z], _ => exact ⟨x, y, z, rfl⟩
theorem parts1 {d : ExD} (h : partsOk d = true) (hk : d.kind = 4 ∨ d.kind = 17 ∨ d.kind = 18 ∨ d.kind = 20 ∨ d.kind = 21) : d.pn = 1 := by
  unfold partsOk at h
  rw [if_neg (by omega), if_pos (by omega)] at h
  have := of_decide_eq_true h
  omega
theorem parts2 {d : ExD} (h : partsOk d = true) (hk : d.kind = 5 ∨ d.kind = 6 ∨ d.kind = 7 ∨ d.kind = 9 ∨ d.kind = 11 ∨ d.kind = 13 ∨ d.kind = 16 ∨ d.kind = 19) : d.pn = 2 := by
  unfold partsOk at h
  rw [if_neg (by omega), if_neg (by omega), if_pos (by omega)] at h
  have := of_decide_eq_true h
  omega
theorem parts3 {d : ExD} (h : partsOk d = true) (hk : d.kind = 10 ∨ d.kind = 12 ∨ d.kind = 15) : d.pn = 3 := by
  unfold partsOk at h
  rw [if_neg (by omega), if_neg (by omega), if_neg (by omega), if_pos (by omega)] at h
  have := of_decide_eq_true h
  omega
theorem partsC {d : ExD} (h : partsOk d = true) (hk : d.kind = 14) : d.pn = 1 + 2 * d.nn + (if d.t = [] then 0 else 1) := by
  unfold partsOk at h
  rw [if_neg (by omega), if_neg (by omega), if_neg (by omega), if_neg (by omega), if_neg (by omega), if_pos hk] at h
  split at h
  · rename_i ht
    rw [if_pos ht]
    have := of_decide_eq_true h
    omega
  · rename_i ht
    rw [if_neg ht]
    have := of_decide_eq_true h
    omega
theorem partsKind {d : ExD} (h : partsOk d = true) : 1 ≤ d.kind ∧ d.kind ≤ 22 := by
  unfold partsOk at h
  repeat' split at h
  all_goals first | omega | cases h
section
variable {w0 w : World} {B mb : Nat} {s : St} {t i r v f nx nm : Value} {rcs vcs fcs : List (List Value)}
theorem beginAll_any (h : Rep w0 B mb s w t i r v f nx nm rcs vcs fcs) (hv : s.vals.length ≤ 100000000000) (hf : s.frames.length ≤ 100000000000) (hi : s.input.length ≤ 100000000000) (e : Ex) (env : Env) (eb eo : Nat) (u : Option Addr) (he : EN w0 w (Mv mb t r v f) e env eb eo (.pointer u)) (hd : e.d.At w eb eo) :
    Calls Tryz.prog 27 #[.agg #[.pointer (some ⟨mb, 0, none⟩)], .pointer (some ⟨eb, eo, none⟩), .pointer u] w fun e1 w' => e1 = .returned (.tuple #[]) ∧ Post w0 B mb (Mv mb t r v f) w (s.begin e env) w' := by
  have hp : e.d.pn ≤ 4000000 := he.1.1.cap.2.1.2.2
  have hn : e.d.nn ≤ 4000000 := he.1.1.cap.1.2.2
  have hl := he.1.1.len
  by_cases hk : partsOk e.d = false
  · rw [show s.begin e env = _ from if_pos hk]
    exact beginStuck_any h hv e env eb eo u he hd hp hn hk
  have hk' : partsOk e.d = true := by simpa using hk
  rw [show s.begin e env = _ from if_neg hk]
  by_cases q1 : e.d.kind = 1
  · rw [if_pos q1]
    exact beginInt_any h hv e env eb eo u he hd hp hn hk' q1
  rw [if_neg q1]
  by_cases q2 : e.d.kind = 2
  · rw [if_pos q2]
    exact beginText_any h hv e env eb eo u he hd hp hn hk' q2
  rw [if_neg q2]
  by_cases q3 : e.d.kind = 3
  · rw [if_pos q3]
    exact beginVar_any h hv e env eb eo u he hd hp hn hk' q3
  rw [if_neg q3]
  by_cases q4 : e.d.kind = 4
  · rw [if_pos q4]
    obtain ⟨x, hx⟩ := len1 (hl.trans (parts1 hk' (.inl q4)))
    rw [hx]
    exact beginFn_any h hv e x env eb eo u he hd hx hp hn hk' q4
  rw [if_neg q4]
  by_cases q7 : e.d.kind = 7
  · rw [if_pos q7]
    obtain ⟨x, y, hx⟩ := len2 (hl.trans (parts2 hk' (.inr (.inr (.inl q7)))))
    rw [hx]
    exact beginRec_any h hv e x y env eb eo u he hd hx hp hn hk' q7
  rw [if_neg q7]
  by_cases q22 : e.d.kind = 22
  · rw [if_pos q22]
    exact beginRead_any h hv hi e env eb eo u he hd hp hn hk' q22
  rw [if_neg q22]
  exact beginWait_any h hv hf e env eb eo u he hd hp hn hk' q1 q2 q3 q4 q7 q22
end
end Go.Proofs.YtpdfjdomjklkbaaGreatDoor

namespace Go.Proofs.YtpdfjdomjklkbaaGreatDoor
open Go.ChangeShapes Go.WideShapes Go.ChangeAt Go.RowKit Go.Sort
set_option linter.unusedVariables false
set_option linter.unusedSimpArgs false

/-- One of the values that lie side by side: where it lies. -/
theorem Vs.six {w0 w : World} {P : Nat → Prop} {l : List Val} {ab ao : Nat} {css : List (List Value)} (h : Vs w0 w P l (some ⟨ab, ao, none⟩) css) (k : Nat) {z : Val} (hk : l[k]? = some z) (o1 o2 o3 o4 o5 o6 : Nat) (ho : o1 = ao + k * 6 ∧ o2 = ao + k * 6 + 1 ∧ o3 = ao + k * 6 + 2 ∧ o4 = ao + k * 6 + 3 ∧ o5 = ao + k * 6 + 4 ∧ o6 = ao + k * 6 + 5) :
    ∃ (A : Option Addr) (c : Nat) (p : Option Addr), VR w0 w P z [.int .i64 z.sort, .int .i64 z.n, .string (bstr z.s), .slice none 0 0, .slice A z.l.length c, .pointer p] ∧
      (w.cell? ⟨ab, o1, none⟩ = some (.int .i64 z.sort) ∧ w.cell? ⟨ab, o2, none⟩ = some (.int .i64 z.n) ∧ w.cell? ⟨ab, o3, none⟩ = some (.string (bstr z.s)) ∧ w.cell? ⟨ab, o4, none⟩ = some (.slice none 0 0) ∧ w.cell? ⟨ab, o5, none⟩ = some (.slice A z.l.length c) ∧ w.cell? ⟨ab, o6, none⟩ = some (.pointer p)) := by
  obtain ⟨r1, r2, r3, r4, r5, r6⟩ := ho
  subst r1 r2 r3 r4 r5 r6
  have hkl : k < l.length := (List.getElem?_eq_some_iff.1 hk).1
  have hz : l[k] = z := (List.getElem?_eq_some_iff.1 hk).2
  obtain ⟨cs, hcs, hv⟩ := h.lr.get hkl
  rw [hz] at hv
  obtain ⟨A, c, p, rfl⟩ := hv.six
  obtain ⟨b, o, e, hb, hh⟩ := h.rd.base (by rw [h.rd.1]; omega)
  injection e with e
  injection e with e1 e2
  subst e1 e2
  have h6 := VR.lens h.lr
  exact ⟨A, c, p, hv, hh (k * 6 + 0) _ (flat_at2 h6 hcs (j := 0) rfl), hh (k * 6 + 1) _ (flat_at2 h6 hcs (j := 1) rfl), hh (k * 6 + 2) _ (flat_at2 h6 hcs (j := 2) rfl), hh (k * 6 + 3) _ (flat_at2 h6 hcs (j := 3) rfl), hh (k * 6 + 4) _ (flat_at2 h6 hcs (j := 4) rfl), hh (k * 6 + 5) _ (flat_at2 h6 hcs (j := 5) rfl)⟩
section
variable {w0 w : World} {B mb : Nat} {s : St} {t i r v f nx nm : Value} {rcs vcs fcs : List (List Value)}
set_option maxHeartbeats 8000000 in
theorem applyRef_any (h : Rep w0 B mb s w t i r v f nx nm rcs vcs fcs) (hv : s.vals.length ≤ 100000000000) (hr : s.refs.length ≤ 100000000000) (e : Ex) (eb eo : Nat) (hd : e.d.At w eb eo) (x : Val) (css : List (List Value)) (ab ao c : Nat) (hl : Vs w0 w (Mv mb t r v f) [x] (some ⟨ab, ao, none⟩) css) (hkd : e.d.kind = 17) :
    Calls Tryz.prog 51 #[.agg #[.pointer (some ⟨mb, 0, none⟩)], .pointer (some ⟨eb, eo, none⟩), .slice (some ⟨ab, ao, none⟩) 1 c] w fun e1 w' => e1 = .returned (.tuple #[]) ∧ Post w0 B mb (Mv mb t r v f) w { s with refs := s.refs ++ [x], vals := s.vals ++ [.mk 6 s.refs.length [] [] none] } w' := by
  have hb : Below w.heap.size w (w.alloc (.cells #[.pointer (some ⟨mb, 0, none⟩)] 56)) := (Below.refl _ _).alloc (Nat.le_refl _) _
  obtain ⟨A0, kc0, p0, hz0, g00, g01, g02, g03, g04, g05⟩ := (hl.below hb).six 0 (z := x) rfl ao (ao + 1) (ao + 2) (ao + 3) (ao + 4) (ao + 5) ⟨by omega, by omega, by omega, by omega, by omega, by omega⟩
  have HC := Lib.hid (fun (wr : World) (hb' : Below (w.alloc (.cells #[.pointer (some ⟨mb, 0, none⟩)] 56)).heap.size (w.alloc (.cells #[.pointer (some ⟨mb, 0, none⟩)] 56)) wr) => ref_any ((h.below hb).below hb') hr hv x (hz0.keep (Tr.below hb')))
  have c0 : (w.alloc (.cells #[.pointer (some ⟨mb, 0, none⟩)] 56)).cell? ⟨w.heap.size, 0, none⟩ = some (.pointer (some ⟨mb, 0, none⟩)) := (by rw [Lib.cell_of_heap (heap_new (w := w) (o := .cells #[.pointer (some ⟨mb, 0, none⟩)] 56) rfl)]; rfl)
  have k0 := (hd.lower hb).c0
  have k2 := (hd.lower hb).c2
  rw [hkd] at k0
  have HB := Lib.hid hb
  have HBM := Lib.hid (fun (wr : World) (hb : Below w.heap.size w wr) => And.intro (Tr.below (P := Mv mb t r v f) hb) (hb.mono (Nat.le_of_lt (Nat.lt_of_le_of_lt h.base.2 h.lt))))
  clear h hb hd hv hl hkd hz0 hr
  go_enter Tryz.func51, Tryz.ntmps51
  go_upto_region 18 with fail
  go_region_law (go_simp; go_at_call 63; (with_reducible refine (HC.out _ (below_drew1 _)).mono ?_); rintro e1 w2 ⟨rfl, hp⟩; have HP := Lib.hid hp; clear hp)
  all_goals
    go_wp2_with fail
    go_returns
    with_reducible exact ⟨rfl, HP.out.mono (HBM.out _ (Below.drew HB.out)).1 (HBM.out _ (Below.drew HB.out)).2⟩
set_option maxHeartbeats 8000000 in
theorem applyGet_any (h : Rep w0 B mb s w t i r v f nx nm rcs vcs fcs) (hv : s.vals.length ≤ 100000000000) (hr : s.refs.length ≤ 100000000000) (e : Ex) (eb eo : Nat) (hd : e.d.At w eb eo) (x : Val) (css : List (List Value)) (ab ao c : Nat) (hl : Vs w0 w (Mv mb t r v f) [x] (some ⟨ab, ao, none⟩) css) (hkd : e.d.kind = 18) (hz : x.sort = 6 → ∃ k : Nat, x.n = k ∧ k < s.refs.length) :
    Calls Tryz.prog 51 #[.agg #[.pointer (some ⟨mb, 0, none⟩)], .pointer (some ⟨eb, eo, none⟩), .slice (some ⟨ab, ao, none⟩) 1 c] w fun e1 w' => e1 = .returned (.tuple #[]) ∧ Post w0 B mb (Mv mb t r v f) w (s.get x) w' := by
  have hb : Below w.heap.size w (w.alloc (.cells #[.pointer (some ⟨mb, 0, none⟩)] 56)) := (Below.refl _ _).alloc (Nat.le_refl _) _
  obtain ⟨A0, kc0, p0, hz0, g00, g01, g02, g03, g04, g05⟩ := (hl.below hb).six 0 (z := x) rfl ao (ao + 1) (ao + 2) (ao + 3) (ao + 4) (ao + 5) ⟨by omega, by omega, by omega, by omega, by omega, by omega⟩
  have HC := Lib.hid (fun (wr : World) (hb' : Below (w.alloc (.cells #[.pointer (some ⟨mb, 0, none⟩)] 56)).heap.size (w.alloc (.cells #[.pointer (some ⟨mb, 0, none⟩)] 56)) wr) => get_any ((h.below hb).below hb') hr hv x A0 kc0 p0 hz)
  have c0 : (w.alloc (.cells #[.pointer (some ⟨mb, 0, none⟩)] 56)).cell? ⟨w.heap.size, 0, none⟩ = some (.pointer (some ⟨mb, 0, none⟩)) := (by rw [Lib.cell_of_heap (heap_new (w := w) (o := .cells #[.pointer (some ⟨mb, 0, none⟩)] 56) rfl)]; rfl)
  have k0 := (hd.lower hb).c0
  have k2 := (hd.lower hb).c2
  rw [hkd] at k0
  have HB := Lib.hid hb
  have HBM := Lib.hid (fun (wr : World) (hb : Below w.heap.size w wr) => And.intro (Tr.below (P := Mv mb t r v f) hb) (hb.mono (Nat.le_of_lt (Nat.lt_of_le_of_lt h.base.2 h.lt))))
  clear h hb hd hv hl hkd hz0 hr hz
  go_enter Tryz.func51, Tryz.ntmps51
  go_upto_region 20 with fail
  go_region_law (go_simp; go_at_call 64; (with_reducible refine (HC.out _ (below_drew1 _)).mono ?_); rintro e1 w2 ⟨rfl, hp⟩; have HP := Lib.hid hp; clear hp)
  all_goals
    go_wp2_with fail
    go_returns
    with_reducible exact ⟨rfl, HP.out.mono (HBM.out _ (Below.drew HB.out)).1 (HBM.out _ (Below.drew HB.out)).2⟩
set_option maxHeartbeats 8000000 in
theorem applyPrint_any (h : Rep w0 B mb s w t i r v f nx nm rcs vcs fcs) (hv : s.vals.length ≤ 100000000000) (ht : s.trace.length ≤ 100000000000) (e : Ex) (eb eo : Nat) (hd : e.d.At w eb eo) (x : Val) (css : List (List Value)) (ab ao c : Nat) (hl : Vs w0 w (Mv mb t r v f) [x] (some ⟨ab, ao, none⟩) css) (hkd : e.d.kind = 20) :
    Calls Tryz.prog 51 #[.agg #[.pointer (some ⟨mb, 0, none⟩)], .pointer (some ⟨eb, eo, none⟩), .slice (some ⟨ab, ao, none⟩) 1 c] w fun e1 w' => e1 = .returned (.tuple #[]) ∧ Post w0 B mb (Mv mb t r v f) w (s.print x) w' := by
  have hb : Below w.heap.size w (w.alloc (.cells #[.pointer (some ⟨mb, 0, none⟩)] 56)) := (Below.refl _ _).alloc (Nat.le_refl _) _
  obtain ⟨A0, kc0, p0, hz0, g00, g01, g02, g03, g04, g05⟩ := (hl.below hb).six 0 (z := x) rfl ao (ao + 1) (ao + 2) (ao + 3) (ao + 4) (ao + 5) ⟨by omega, by omega, by omega, by omega, by omega, by omega⟩
  have HC := Lib.hid (fun (wr : World) (hb' : Below (w.alloc (.cells #[.pointer (some ⟨mb, 0, none⟩)] 56)).heap.size (w.alloc (.cells #[.pointer (some ⟨mb, 0, none⟩)] 56)) wr) => print_any ((h.below hb).below hb') ht hv x A0 kc0 p0)
  have c0 : (w.alloc (.cells #[.pointer (some ⟨mb, 0, none⟩)] 56)).cell? ⟨w.heap.size, 0, none⟩ = some (.pointer (some ⟨mb, 0, none⟩)) := (by rw [Lib.cell_of_heap (heap_new (w := w) (o := .cells #[.pointer (some ⟨mb, 0, none⟩)] 56) rfl)]; rfl)
  have k0 := (hd.lower hb).c0
  have k2 := (hd.lower hb).c2
  rw [hkd] at k0
  have HB := Lib.hid hb
  have HBM := Lib.hid (fun (wr : World) (hb : Below w.heap.size w wr) => And.intro (Tr.below (P := Mv mb t r v f) hb) (hb.mono (Nat.le_of_lt (Nat.lt_of_le_of_lt h.base.2 h.lt))))
  clear h hb hd hv hl hkd hz0 ht
  go_enter Tryz.func51, Tryz.ntmps51
  go_upto_region 24 with fail
  go_region_law (go_simp; go_at_call 66; (with_reducible refine (HC.out _ (below_drew1 _)).mono ?_); rintro e1 w2 ⟨rfl, hp⟩; have HP := Lib.hid hp; clear hp)
  all_goals
    go_wp2_with fail
    go_returns
    with_reducible exact ⟨rfl, HP.out.mono (HBM.out _ (Below.drew HB.out)).1 (HBM.out _ (Below.drew HB.out)).2⟩
set_option maxHeartbeats 8000000 in
theorem applySet_any (h : Rep w0 B mb s w t i r v f nx nm rcs vcs fcs) (hv : s.vals.length ≤ 100000000000) (hr : s.refs.length ≤ 100000000000) (e : Ex) (eb eo : Nat) (hd : e.d.At w eb eo) (x y : Val) (css : List (List Value)) (ab ao c : Nat) (hl : Vs w0 w (Mv mb t r v f) [x, y] (some ⟨ab, ao, none⟩) css) (hkd : e.d.kind = 19) (hz : x.sort = 6 → ∃ k : Nat, x.n = k ∧ k < s.refs.length) :
    Calls Tryz.prog 51 #[.agg #[.pointer (some ⟨mb, 0, none⟩)], .pointer (some ⟨eb, eo, none⟩), .slice (some ⟨ab, ao, none⟩) 2 c] w fun e1 w' => e1 = .returned (.tuple #[]) ∧ Post w0 B mb (Mv mb t r v f) w (s.set x y) w' := by
  have hb : Below w.heap.size w (w.alloc (.cells #[.pointer (some ⟨mb, 0, none⟩)] 56)) := (Below.refl _ _).alloc (Nat.le_refl _) _
  obtain ⟨A0, kc0, p0, hz0, g00, g01, g02, g03, g04, g05⟩ := (hl.below hb).six 0 (z := x) rfl ao (ao + 1) (ao + 2) (ao + 3) (ao + 4) (ao + 5) ⟨by omega, by omega, by omega, by omega, by omega, by omega⟩
  obtain ⟨A1, kc1, p1, hz1, g10, g11, g12, g13, g14, g15⟩ := (hl.below hb).six 1 (z := y) rfl (ao + 6) (ao + 7) (ao + 8) (ao + 9) (ao + 10) (ao + 11) ⟨by omega, by omega, by omega, by omega, by omega, by omega⟩
  have HC := Lib.hid (fun (wr : World) (hb' : Below (w.alloc (.cells #[.pointer (some ⟨mb, 0, none⟩)] 56)).heap.size (w.alloc (.cells #[.pointer (some ⟨mb, 0, none⟩)] 56)) wr) => setR_any ((h.below hb).below hb') hr hv x y A0 kc0 p0 A1 kc1 p1 hz (hz1.keep (Tr.below hb')))
  have c0 : (w.alloc (.cells #[.pointer (some ⟨mb, 0, none⟩)] 56)).cell? ⟨w.heap.size, 0, none⟩ = some (.pointer (some ⟨mb, 0, none⟩)) := (by rw [Lib.cell_of_heap (heap_new (w := w) (o := .cells #[.pointer (some ⟨mb, 0, none⟩)] 56) rfl)]; rfl)
  have k0 := (hd.lower hb).c0
  have k2 := (hd.lower hb).c2
  rw [hkd] at k0
  have HB := Lib.hid hb
  have HBM := Lib.hid (fun (wr : World) (hb : Below w.heap.size w wr) => And.intro (Tr.below (P := Mv mb t r v f) hb) (hb.mono (Nat.le_of_lt (Nat.lt_of_le_of_lt h.base.2 h.lt))))
  clear h hb hd hv hl hkd hz0 hz1 hr hz
  go_enter Tryz.func51, Tryz.ntmps51
  go_upto_region 22 with fail
  go_region_law (go_simp; go_at_call 65; (with_reducible refine (HC.out _ (below_drew1 _)).mono ?_); rintro e1 w2 ⟨rfl, hp⟩; have HP := Lib.hid hp; clear hp)
  all_goals
    go_wp2_with fail
    go_returns
    with_reducible exact ⟨rfl, HP.out.mono (HBM.out _ (Below.drew HB.out)).1 (HBM.out _ (Below.drew HB.out)).2⟩
set_option maxHeartbeats 8000000 in
theorem applyCall_any (h : Rep w0 B mb s w t i r v f nx nm rcs vcs fcs) (hv : s.vals.length ≤ 100000000000) (e : Ex) (eb eo : Nat) (hd : e.d.At w eb eo) (x y : Val) (css : List (List Value)) (ab ao c : Nat) (hl : Vs w0 w (Mv mb t r v f) [x, y] (some ⟨ab, ao, none⟩) css) (hkd : e.d.kind = 5) (hf : x.sort = 3 → x.f ≠ none) :
    Calls Tryz.prog 51 #[.agg #[.pointer (some ⟨mb, 0, none⟩)], .pointer (some ⟨eb, eo, none⟩), .slice (some ⟨ab, ao, none⟩) 2 c] w fun e1 w' => e1 = .returned (.tuple #[]) ∧ Post w0 B mb (Mv mb t r v f) w (s.call x y) w' := by
  have hb : Below w.heap.size w (w.alloc (.cells #[.pointer (some ⟨mb, 0, none⟩)] 56)) := (Below.refl _ _).alloc (Nat.le_refl _) _
  obtain ⟨A0, kc0, p0, hz0, g00, g01, g02, g03, g04, g05⟩ := (hl.below hb).six 0 (z := x) rfl ao (ao + 1) (ao + 2) (ao + 3) (ao + 4) (ao + 5) ⟨by omega, by omega, by omega, by omega, by omega, by omega⟩
  obtain ⟨A1, kc1, p1, hz1, g10, g11, g12, g13, g14, g15⟩ := (hl.below hb).six 1 (z := y) rfl (ao + 6) (ao + 7) (ao + 8) (ao + 9) (ao + 10) (ao + 11) ⟨by omega, by omega, by omega, by omega, by omega, by omega⟩
  have HC := Lib.hid (fun (wr : World) (hb' : Below (w.alloc (.cells #[.pointer (some ⟨mb, 0, none⟩)] 56)).heap.size (w.alloc (.cells #[.pointer (some ⟨mb, 0, none⟩)] 56)) wr) => call_any ((h.below hb).below hb') x y A0 kc0 p0 A1 kc1 p1 hf (hz0.keep (Tr.below hb')) (hz1.keep (Tr.below hb')))
  have c0 : (w.alloc (.cells #[.pointer (some ⟨mb, 0, none⟩)] 56)).cell? ⟨w.heap.size, 0, none⟩ = some (.pointer (some ⟨mb, 0, none⟩)) := (by rw [Lib.cell_of_heap (heap_new (w := w) (o := .cells #[.pointer (some ⟨mb, 0, none⟩)] 56) rfl)]; rfl)
  have k0 := (hd.lower hb).c0
  have k2 := (hd.lower hb).c2
  rw [hkd] at k0
  have HB := Lib.hid hb
  have HBM := Lib.hid (fun (wr : World) (hb : Below w.heap.size w wr) => And.intro (Tr.below (P := Mv mb t r v f) hb) (hb.mono (Nat.le_of_lt (Nat.lt_of_le_of_lt h.base.2 h.lt))))
  clear h hb hd hv hl hkd hz0 hz1 hf
  go_enter Tryz.func51, Tryz.ntmps51
  go_upto_region 5 with fail
  go_region_law (go_simp; go_at_call 60; (with_reducible refine (HC.out _ (below_drew1 _)).mono ?_); rintro e1 w2 ⟨rfl, hp⟩; have HP := Lib.hid hp; clear hp)
  all_goals
    go_wp2_with fail
    go_returns
    with_reducible exact ⟨rfl, HP.out.mono (HBM.out _ (Below.drew HB.out)).1 (HBM.out _ (Below.drew HB.out)).2⟩
set_option maxHeartbeats 8000000 in
theorem applyOper_any (h : Rep w0 B mb s w t i r v f nx nm rcs vcs fcs) (hv : s.vals.length ≤ 100000000000) (e : Ex) (eb eo : Nat) (hd : e.d.At w eb eo) (x y : Val) (css : List (List Value)) (ab ao c : Nat) (hl : Vs w0 w (Mv mb t r v f) [x, y] (some ⟨ab, ao, none⟩) css) (hkd : e.d.kind = 16) (h1 : x.s.length ≤ 4000000) (h2 : y.s.length ≤ 4000000) (h3 : -9223372036854775808 ≤ x.n ∧ x.n ≤ 9223372036854775807) (h4 : -9223372036854775808 ≤ y.n ∧ y.n ≤ 9223372036854775807) :
    Calls Tryz.prog 51 #[.agg #[.pointer (some ⟨mb, 0, none⟩)], .pointer (some ⟨eb, eo, none⟩), .slice (some ⟨ab, ao, none⟩) 2 c] w fun e1 w' => e1 = .returned (.tuple #[]) ∧ Post w0 B mb (Mv mb t r v f) w (s.oper e.d.s x y) w' := by
  have hb : Below w.heap.size w (w.alloc (.cells #[.pointer (some ⟨mb, 0, none⟩)] 56)) := (Below.refl _ _).alloc (Nat.le_refl _) _
  obtain ⟨A0, kc0, p0, hz0, g00, g01, g02, g03, g04, g05⟩ := (hl.below hb).six 0 (z := x) rfl ao (ao + 1) (ao + 2) (ao + 3) (ao + 4) (ao + 5) ⟨by omega, by omega, by omega, by omega, by omega, by omega⟩
  obtain ⟨A1, kc1, p1, hz1, g10, g11, g12, g13, g14, g15⟩ := (hl.below hb).six 1 (z := y) rfl (ao + 6) (ao + 7) (ao + 8) (ao + 9) (ao + 10) (ao + 11) ⟨by omega, by omega, by omega, by omega, by omega, by omega⟩
  have HC := Lib.hid (fun (wr : World) (hb' : Below (w.alloc (.cells #[.pointer (some ⟨mb, 0, none⟩)] 56)).heap.size (w.alloc (.cells #[.pointer (some ⟨mb, 0, none⟩)] 56)) wr) => oper_any ((h.below hb).below hb') hv e.d.s x y A0 kc0 p0 A1 kc1 p1 h1 h2 h3 h4)
  have c0 : (w.alloc (.cells #[.pointer (some ⟨mb, 0, none⟩)] 56)).cell? ⟨w.heap.size, 0, none⟩ = some (.pointer (some ⟨mb, 0, none⟩)) := (by rw [Lib.cell_of_heap (heap_new (w := w) (o := .cells #[.pointer (some ⟨mb, 0, none⟩)] 56) rfl)]; rfl)
  have k0 := (hd.lower hb).c0
  have k2 := (hd.lower hb).c2
  rw [hkd] at k0
  have HB := Lib.hid hb
  have HBM := Lib.hid (fun (wr : World) (hb : Below w.heap.size w wr) => And.intro (Tr.below (P := Mv mb t r v f) hb) (hb.mono (Nat.le_of_lt (Nat.lt_of_le_of_lt h.base.2 h.lt))))
  clear h hb hd hv hl hkd hz0 hz1 h1 h2 h3 h4
  go_enter Tryz.func51, Tryz.ntmps51
  go_upto_region 16 with fail
  go_region_law (go_simp; go_at_call 62; (with_reducible refine (HC.out _ (below_drew1 _)).mono ?_); rintro e1 w2 ⟨rfl, hp⟩; have HP := Lib.hid hp; clear hp)
  all_goals
    go_wp2_with fail
    go_returns
    with_reducible exact ⟨rfl, HP.out.mono (HBM.out _ (Below.drew HB.out)).1 (HBM.out _ (Below.drew HB.out)).2⟩
end
end Go.Proofs.YtpdfjdomjklkbaaGreatDoor
