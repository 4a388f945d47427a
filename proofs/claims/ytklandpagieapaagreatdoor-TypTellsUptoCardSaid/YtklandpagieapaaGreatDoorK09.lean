/-
  A type's text, by the document's answer: references, functions.
  A type's text, by the document's answer: rows.
  A type's text, by the document's answer: any type.
  Whether two types are alike, by the document's answer.
-/
import Derived.Test.YtklandpagieapaaGreatDoorK08
import Derived.Test.YtklandpagieapaaGreatDoorK03
import Derived.Test.YtklandpagieapaaGreatDoorK04
namespace Go.Proofs.YtklandpagieapaaGreatDoor
open Go.ChangeShapes Go.WideShapes Go.ChangeAt Go.RowKit Go.Sort
set_option linter.unusedVariables false
set_option linter.unusedSimpArgs false
attribute [local irreducible] Go.wpQuiet

set_option maxRecDepth 100000 in
set_option maxHeartbeats 4000000 in
theorem ref_6n (w0 : World) (N : Nat) (d : TyD) (x : Ty) (s : Str) (hk : d.kind = 6) (pb po : Nat) (hp : d.pA = some ⟨pb, po, none⟩) (hpn : d.pn = 1) (hx : x.d.At w0 pb po) (HR : RefAt w0 N x.d s) (hb : ¬ (x.d.kind = 3 ∨ x.d.kind = 6)) (hl : s.length ≤ 900000000) : RefAt w0 N d ([114, 101, 102, 32] ++ s) := by
  have A2 : ∀ w : World, (Op.stringOp .add ⟨#[114, 101, 102, 32]⟩ (bstr s)).run Tryz.prog w = .ok (.string (bstr ([114, 101, 102, 32] ++ s))) w := addS [114, 101, 102, 32] s (by first | omega | (simp only [List.length_cons, List.length_nil]; omega))
  obtain ⟨x2, hx2⟩ : ∃ x : Str, [114, 101, 102, 32] ++ s = x := ⟨_, rfl⟩
  have hxl2 : x2.length = 4 + s.length := by have h := congrArg List.length hx2; rw [List.length_append] at h; exact h.symm
  rw [hx2] at A2 ⊢
  clear hx2 hxl2
  intro W hW
  have hb1 : Below W.heap.size W (W.alloc (.cells d.arr 25)) := (Below.refl _ _).alloc (Nat.le_refl _) _
  have hE := box_at W d
  have HB1 := Lib.hid hb1
  have HW1 := Lib.hid (below_then hW hb1)
  obtain ⟨p0, p1, p2, p3, p4⟩ := hx.lower HW1.out
  have CX := Lib.hid (HR _ HW1.out)
  have HX := Lib.hid hx
  have HBK := Lib.hid hb
  have q1 : (d.kind == 1) = false := by rw [hk]; rfl
  have q2 : (d.kind == 2) = false := by rw [hk]; rfl
  have q3 : (d.kind == 3) = false := by rw [hk]; rfl
  have q6 : (d.kind == 6) = true := by rw [hk]; rfl
  have HP := Lib.hid (And.intro hp hpn)
  clear hb1 hW hk hp hpn hx HR hl hb
  obtain ⟨bx, hbx⟩ : ∃ bx, W.heap.size = bx := ⟨_, rfl⟩
  rw [hbx] at hE
  have HE := Lib.hid (fun V (h : Below _ _ V) => hE.lower h)
  obtain ⟨c0, c1, c2, c3, c4⟩ := hE
  rw [HP.out.1, HP.out.2] at c2
  go_enter Tryz.func31, Tryz.ntmps31
  go_wp2_with fail
  try rw [hbx]
  go_wp2_with fail
  refine CX.out.mono ?_
  rintro e v1 ⟨rfl, hb1⟩
  have HF := Lib.hid (below_then HB1.out hb1)
  clear CX c0 c1 c2 c3 c4 p0 p1 p2 p3 p4
  obtain ⟨c0, c1, c2, c3, c4⟩ := HE.out _ hb1
  rw [HP.out.1, HP.out.2] at c2
  obtain ⟨p0, p1, p2, p3, p4⟩ := HX.out.lower (below_then HW1.out hb1)
  clear hb1
  have g3 : (x.d.kind == 3) = false := by simpa using fun e => HBK.out (.inl e)
  have g6 : (x.d.kind == 6) = false := by simpa using fun e => HBK.out (.inr e)
  clear HBK
  go_wp2_with fail
  go_returns
  exact ⟨rfl, HF.out⟩

set_option maxRecDepth 100000 in
set_option maxHeartbeats 4000000 in
theorem ref_6b (w0 : World) (N : Nat) (d : TyD) (x : Ty) (s : Str) (hk : d.kind = 6) (pb po : Nat) (hp : d.pA = some ⟨pb, po, none⟩) (hpn : d.pn = 1) (hx : x.d.At w0 pb po) (HR : RefAt w0 N x.d s) (hb : x.d.kind = 3 ∨ x.d.kind = 6) (hl : s.length ≤ 900000000) : RefAt w0 N d ([114, 101, 102, 32] ++ ([40] ++ s ++ [41])) := by
  have A0 : ∀ w : World, (Op.stringOp .add ⟨#[40]⟩ (bstr s)).run Tryz.prog w = .ok (.string (bstr ([40] ++ s))) w := addS [40] s (by first | omega | (simp only [List.length_cons, List.length_nil]; omega))
  obtain ⟨x0, hx0⟩ : ∃ x : Str, [40] ++ s = x := ⟨_, rfl⟩
  have hxl0 : x0.length = 1 + s.length := by have h := congrArg List.length hx0; rw [List.length_append] at h; exact h.symm
  rw [hx0] at A0 ⊢
  have A1 : ∀ w : World, (Op.stringOp .add (bstr x0) ⟨#[41]⟩).run Tryz.prog w = .ok (.string (bstr (x0 ++ [41]))) w := addS x0 [41] (by first | omega | (simp only [List.length_cons, List.length_nil]; omega))
  obtain ⟨x1, hx1⟩ : ∃ x : Str, x0 ++ [41] = x := ⟨_, rfl⟩
  have hxl1 : x1.length = x0.length + 1 := by have h := congrArg List.length hx1; rw [List.length_append] at h; exact h.symm
  rw [hx1] at A1 ⊢
  have A2 : ∀ w : World, (Op.stringOp .add ⟨#[114, 101, 102, 32]⟩ (bstr x1)).run Tryz.prog w = .ok (.string (bstr ([114, 101, 102, 32] ++ x1))) w := addS [114, 101, 102, 32] x1 (by first | omega | (simp only [List.length_cons, List.length_nil]; omega))
  obtain ⟨x2, hx2⟩ : ∃ x : Str, [114, 101, 102, 32] ++ x1 = x := ⟨_, rfl⟩
  have hxl2 : x2.length = 4 + x1.length := by have h := congrArg List.length hx2; rw [List.length_append] at h; exact h.symm
  rw [hx2] at A2 ⊢
  clear hx0 hx1 hx2 hxl0 hxl1 hxl2
  intro W hW
  have hb1 : Below W.heap.size W (W.alloc (.cells d.arr 25)) := (Below.refl _ _).alloc (Nat.le_refl _) _
  have hE := box_at W d
  have HB1 := Lib.hid hb1
  have HW1 := Lib.hid (below_then hW hb1)
  obtain ⟨p0, p1, p2, p3, p4⟩ := hx.lower HW1.out
  have CX := Lib.hid (HR _ HW1.out)
  have HX := Lib.hid hx
  have HBK := Lib.hid hb
  have q1 : (d.kind == 1) = false := by rw [hk]; rfl
  have q2 : (d.kind == 2) = false := by rw [hk]; rfl
  have q3 : (d.kind == 3) = false := by rw [hk]; rfl
  have q6 : (d.kind == 6) = true := by rw [hk]; rfl
  have HP := Lib.hid (And.intro hp hpn)
  clear hb1 hW hk hp hpn hx HR hl hb
  obtain ⟨bx, hbx⟩ : ∃ bx, W.heap.size = bx := ⟨_, rfl⟩
  rw [hbx] at hE
  have HE := Lib.hid (fun V (h : Below _ _ V) => hE.lower h)
  obtain ⟨c0, c1, c2, c3, c4⟩ := hE
  rw [HP.out.1, HP.out.2] at c2
  go_enter Tryz.func31, Tryz.ntmps31
  go_wp2_with fail
  try rw [hbx]
  go_wp2_with fail
  refine CX.out.mono ?_
  rintro e v1 ⟨rfl, hb1⟩
  have HF := Lib.hid (below_then HB1.out hb1)
  clear CX c0 c1 c2 c3 c4 p0 p1 p2 p3 p4
  obtain ⟨c0, c1, c2, c3, c4⟩ := HE.out _ hb1
  rw [HP.out.1, HP.out.2] at c2
  obtain ⟨p0, p1, p2, p3, p4⟩ := HX.out.lower (below_then HW1.out hb1)
  clear hb1
  by_cases h3 : x.d.kind = 3
  · have g3 : (x.d.kind == 3) = true := by simpa using h3
    clear HBK
    go_wp2_with fail
    go_returns
    exact ⟨rfl, HF.out⟩
  · have g3 : (x.d.kind == 3) = false := by simpa using h3
    have g6 : (x.d.kind == 6) = true := by simpa using HBK.out.resolve_left h3
    clear HBK
    go_wp2_with fail
    go_returns
    exact ⟨rfl, HF.out⟩

set_option maxRecDepth 100000 in
set_option maxHeartbeats 4000000 in
theorem ref_3n (w0 : World) (N : Nat) (d : TyD) (x y : Ty) (s r : Str) (hk : d.kind = 3) (pb po : Nat) (hp : d.pA = some ⟨pb, po, none⟩) (hpn : d.pn = 2) (hx : x.d.At w0 pb po) (hy : y.d.At w0 pb (po + 5)) (HR : RefAt w0 N x.d s) (HR2 : RefAt w0 N y.d r) (hb : ¬ x.d.kind = 3) (hl : s.length + r.length ≤ 900000000) : RefAt w0 N d (s ++ [32, 45, 62, 32] ++ r) := by
  have A2 : ∀ w : World, (Op.stringOp .add (bstr s) ⟨#[32, 45, 62, 32]⟩).run Tryz.prog w = .ok (.string (bstr (s ++ [32, 45, 62, 32]))) w := addS s [32, 45, 62, 32] (by first | omega | (simp only [List.length_cons, List.length_nil]; omega))
  obtain ⟨x2, hx2⟩ : ∃ x : Str, s ++ [32, 45, 62, 32] = x := ⟨_, rfl⟩
  have hxl2 : x2.length = s.length + 4 := by have h := congrArg List.length hx2; rw [List.length_append] at h; exact h.symm
  rw [hx2] at A2 ⊢
  have A3 : ∀ w : World, (Op.stringOp .add (bstr x2) (bstr r)).run Tryz.prog w = .ok (.string (bstr (x2 ++ r))) w := addS x2 r (by first | omega | (simp only [List.length_cons, List.length_nil]; omega))
  obtain ⟨x3, hx3⟩ : ∃ x : Str, x2 ++ r = x := ⟨_, rfl⟩
  have hxl3 : x3.length = x2.length + r.length := by have h := congrArg List.length hx3; rw [List.length_append] at h; exact h.symm
  rw [hx3] at A3 ⊢
  clear hx2 hx3 hxl2 hxl3
  intro W hW
  have hb1 : Below W.heap.size W (W.alloc (.cells d.arr 25)) := (Below.refl _ _).alloc (Nat.le_refl _) _
  have hE := box_at W d
  have HB1 := Lib.hid hb1
  have HW1 := Lib.hid (below_then hW hb1)
  obtain ⟨p0, p1, p2, p3, p4⟩ := hx.lower HW1.out
  have CX := Lib.hid (HR _ HW1.out)
  have CY := Lib.hid HR2
  have HX := Lib.hid (And.intro hx hy)
  have HBK := Lib.hid hb
  have q1 : (d.kind == 1) = false := by rw [hk]; rfl
  have q2 : (d.kind == 2) = false := by rw [hk]; rfl
  have q3 : (d.kind == 3) = true := by rw [hk]; rfl
  have HP := Lib.hid (And.intro hp hpn)
  clear hb1 hW hk hp hpn hx hy HR HR2 hl hb
  obtain ⟨bx, hbx⟩ : ∃ bx, W.heap.size = bx := ⟨_, rfl⟩
  rw [hbx] at hE
  have HE := Lib.hid (fun V (h : Below _ _ V) => hE.lower h)
  obtain ⟨c0, c1, c2, c3, c4⟩ := hE
  rw [HP.out.1, HP.out.2] at c2
  go_enter Tryz.func31, Tryz.ntmps31
  go_wp2_with fail
  try rw [hbx]
  go_wp2_with fail
  refine CX.out.mono ?_
  rintro e v1 ⟨rfl, hb1⟩
  have HF := Lib.hid (below_then HB1.out hb1)
  clear CX c0 c1 c2 c3 c4 p0 p1 p2 p3 p4
  obtain ⟨c0, c1, c2, c3, c4⟩ := HE.out _ hb1
  rw [HP.out.1, HP.out.2] at c2
  obtain ⟨p0, _, _, _, _⟩ := HX.out.1.lower (below_then HW1.out hb1)
  obtain ⟨r0, r1, r2, r3, r4⟩ := HX.out.2.lower (below_then HW1.out hb1)
  have CY2 := Lib.hid (CY.out _ (below_then HW1.out hb1))
  clear hb1
  have g3 : (x.d.kind == 3) = false := by simpa using HBK.out
  go_wp2_with fail
  refine CY2.out.mono ?_
  rintro e v2 ⟨rfl, hb2⟩
  have HF2 := Lib.hid (below_then HF.out hb2)
  clear hb2 CY2 c0 c1 c2 c3 c4 p0 r0 r1 r2 r3 r4
  go_wp2_with fail
  go_returns
  exact ⟨rfl, HF2.out⟩

set_option maxRecDepth 100000 in
set_option maxHeartbeats 4000000 in
theorem ref_3b (w0 : World) (N : Nat) (d : TyD) (x y : Ty) (s r : Str) (hk : d.kind = 3) (pb po : Nat) (hp : d.pA = some ⟨pb, po, none⟩) (hpn : d.pn = 2) (hx : x.d.At w0 pb po) (hy : y.d.At w0 pb (po + 5)) (HR : RefAt w0 N x.d s) (HR2 : RefAt w0 N y.d r) (hb : x.d.kind = 3) (hl : s.length + r.length ≤ 900000000) : RefAt w0 N d (([40] ++ s ++ [41]) ++ [32, 45, 62, 32] ++ r) := by
  have A0 : ∀ w : World, (Op.stringOp .add ⟨#[40]⟩ (bstr s)).run Tryz.prog w = .ok (.string (bstr ([40] ++ s))) w := addS [40] s (by first | omega | (simp only [List.length_cons, List.length_nil]; omega))
  obtain ⟨x0, hx0⟩ : ∃ x : Str, [40] ++ s = x := ⟨_, rfl⟩
  have hxl0 : x0.length = 1 + s.length := by have h := congrArg List.length hx0; rw [List.length_append] at h; exact h.symm
  rw [hx0] at A0 ⊢
  have A1 : ∀ w : World, (Op.stringOp .add (bstr x0) ⟨#[41]⟩).run Tryz.prog w = .ok (.string (bstr (x0 ++ [41]))) w := addS x0 [41] (by first | omega | (simp only [List.length_cons, List.length_nil]; omega))
  obtain ⟨x1, hx1⟩ : ∃ x : Str, x0 ++ [41] = x := ⟨_, rfl⟩
  have hxl1 : x1.length = x0.length + 1 := by have h := congrArg List.length hx1; rw [List.length_append] at h; exact h.symm
  rw [hx1] at A1 ⊢
  have A2 : ∀ w : World, (Op.stringOp .add (bstr x1) ⟨#[32, 45, 62, 32]⟩).run Tryz.prog w = .ok (.string (bstr (x1 ++ [32, 45, 62, 32]))) w := addS x1 [32, 45, 62, 32] (by first | omega | (simp only [List.length_cons, List.length_nil]; omega))
  obtain ⟨x2, hx2⟩ : ∃ x : Str, x1 ++ [32, 45, 62, 32] = x := ⟨_, rfl⟩
  have hxl2 : x2.length = x1.length + 4 := by have h := congrArg List.length hx2; rw [List.length_append] at h; exact h.symm
  rw [hx2] at A2 ⊢
  have A3 : ∀ w : World, (Op.stringOp .add (bstr x2) (bstr r)).run Tryz.prog w = .ok (.string (bstr (x2 ++ r))) w := addS x2 r (by first | omega | (simp only [List.length_cons, List.length_nil]; omega))
  obtain ⟨x3, hx3⟩ : ∃ x : Str, x2 ++ r = x := ⟨_, rfl⟩
  have hxl3 : x3.length = x2.length + r.length := by have h := congrArg List.length hx3; rw [List.length_append] at h; exact h.symm
  rw [hx3] at A3 ⊢
  clear hx0 hx1 hx2 hx3 hxl0 hxl1 hxl2 hxl3
  intro W hW
  have hb1 : Below W.heap.size W (W.alloc (.cells d.arr 25)) := (Below.refl _ _).alloc (Nat.le_refl _) _
  have hE := box_at W d
  have HB1 := Lib.hid hb1
  have HW1 := Lib.hid (below_then hW hb1)
  obtain ⟨p0, p1, p2, p3, p4⟩ := hx.lower HW1.out
  have CX := Lib.hid (HR _ HW1.out)
  have CY := Lib.hid HR2
  have HX := Lib.hid (And.intro hx hy)
  have HBK := Lib.hid hb
  have q1 : (d.kind == 1) = false := by rw [hk]; rfl
  have q2 : (d.kind == 2) = false := by rw [hk]; rfl
  have q3 : (d.kind == 3) = true := by rw [hk]; rfl
  have HP := Lib.hid (And.intro hp hpn)
  clear hb1 hW hk hp hpn hx hy HR HR2 hl hb
  obtain ⟨bx, hbx⟩ : ∃ bx, W.heap.size = bx := ⟨_, rfl⟩
  rw [hbx] at hE
  have HE := Lib.hid (fun V (h : Below _ _ V) => hE.lower h)
  obtain ⟨c0, c1, c2, c3, c4⟩ := hE
  rw [HP.out.1, HP.out.2] at c2
  go_enter Tryz.func31, Tryz.ntmps31
  go_wp2_with fail
  try rw [hbx]
  go_wp2_with fail
  refine CX.out.mono ?_
  rintro e v1 ⟨rfl, hb1⟩
  have HF := Lib.hid (below_then HB1.out hb1)
  clear CX c0 c1 c2 c3 c4 p0 p1 p2 p3 p4
  obtain ⟨c0, c1, c2, c3, c4⟩ := HE.out _ hb1
  rw [HP.out.1, HP.out.2] at c2
  obtain ⟨p0, _, _, _, _⟩ := HX.out.1.lower (below_then HW1.out hb1)
  obtain ⟨r0, r1, r2, r3, r4⟩ := HX.out.2.lower (below_then HW1.out hb1)
  have CY2 := Lib.hid (CY.out _ (below_then HW1.out hb1))
  clear hb1
  have g3 : (x.d.kind == 3) = true := by simpa using HBK.out
  go_wp2_with fail
  refine CY2.out.mono ?_
  rintro e v2 ⟨rfl, hb2⟩
  have HF2 := Lib.hid (below_then HF.out hb2)
  clear hb2 CY2 c0 c1 c2 c3 c4 p0 r0 r1 r2 r3 r4
  go_wp2_with fail
  go_returns
  exact ⟨rfl, HF2.out⟩

end Go.Proofs.YtklandpagieapaaGreatDoor

namespace Go.Proofs.YtklandpagieapaaGreatDoor
open Go.ChangeShapes Go.WideShapes Go.ChangeAt Go.RowKit Go.Sort
set_option linter.unusedVariables false
set_option linter.unusedSimpArgs false
attribute [local irreducible] Go.wpQuiet

set_option maxRecDepth 100000 in
set_option maxHeartbeats 4000000 in
theorem ref_4 (w0 : World) (N : Nat) (T R : List Int) (d : TyD) (l : List Ty) (hk : d.kind = 4) (hI : (Ty.mk d l).In w0) (hpn : d.pn = d.ln) (WW : ∀ x ∈ l, RefAt w0 N x.d (x.tx T R)) (hT : Tab w0) (hN : NV w0 N T R) (hwt : (Ty.mk d l).wt ≤ 900000000) :
    RefAt w0 N d ([123] ++ d.rowTx R (txL T R l) ++ [125]) := by
  obtain ⟨res, hres⟩ : ∃ res : Str, [123] ++ d.rowTx R (txL T R l) ++ [125] = res := ⟨_, rfl⟩
  rw [hres]
  have HRE := Lib.hid hres
  clear hres
  intro W hW
  have hb1 : Below W.heap.size W (W.alloc (.cells d.arr 25)) := (Below.refl _ _).alloc (Nat.le_refl _) _
  have hE := box_at W d
  have HB1 := Lib.hid hb1
  have HW1 := Lib.hid (below_then hW hb1)
  have HI := Lib.hid hI
  have WW := Lib.hid WW
  have HPN := Lib.hid hpn
  have HNV := Lib.hid hN
  have HTB := Lib.hid hT
  have HLB := Lib.hid (show d.labels.length = d.ln from hI.labLen)
  have HLP := Lib.hid (show l.length = d.ln by rw [← hpn]; exact hI.len)
  have HLAB := Lib.hid (show Rd w0 1 d.lA d.ln (strs d.labels) from hI.lab)
  have HWT := Lib.hid (show 50 + labW d.labels + wtL l ≤ 900000000 by unfold Ty.wt at hwt; exact hwt)
  have hn9 : (d.ln : Int) ≤ 4000000 := by have h9 : d.ln ≤ 4000000 := hI.cap.2.2.2.2.1; omega
  have q1 : (d.kind == 1) = false := by rw [hk]; rfl
  have q2 : (d.kind == 2) = false := by rw [hk]; rfl
  have q3 : (d.kind == 3) = false := by rw [hk]; rfl
  have q6 : (d.kind == 6) = false := by rw [hk]; rfl
  have q7 : (d.kind == 7) = false := by rw [hk]; rfl
  have q4 : (d.kind == 4) = true := by rw [hk]; rfl
  clear hI hpn hwt hW hb1 hT hN hk
  obtain ⟨bx, hbx⟩ : ∃ bx, W.heap.size = bx := ⟨_, rfl⟩
  rw [hbx] at hE
  go_enter Tryz.func31, Tryz.ntmps31
  go_wp2_with fail
  try rw [hbx]
  clear hbx
  generalize (W.alloc (.cells d.arr 25)) = w1 at *
  have HE := Lib.hid (fun V (h : Below w1.heap.size w1 V) => hE.lower h)
  obtain ⟨c0, c1, c2, c3, c4⟩ := hE
  go_wp2_with fail
  clear c0 c1 c2 c3 c4
  go_loopw [7, 8] (fun v i wr => ∃ k : Nat, v = .string (bstr (rowTo d.labels (txL T R l) k)) ∧ i = .int .i64 k ∧ k ≤ d.ln ∧ Below w1.heap.size w1 wr) (fun _ i _ => d.ln - (intOf i).toNat)
  case atStart => exact ⟨0, rfl, rfl, Nat.zero_le _, Below.refl _ _⟩
  case round =>
    obtain ⟨k, rfl, rfl, hk, hbr⟩ := hrel
    have HR := Lib.hid hbr
    have HRL := Lib.hid (rowTo_len d.labels (txL T R l) k (by rw [HLB.out]; exact hk))
    have c2 := (HE.out _ hbr).c2
    have c3 := (HE.out _ hbr).c3
    by_cases hlt : k < d.ln
    · have hkl : k < l.length := by rw [HLP.out]; exact hlt
      have hkb : k < d.labels.length := by rw [HLB.out]; exact hlt
      obtain ⟨b1, o1, hlA, hcs⟩ := (HLAB.out.below (below_then HW1.out hbr)).str hkb
      have hc := hcs k hkb
      obtain ⟨pb, po, hpA, hAtP⟩ := HI.out.part (k := k) hkl
      have HIL := Lib.hid (And.intro (show d.pA = some ⟨pb, po, none⟩ from hpA) (show ∀ j (hj : j < l.length), (l[j]).d.At w0 pb (po + j * 5) from hAtP))
      rw [hlA] at c3
      rw [HIL.out.1, HPN.out] at c2
      have hAx := HIL.out.2 k hkl
      obtain ⟨p0, p1, p2, p3, p4⟩ := hAx.lower (below_then HW1.out HR.out)
      have HWx := WW.out l[k] (List.getElem_mem hkl)
      have HN := Lib.hid (show rowTo d.labels (txL T R l) (k + 1) = rowTo d.labels (txL T R l) k ++ ((if k = 0 then [] else [44, 32]) ++ (d.labels[k] ++ [32, 58, 32] ++ (l[k]).tx T R)) by rw [rowTo_at _ hkb, txL_at T R l k hkl])
      have HLF := Lib.hid (show (rowTo d.labels (txL T R l) k).length + (d.labels[k]).length + ((l[k]).tx T R).length + 20 ≤ 950000000 by
        have h1 := HRL.out
        have h2 := labW_at d.labels k hkb
        have h3 := sumTx_len T R HNV.out.lT HNV.out.lR l
        have h4 := getD_len_take (txL T R l) k
        rw [txL_at T R l k hkl] at h4
        have h5 := sumLen_take (txL T R l) (k + 1)
        have h6 := HWT.out
        omega)
      obtain ⟨x, hx⟩ : ∃ x, l[k] = x := ⟨_, rfl⟩
      rw [hx] at p0 p1 p2 p3 p4 HWx HN HLF
      obtain ⟨y, hy⟩ : ∃ y, d.labels[k] = y := ⟨_, rfl⟩
      rw [hy] at hc HN HLF
      obtain ⟨F, hF⟩ : ∃ F, rowTo d.labels (txL T R l) k = F := ⟨_, rfl⟩
      rw [hF] at HN HLF HRL
      have CX := Lib.hid (RefAt.quiet HWx (below_then HW1.out HR.out))
      obtain ⟨s, hs⟩ : ∃ s, x.tx T R = s := ⟨_, rfl⟩
      rw [hs] at CX HN HLF
      obtain ⟨dx, hdx⟩ : ∃ dx, x.d = dx := ⟨_, rfl⟩
      rw [hdx] at p0 p1 p2 p3 p4 CX
      have k3 := cell_regrown c3
      have k7 := cell_regrown c2
      have kc := cell_regrown hc
      have kp0 := cell_regrown p0
      have kp1 := cell_regrown p1
      have kp2 := cell_regrown p2
      have kp3 := cell_regrown p3
      have kp4 := cell_regrown p4
      have hki : (k : Int) < (d.ln : Int) := by omega
      have hk0 : (0 : Int) ≤ (k : Int) := by omega
      have hk9 : (k : Int) ≤ 4000000 := by omega
      rw [hF]
      clear hbr hx hy hF hs hdx hAx hcs hlA hpA hAtP HWx p0 p1 p2 p3 p4 hc
      by_cases hk1 : k = 0
      · have qk : ¬ (0 : Int) < (k : Int) := by omega
        obtain ⟨y0, hy0⟩ : ∃ y0, F = y0 := ⟨_, rfl⟩
        have HLN := Lib.hid (show y0.length + y.length + s.length + 10 ≤ 960000000 by have := HLF.out; rw [← hy0]; omega)
        have HRES := HN.out
        rw [if_pos hk1, List.nil_append, hy0, ← List.append_assoc, ← List.append_assoc] at HRES
        rw [hy0]
        have A0 : ∀ w : World, (Op.stringOp .add (bstr y0) (bstr y)).run Tryz.prog w = .ok (.string (bstr (y0 ++ y))) w := addS y0 y (by have h1 := HLN.out; first | omega | (simp only [List.length_cons, List.length_nil]; omega))
        obtain ⟨x0, hx0⟩ : ∃ x : Str, y0 ++ y = x := ⟨_, rfl⟩
        have hxl0 : x0.length = y0.length + y.length := by have h := congrArg List.length hx0; rw [List.length_append] at h; exact h.symm
        rw [hx0] at A0
        have A1 : ∀ w : World, (Op.stringOp .add (bstr x0) ⟨#[32, 58, 32]⟩).run Tryz.prog w = .ok (.string (bstr (x0 ++ [32, 58, 32]))) w := addS x0 [32, 58, 32] (by have h1 := HLN.out; first | omega | (simp only [List.length_cons, List.length_nil]; omega))
        obtain ⟨x1, hx1⟩ : ∃ x : Str, x0 ++ [32, 58, 32] = x := ⟨_, rfl⟩
        have hxl1 : x1.length = x0.length + 3 := by have h := congrArg List.length hx1; rw [List.length_append] at h; exact h.symm
        rw [hx1] at A1
        have A2 : ∀ w : World, (Op.stringOp .add (bstr x1) (bstr s)).run Tryz.prog w = .ok (.string (bstr (x1 ++ s))) w := addS x1 s (by have h1 := HLN.out; first | omega | (simp only [List.length_cons, List.length_nil]; omega))
        obtain ⟨x2, hx2⟩ : ∃ x : Str, x1 ++ s = x := ⟨_, rfl⟩
        have hxl2 : x2.length = x1.length + s.length := by have h := congrArg List.length hx2; rw [List.length_append] at h; exact h.symm
        rw [hx2] at A2
        rw [hx0, hx1, hx2] at HRES
        have HRS := Lib.hid HRES
        clear HRES hx0 hx1 hx2 hxl0 hxl1 hxl2 hy0 hk1
        go_wp2_with fail
        refine wp_region_quiet_below (by kernel_rfl) (by kernel_rfl) ?_
        repeat (quiet_step ((go_at_call 31; with_reducible exact CX.out _ _)))
        refine wpQuiet_nil ?_
        intro _ hw
        obtain ⟨⟨dq, osq⟩, hw''⟩ := hw
        subst hw''
        have hbq := below_regrown wr dq osq
        have H5 := Lib.hid (below_then HR.out hbq)
        clear hbq
        go_wp2_with fail
        go_roundw
        case rel => exact ⟨k + 1, congrArg (fun v => Value.string (bstr v)) HRS.out.symm, by go_num, hlt, H5.out⟩
        case measure => simp [intOf] <;> omega
      · have qk : (0 : Int) < (k : Int) := by omega
        have AF : ∀ w : World, (Op.stringOp .add (bstr F) ⟨#[44, 32]⟩).run Tryz.prog w = .ok (.string (bstr (F ++ [44, 32]))) w := addS F [44, 32] (by have := HLF.out; simp only [List.length_cons, List.length_nil]; omega)
        have HRES := HN.out
        rw [if_neg hk1, ← List.append_assoc, ← List.append_assoc, ← List.append_assoc] at HRES
        have hl0 : (F ++ [44, 32]).length = F.length + 2 := by simp
        obtain ⟨y0, hy0⟩ : ∃ y0, F ++ [44, 32] = y0 := ⟨_, rfl⟩
        rw [hy0] at AF HRES hl0
        have HLN := Lib.hid (show y0.length + y.length + s.length + 10 ≤ 960000000 by have := HLF.out; omega)
        have A0 : ∀ w : World, (Op.stringOp .add (bstr y0) (bstr y)).run Tryz.prog w = .ok (.string (bstr (y0 ++ y))) w := addS y0 y (by have h1 := HLN.out; first | omega | (simp only [List.length_cons, List.length_nil]; omega))
        obtain ⟨x0, hx0⟩ : ∃ x : Str, y0 ++ y = x := ⟨_, rfl⟩
        have hxl0 : x0.length = y0.length + y.length := by have h := congrArg List.length hx0; rw [List.length_append] at h; exact h.symm
        rw [hx0] at A0
        have A1 : ∀ w : World, (Op.stringOp .add (bstr x0) ⟨#[32, 58, 32]⟩).run Tryz.prog w = .ok (.string (bstr (x0 ++ [32, 58, 32]))) w := addS x0 [32, 58, 32] (by have h1 := HLN.out; first | omega | (simp only [List.length_cons, List.length_nil]; omega))
        obtain ⟨x1, hx1⟩ : ∃ x : Str, x0 ++ [32, 58, 32] = x := ⟨_, rfl⟩
        have hxl1 : x1.length = x0.length + 3 := by have h := congrArg List.length hx1; rw [List.length_append] at h; exact h.symm
        rw [hx1] at A1
        have A2 : ∀ w : World, (Op.stringOp .add (bstr x1) (bstr s)).run Tryz.prog w = .ok (.string (bstr (x1 ++ s))) w := addS x1 s (by have h1 := HLN.out; first | omega | (simp only [List.length_cons, List.length_nil]; omega))
        obtain ⟨x2, hx2⟩ : ∃ x : Str, x1 ++ s = x := ⟨_, rfl⟩
        have hxl2 : x2.length = x1.length + s.length := by have h := congrArg List.length hx2; rw [List.length_append] at h; exact h.symm
        rw [hx2] at A2
        rw [hx0, hx1, hx2] at HRES
        have HRS := Lib.hid HRES
        clear HRES hx0 hx1 hx2 hxl0 hxl1 hxl2 hy0 hk1
        go_wp2_with fail
        refine wp_region_quiet_below (by kernel_rfl) (by kernel_rfl) ?_
        repeat (quiet_step ((go_at_call 31; with_reducible exact CX.out _ _)))
        refine wpQuiet_nil ?_
        intro _ hw
        obtain ⟨⟨dq, osq⟩, hw''⟩ := hw
        subst hw''
        have hbq := below_regrown wr dq osq
        have H5 := Lib.hid (below_then HR.out hbq)
        clear hbq
        go_wp2_with fail
        go_roundw
        case rel => exact ⟨k + 1, congrArg (fun v => Value.string (bstr v)) HRS.out.symm, by go_num, hlt, H5.out⟩
        case measure => simp [intOf] <;> omega
    · have hki : ¬ (k : Int) < (d.ln : Int) := by omega
      have hkn : k = d.labels.length := by rw [HLB.out]; omega
      rw [HPN.out] at c2
      have c0 := (HE.out _ hbr).c0
      have c4 := (HE.out _ hbr).c4
      have HFL := Lib.hid (show (rowTo d.labels (txL T R l) k).length + 80 ≤ 950000000 by
        have h1 := HRL.out
        have h2 := labW_take d.labels k
        have h3 := sumTx_len T R HNV.out.lT HNV.out.lR l
        have h5 := sumLen_take (txL T R l) k
        have h6 := HWT.out
        omega)
      obtain ⟨F, hF⟩ : ∃ F, rowTo d.labels (txL T R l) k = F := ⟨_, rfl⟩
      have HRW := Lib.hid (show d.rowTx R (txL T R l) = F ++ d.tailTx R by unfold TyD.rowTx; rw [← hF, hkn])
      rw [hF] at HFL ⊢
      clear hF hkn hbr
      by_cases ht : 0 ≤ d.tail
      · have qt : decide (0 ≤ d.tail) = true := decide_eq_true ht
        obtain ⟨_, ⟨A, cc, g1, hr⟩, _, hlR⟩ := HNV.out.below (below_then HW1.out HR.out)
        have HII := atF_inR hlR d.tail
        have HIL := itoa_len _ HII
        have CA := Lib.hid (atR (c := cc) d.tail hr hlR)
        have HTX : d.tailTx R = (if 0 < d.labels.length then [32, 124, 32] else []) ++ ([46, 46] ++ Lib.itoa (atF R d.tail 0)) := by unfold TyD.tailTx; rw [if_pos ht]
        obtain ⟨z, hz⟩ : ∃ z, atF R d.tail 0 = z := ⟨_, rfl⟩
        rw [hz] at CA HII HIL HTX
        have CI := Lib.hid (itoaR z HII (tab_below HTB.out (below_then HW1.out HR.out)))
        obtain ⟨I, hIe⟩ : ∃ I, Lib.itoa z = I := ⟨_, rfl⟩
        rw [hIe] at CI HIL HTX
        have kg1 := cell_regrown g1
        have kc4 := cell_regrown c4
        by_cases hz0 : d.ln = 0
        · have qz : ¬ (0 : Int) < (d.ln : Int) := by omega
          rw [if_neg (by rw [HLB.out, hz0]; omega), List.nil_append] at HTX
          have HLN := Lib.hid (show F.length + 80 ≤ 950000000 ∧ I.length ≤ 30 from ⟨HFL.out, HIL⟩)
          have A0 : ∀ w : World, (Op.stringOp .add (bstr F) ⟨#[46, 46]⟩).run Tryz.prog w = .ok (.string (bstr (F ++ [46, 46]))) w := addS F [46, 46] (by have h1 := HLN.out; first | omega | (simp only [List.length_cons, List.length_nil]; omega))
          obtain ⟨x0, hx0⟩ : ∃ x : Str, F ++ [46, 46] = x := ⟨_, rfl⟩
          have hxl0 : x0.length = F.length + 2 := by have h := congrArg List.length hx0; rw [List.length_append] at h; exact h.symm
          rw [hx0] at A0
          have A1 : ∀ w : World, (Op.stringOp .add (bstr x0) (bstr I)).run Tryz.prog w = .ok (.string (bstr (x0 ++ I))) w := addS x0 I (by have h1 := HLN.out; first | omega | (simp only [List.length_cons, List.length_nil]; omega))
          obtain ⟨x1, hx1⟩ : ∃ x : Str, x0 ++ I = x := ⟨_, rfl⟩
          have hxl1 : x1.length = x0.length + I.length := by have h := congrArg List.length hx1; rw [List.length_append] at h; exact h.symm
          rw [hx1] at A1
          have A8 : ∀ w : World, (Op.stringOp .add ⟨#[123]⟩ (bstr x1)).run Tryz.prog w = .ok (.string (bstr ([123] ++ x1))) w := addS [123] x1 (by have h1 := HLN.out; first | omega | (simp only [List.length_cons, List.length_nil]; omega))
          obtain ⟨x8, hx8⟩ : ∃ x : Str, [123] ++ x1 = x := ⟨_, rfl⟩
          have hxl8 : x8.length = 1 + x1.length := by have h := congrArg List.length hx8; rw [List.length_append] at h; exact h.symm
          rw [hx8] at A8
          have A9 : ∀ w : World, (Op.stringOp .add (bstr x8) ⟨#[125]⟩).run Tryz.prog w = .ok (.string (bstr (x8 ++ [125]))) w := addS x8 [125] (by have h1 := HLN.out; first | omega | (simp only [List.length_cons, List.length_nil]; omega))
          obtain ⟨x9, hx9⟩ : ∃ x : Str, x8 ++ [125] = x := ⟨_, rfl⟩
          have hxl9 : x9.length = x8.length + 1 := by have h := congrArg List.length hx9; rw [List.length_append] at h; exact h.symm
          rw [hx9] at A9
          have HRS := Lib.hid (show res = x9 by rw [← HRE.out, HRW.out, HTX, show F ++ ([46, 46] ++ I) = x1 by rw [← List.append_assoc, hx0, hx1], hx8, hx9])
          clear hx0 hx1 hx8 hx9 hxl0 hxl1 hxl8 hxl9 HTX hz hIe HII HIL hr hlR ht hz0
          go_wp2_with fail
          refine wp_region_quiet_below (by kernel_rfl) (by kernel_rfl) ?_
          repeat (quiet_step ((first | (go_at_call 20; with_reducible exact CA.out _ _) | (go_at_call 49; with_reducible exact CI.out _ _))))
          refine wpQuiet_nil ?_
          intro _ hw
          obtain ⟨⟨dq, osq⟩, hw''⟩ := hw
          subst hw''
          have hbq := below_then HR.out (below_regrown wr dq osq)
          have e0 := (HE.out _ hbq).c0
          have HBQ := Lib.hid (below_then HB1.out hbq)
          clear hbq c0 c2 c3 c4 kg1 kc4
          go_wp2_with fail
          go_returns
          exact ⟨by rw [HRS.out]; rfl, HBQ.out⟩
        · have qz : (0 : Int) < (d.ln : Int) := by omega
          rw [if_pos (by rw [HLB.out]; omega)] at HTX
          have HLN := Lib.hid (show F.length + 80 ≤ 950000000 ∧ I.length ≤ 30 from ⟨HFL.out, HIL⟩)
          have A7 : ∀ w : World, (Op.stringOp .add (bstr F) ⟨#[32, 124, 32]⟩).run Tryz.prog w = .ok (.string (bstr (F ++ [32, 124, 32]))) w := addS F [32, 124, 32] (by have h1 := HLN.out; first | omega | (simp only [List.length_cons, List.length_nil]; omega))
          obtain ⟨x7, hx7⟩ : ∃ x : Str, F ++ [32, 124, 32] = x := ⟨_, rfl⟩
          have hxl7 : x7.length = F.length + 3 := by have h := congrArg List.length hx7; rw [List.length_append] at h; exact h.symm
          rw [hx7] at A7
          have A0 : ∀ w : World, (Op.stringOp .add (bstr x7) ⟨#[46, 46]⟩).run Tryz.prog w = .ok (.string (bstr (x7 ++ [46, 46]))) w := addS x7 [46, 46] (by have h1 := HLN.out; first | omega | (simp only [List.length_cons, List.length_nil]; omega))
          obtain ⟨x0, hx0⟩ : ∃ x : Str, x7 ++ [46, 46] = x := ⟨_, rfl⟩
          have hxl0 : x0.length = x7.length + 2 := by have h := congrArg List.length hx0; rw [List.length_append] at h; exact h.symm
          rw [hx0] at A0
          have A1 : ∀ w : World, (Op.stringOp .add (bstr x0) (bstr I)).run Tryz.prog w = .ok (.string (bstr (x0 ++ I))) w := addS x0 I (by have h1 := HLN.out; first | omega | (simp only [List.length_cons, List.length_nil]; omega))
          obtain ⟨x1, hx1⟩ : ∃ x : Str, x0 ++ I = x := ⟨_, rfl⟩
          have hxl1 : x1.length = x0.length + I.length := by have h := congrArg List.length hx1; rw [List.length_append] at h; exact h.symm
          rw [hx1] at A1
          have A8 : ∀ w : World, (Op.stringOp .add ⟨#[123]⟩ (bstr x1)).run Tryz.prog w = .ok (.string (bstr ([123] ++ x1))) w := addS [123] x1 (by have h1 := HLN.out; first | omega | (simp only [List.length_cons, List.length_nil]; omega))
          obtain ⟨x8, hx8⟩ : ∃ x : Str, [123] ++ x1 = x := ⟨_, rfl⟩
          have hxl8 : x8.length = 1 + x1.length := by have h := congrArg List.length hx8; rw [List.length_append] at h; exact h.symm
          rw [hx8] at A8
          have A9 : ∀ w : World, (Op.stringOp .add (bstr x8) ⟨#[125]⟩).run Tryz.prog w = .ok (.string (bstr (x8 ++ [125]))) w := addS x8 [125] (by have h1 := HLN.out; first | omega | (simp only [List.length_cons, List.length_nil]; omega))
          obtain ⟨x9, hx9⟩ : ∃ x : Str, x8 ++ [125] = x := ⟨_, rfl⟩
          have hxl9 : x9.length = x8.length + 1 := by have h := congrArg List.length hx9; rw [List.length_append] at h; exact h.symm
          rw [hx9] at A9
          have HRS := Lib.hid (show res = x9 by rw [← HRE.out, HRW.out, HTX, show F ++ ([32, 124, 32] ++ ([46, 46] ++ I)) = x1 by rw [← List.append_assoc, hx7, ← List.append_assoc, hx0, hx1], hx8, hx9])
          clear hx7 hx0 hx1 hx8 hx9 hxl7 hxl0 hxl1 hxl8 hxl9 HTX hz hIe HII HIL hr hlR ht hz0
          go_wp2_with fail
          refine wp_region_quiet_below (by kernel_rfl) (by kernel_rfl) ?_
          repeat (quiet_step ((first | (go_at_call 20; with_reducible exact CA.out _ _) | (go_at_call 49; with_reducible exact CI.out _ _))))
          refine wpQuiet_nil ?_
          intro _ hw
          obtain ⟨⟨dq, osq⟩, hw''⟩ := hw
          subst hw''
          have hbq := below_then HR.out (below_regrown wr dq osq)
          have e0 := (HE.out _ hbq).c0
          have HBQ := Lib.hid (below_then HB1.out hbq)
          clear hbq c0 c2 c3 c4 kg1 kc4
          go_wp2_with fail
          go_returns
          exact ⟨by rw [HRS.out]; rfl, HBQ.out⟩
      · have qt : decide (0 ≤ d.tail) = false := decide_eq_false ht
        have HLN := Lib.hid (show F.length + 80 ≤ 950000000 from HFL.out)
        have A8 : ∀ w : World, (Op.stringOp .add ⟨#[123]⟩ (bstr F)).run Tryz.prog w = .ok (.string (bstr ([123] ++ F))) w := addS [123] F (by have h1 := HLN.out; first | omega | (simp only [List.length_cons, List.length_nil]; omega))
        obtain ⟨x8, hx8⟩ : ∃ x : Str, [123] ++ F = x := ⟨_, rfl⟩
        have hxl8 : x8.length = 1 + F.length := by have h := congrArg List.length hx8; rw [List.length_append] at h; exact h.symm
        rw [hx8] at A8
        have A9 : ∀ w : World, (Op.stringOp .add (bstr x8) ⟨#[125]⟩).run Tryz.prog w = .ok (.string (bstr (x8 ++ [125]))) w := addS x8 [125] (by have h1 := HLN.out; first | omega | (simp only [List.length_cons, List.length_nil]; omega))
        obtain ⟨x9, hx9⟩ : ∃ x : Str, x8 ++ [125] = x := ⟨_, rfl⟩
        have hxl9 : x9.length = x8.length + 1 := by have h := congrArg List.length hx9; rw [List.length_append] at h; exact h.symm
        rw [hx9] at A9
        have HRS := Lib.hid (show res = x9 by rw [← HRE.out, HRW.out, show d.tailTx R = [] by unfold TyD.tailTx; rw [if_neg ht], List.append_nil, hx8, hx9])
        clear hx8 hx9 hxl8 hxl9 ht
        go_wp2_with fail
        go_returns
        exact ⟨by rw [HRS.out]; rfl, below_then HB1.out HR.out⟩

set_option maxRecDepth 100000 in
set_option maxHeartbeats 4000000 in
theorem ref_5 (w0 : World) (N : Nat) (T R : List Int) (d : TyD) (l : List Ty) (hk : d.kind = 5) (hI : (Ty.mk d l).In w0) (hpn : d.pn = d.ln) (WW : ∀ x ∈ l, RefAt w0 N x.d (x.tx T R)) (hT : Tab w0) (hN : NV w0 N T R) (hwt : (Ty.mk d l).wt ≤ 900000000) :
    RefAt w0 N d ([60] ++ d.rowTx R (txL T R l) ++ [62]) := by
  obtain ⟨res, hres⟩ : ∃ res : Str, [60] ++ d.rowTx R (txL T R l) ++ [62] = res := ⟨_, rfl⟩
  rw [hres]
  have HRE := Lib.hid hres
  clear hres
  intro W hW
  have hb1 : Below W.heap.size W (W.alloc (.cells d.arr 25)) := (Below.refl _ _).alloc (Nat.le_refl _) _
  have hE := box_at W d
  have HB1 := Lib.hid hb1
  have HW1 := Lib.hid (below_then hW hb1)
  have HI := Lib.hid hI
  have WW := Lib.hid WW
  have HPN := Lib.hid hpn
  have HNV := Lib.hid hN
  have HTB := Lib.hid hT
  have HLB := Lib.hid (show d.labels.length = d.ln from hI.labLen)
  have HLP := Lib.hid (show l.length = d.ln by rw [← hpn]; exact hI.len)
  have HLAB := Lib.hid (show Rd w0 1 d.lA d.ln (strs d.labels) from hI.lab)
  have HWT := Lib.hid (show 50 + labW d.labels + wtL l ≤ 900000000 by unfold Ty.wt at hwt; exact hwt)
  have hn9 : (d.ln : Int) ≤ 4000000 := by have h9 : d.ln ≤ 4000000 := hI.cap.2.2.2.2.1; omega
  have q1 : (d.kind == 1) = false := by rw [hk]; rfl
  have q2 : (d.kind == 2) = false := by rw [hk]; rfl
  have q3 : (d.kind == 3) = false := by rw [hk]; rfl
  have q6 : (d.kind == 6) = false := by rw [hk]; rfl
  have q7 : (d.kind == 7) = false := by rw [hk]; rfl
  have q4 : (d.kind == 4) = false := by rw [hk]; rfl
  clear hI hpn hwt hW hb1 hT hN hk
  obtain ⟨bx, hbx⟩ : ∃ bx, W.heap.size = bx := ⟨_, rfl⟩
  rw [hbx] at hE
  go_enter Tryz.func31, Tryz.ntmps31
  go_wp2_with fail
  try rw [hbx]
  clear hbx
  generalize (W.alloc (.cells d.arr 25)) = w1 at *
  have HE := Lib.hid (fun V (h : Below w1.heap.size w1 V) => hE.lower h)
  obtain ⟨c0, c1, c2, c3, c4⟩ := hE
  go_wp2_with fail
  clear c0 c1 c2 c3 c4
  go_loopw [7, 8] (fun v i wr => ∃ k : Nat, v = .string (bstr (rowTo d.labels (txL T R l) k)) ∧ i = .int .i64 k ∧ k ≤ d.ln ∧ Below w1.heap.size w1 wr) (fun _ i _ => d.ln - (intOf i).toNat)
  case atStart => exact ⟨0, rfl, rfl, Nat.zero_le _, Below.refl _ _⟩
  case round =>
    obtain ⟨k, rfl, rfl, hk, hbr⟩ := hrel
    have HR := Lib.hid hbr
    have HRL := Lib.hid (rowTo_len d.labels (txL T R l) k (by rw [HLB.out]; exact hk))
    have c2 := (HE.out _ hbr).c2
    have c3 := (HE.out _ hbr).c3
    by_cases hlt : k < d.ln
    · have hkl : k < l.length := by rw [HLP.out]; exact hlt
      have hkb : k < d.labels.length := by rw [HLB.out]; exact hlt
      obtain ⟨b1, o1, hlA, hcs⟩ := (HLAB.out.below (below_then HW1.out hbr)).str hkb
      have hc := hcs k hkb
      obtain ⟨pb, po, hpA, hAtP⟩ := HI.out.part (k := k) hkl
      have HIL := Lib.hid (And.intro (show d.pA = some ⟨pb, po, none⟩ from hpA) (show ∀ j (hj : j < l.length), (l[j]).d.At w0 pb (po + j * 5) from hAtP))
      rw [hlA] at c3
      rw [HIL.out.1, HPN.out] at c2
      have hAx := HIL.out.2 k hkl
      obtain ⟨p0, p1, p2, p3, p4⟩ := hAx.lower (below_then HW1.out HR.out)
      have HWx := WW.out l[k] (List.getElem_mem hkl)
      have HN := Lib.hid (show rowTo d.labels (txL T R l) (k + 1) = rowTo d.labels (txL T R l) k ++ ((if k = 0 then [] else [44, 32]) ++ (d.labels[k] ++ [32, 58, 32] ++ (l[k]).tx T R)) by rw [rowTo_at _ hkb, txL_at T R l k hkl])
      have HLF := Lib.hid (show (rowTo d.labels (txL T R l) k).length + (d.labels[k]).length + ((l[k]).tx T R).length + 20 ≤ 950000000 by
        have h1 := HRL.out
        have h2 := labW_at d.labels k hkb
        have h3 := sumTx_len T R HNV.out.lT HNV.out.lR l
        have h4 := getD_len_take (txL T R l) k
        rw [txL_at T R l k hkl] at h4
        have h5 := sumLen_take (txL T R l) (k + 1)
        have h6 := HWT.out
        omega)
      obtain ⟨x, hx⟩ : ∃ x, l[k] = x := ⟨_, rfl⟩
      rw [hx] at p0 p1 p2 p3 p4 HWx HN HLF
      obtain ⟨y, hy⟩ : ∃ y, d.labels[k] = y := ⟨_, rfl⟩
      rw [hy] at hc HN HLF
      obtain ⟨F, hF⟩ : ∃ F, rowTo d.labels (txL T R l) k = F := ⟨_, rfl⟩
      rw [hF] at HN HLF HRL
      have CX := Lib.hid (RefAt.quiet HWx (below_then HW1.out HR.out))
      obtain ⟨s, hs⟩ : ∃ s, x.tx T R = s := ⟨_, rfl⟩
      rw [hs] at CX HN HLF
      obtain ⟨dx, hdx⟩ : ∃ dx, x.d = dx := ⟨_, rfl⟩
      rw [hdx] at p0 p1 p2 p3 p4 CX
      have k3 := cell_regrown c3
      have k7 := cell_regrown c2
      have kc := cell_regrown hc
      have kp0 := cell_regrown p0
      have kp1 := cell_regrown p1
      have kp2 := cell_regrown p2
      have kp3 := cell_regrown p3
      have kp4 := cell_regrown p4
      have hki : (k : Int) < (d.ln : Int) := by omega
      have hk0 : (0 : Int) ≤ (k : Int) := by omega
      have hk9 : (k : Int) ≤ 4000000 := by omega
      rw [hF]
      clear hbr hx hy hF hs hdx hAx hcs hlA hpA hAtP HWx p0 p1 p2 p3 p4 hc
      by_cases hk1 : k = 0
      · have qk : ¬ (0 : Int) < (k : Int) := by omega
        obtain ⟨y0, hy0⟩ : ∃ y0, F = y0 := ⟨_, rfl⟩
        have HLN := Lib.hid (show y0.length + y.length + s.length + 10 ≤ 960000000 by have := HLF.out; rw [← hy0]; omega)
        have HRES := HN.out
        rw [if_pos hk1, List.nil_append, hy0, ← List.append_assoc, ← List.append_assoc] at HRES
        rw [hy0]
        have A0 : ∀ w : World, (Op.stringOp .add (bstr y0) (bstr y)).run Tryz.prog w = .ok (.string (bstr (y0 ++ y))) w := addS y0 y (by have h1 := HLN.out; first | omega | (simp only [List.length_cons, List.length_nil]; omega))
        obtain ⟨x0, hx0⟩ : ∃ x : Str, y0 ++ y = x := ⟨_, rfl⟩
        have hxl0 : x0.length = y0.length + y.length := by have h := congrArg List.length hx0; rw [List.length_append] at h; exact h.symm
        rw [hx0] at A0
        have A1 : ∀ w : World, (Op.stringOp .add (bstr x0) ⟨#[32, 58, 32]⟩).run Tryz.prog w = .ok (.string (bstr (x0 ++ [32, 58, 32]))) w := addS x0 [32, 58, 32] (by have h1 := HLN.out; first | omega | (simp only [List.length_cons, List.length_nil]; omega))
        obtain ⟨x1, hx1⟩ : ∃ x : Str, x0 ++ [32, 58, 32] = x := ⟨_, rfl⟩
        have hxl1 : x1.length = x0.length + 3 := by have h := congrArg List.length hx1; rw [List.length_append] at h; exact h.symm
        rw [hx1] at A1
        have A2 : ∀ w : World, (Op.stringOp .add (bstr x1) (bstr s)).run Tryz.prog w = .ok (.string (bstr (x1 ++ s))) w := addS x1 s (by have h1 := HLN.out; first | omega | (simp only [List.length_cons, List.length_nil]; omega))
        obtain ⟨x2, hx2⟩ : ∃ x : Str, x1 ++ s = x := ⟨_, rfl⟩
        have hxl2 : x2.length = x1.length + s.length := by have h := congrArg List.length hx2; rw [List.length_append] at h; exact h.symm
        rw [hx2] at A2
        rw [hx0, hx1, hx2] at HRES
        have HRS := Lib.hid HRES
        clear HRES hx0 hx1 hx2 hxl0 hxl1 hxl2 hy0 hk1
        go_wp2_with fail
        refine wp_region_quiet_below (by kernel_rfl) (by kernel_rfl) ?_
        repeat (quiet_step ((go_at_call 31; with_reducible exact CX.out _ _)))
        refine wpQuiet_nil ?_
        intro _ hw
        obtain ⟨⟨dq, osq⟩, hw''⟩ := hw
        subst hw''
        have hbq := below_regrown wr dq osq
        have H5 := Lib.hid (below_then HR.out hbq)
        clear hbq
        go_wp2_with fail
        go_roundw
        case rel => exact ⟨k + 1, congrArg (fun v => Value.string (bstr v)) HRS.out.symm, by go_num, hlt, H5.out⟩
        case measure => simp [intOf] <;> omega
      · have qk : (0 : Int) < (k : Int) := by omega
        have AF : ∀ w : World, (Op.stringOp .add (bstr F) ⟨#[44, 32]⟩).run Tryz.prog w = .ok (.string (bstr (F ++ [44, 32]))) w := addS F [44, 32] (by have := HLF.out; simp only [List.length_cons, List.length_nil]; omega)
        have HRES := HN.out
        rw [if_neg hk1, ← List.append_assoc, ← List.append_assoc, ← List.append_assoc] at HRES
        have hl0 : (F ++ [44, 32]).length = F.length + 2 := by simp
        obtain ⟨y0, hy0⟩ : ∃ y0, F ++ [44, 32] = y0 := ⟨_, rfl⟩
        rw [hy0] at AF HRES hl0
        have HLN := Lib.hid (show y0.length + y.length + s.length + 10 ≤ 960000000 by have := HLF.out; omega)
        have A0 : ∀ w : World, (Op.stringOp .add (bstr y0) (bstr y)).run Tryz.prog w = .ok (.string (bstr (y0 ++ y))) w := addS y0 y (by have h1 := HLN.out; first | omega | (simp only [List.length_cons, List.length_nil]; omega))
        obtain ⟨x0, hx0⟩ : ∃ x : Str, y0 ++ y = x := ⟨_, rfl⟩
        have hxl0 : x0.length = y0.length + y.length := by have h := congrArg List.length hx0; rw [List.length_append] at h; exact h.symm
        rw [hx0] at A0
        have A1 : ∀ w : World, (Op.stringOp .add (bstr x0) ⟨#[32, 58, 32]⟩).run Tryz.prog w = .ok (.string (bstr (x0 ++ [32, 58, 32]))) w := addS x0 [32, 58, 32] (by have h1 := HLN.out; first | omega | (simp only [List.length_cons, List.length_nil]; omega))
        obtain ⟨x1, hx1⟩ : ∃ x : Str, x0 ++ [32, 58, 32] = x := ⟨_, rfl⟩
        have hxl1 : x1.length = x0.length + 3 := by have h := congrArg List.length hx1; rw [List.length_append] at h; exact h.symm
        rw [hx1] at A1
        have A2 : ∀ w : World, (Op.stringOp .add (bstr x1) (bstr s)).run Tryz.prog w = .ok (.string (bstr (x1 ++ s))) w := addS x1 s (by have h1 := HLN.out; first | omega | (simp only [List.length_cons, List.length_nil]; omega))
        obtain ⟨x2, hx2⟩ : ∃ x : Str, x1 ++ s = x := ⟨_, rfl⟩
        have hxl2 : x2.length = x1.length + s.length := by have h := congrArg List.length hx2; rw [List.length_append] at h; exact h.symm
        rw [hx2] at A2
        rw [hx0, hx1, hx2] at HRES
        have HRS := Lib.hid HRES
        clear HRES hx0 hx1 hx2 hxl0 hxl1 hxl2 hy0 hk1
        go_wp2_with fail
        refine wp_region_quiet_below (by kernel_rfl) (by kernel_rfl) ?_
        repeat (quiet_step ((go_at_call 31; with_reducible exact CX.out _ _)))
        refine wpQuiet_nil ?_
        intro _ hw
        obtain ⟨⟨dq, osq⟩, hw''⟩ := hw
        subst hw''
        have hbq := below_regrown wr dq osq
        have H5 := Lib.hid (below_then HR.out hbq)
        clear hbq
        go_wp2_with fail
        go_roundw
        case rel => exact ⟨k + 1, congrArg (fun v => Value.string (bstr v)) HRS.out.symm, by go_num, hlt, H5.out⟩
        case measure => simp [intOf] <;> omega
    · have hki : ¬ (k : Int) < (d.ln : Int) := by omega
      have hkn : k = d.labels.length := by rw [HLB.out]; omega
      rw [HPN.out] at c2
      have c0 := (HE.out _ hbr).c0
      have c4 := (HE.out _ hbr).c4
      have HFL := Lib.hid (show (rowTo d.labels (txL T R l) k).length + 80 ≤ 950000000 by
        have h1 := HRL.out
        have h2 := labW_take d.labels k
        have h3 := sumTx_len T R HNV.out.lT HNV.out.lR l
        have h5 := sumLen_take (txL T R l) k
        have h6 := HWT.out
        omega)
      obtain ⟨F, hF⟩ : ∃ F, rowTo d.labels (txL T R l) k = F := ⟨_, rfl⟩
      have HRW := Lib.hid (show d.rowTx R (txL T R l) = F ++ d.tailTx R by unfold TyD.rowTx; rw [← hF, hkn])
      rw [hF] at HFL ⊢
      clear hF hkn hbr
      by_cases ht : 0 ≤ d.tail
      · have qt : decide (0 ≤ d.tail) = true := decide_eq_true ht
        obtain ⟨_, ⟨A, cc, g1, hr⟩, _, hlR⟩ := HNV.out.below (below_then HW1.out HR.out)
        have HII := atF_inR hlR d.tail
        have HIL := itoa_len _ HII
        have CA := Lib.hid (atR (c := cc) d.tail hr hlR)
        have HTX : d.tailTx R = (if 0 < d.labels.length then [32, 124, 32] else []) ++ ([46, 46] ++ Lib.itoa (atF R d.tail 0)) := by unfold TyD.tailTx; rw [if_pos ht]
        obtain ⟨z, hz⟩ : ∃ z, atF R d.tail 0 = z := ⟨_, rfl⟩
        rw [hz] at CA HII HIL HTX
        have CI := Lib.hid (itoaR z HII (tab_below HTB.out (below_then HW1.out HR.out)))
        obtain ⟨I, hIe⟩ : ∃ I, Lib.itoa z = I := ⟨_, rfl⟩
        rw [hIe] at CI HIL HTX
        have kg1 := cell_regrown g1
        have kc4 := cell_regrown c4
        by_cases hz0 : d.ln = 0
        · have qz : ¬ (0 : Int) < (d.ln : Int) := by omega
          rw [if_neg (by rw [HLB.out, hz0]; omega), List.nil_append] at HTX
          have HLN := Lib.hid (show F.length + 80 ≤ 950000000 ∧ I.length ≤ 30 from ⟨HFL.out, HIL⟩)
          have A0 : ∀ w : World, (Op.stringOp .add (bstr F) ⟨#[46, 46]⟩).run Tryz.prog w = .ok (.string (bstr (F ++ [46, 46]))) w := addS F [46, 46] (by have h1 := HLN.out; first | omega | (simp only [List.length_cons, List.length_nil]; omega))
          obtain ⟨x0, hx0⟩ : ∃ x : Str, F ++ [46, 46] = x := ⟨_, rfl⟩
          have hxl0 : x0.length = F.length + 2 := by have h := congrArg List.length hx0; rw [List.length_append] at h; exact h.symm
          rw [hx0] at A0
          have A1 : ∀ w : World, (Op.stringOp .add (bstr x0) (bstr I)).run Tryz.prog w = .ok (.string (bstr (x0 ++ I))) w := addS x0 I (by have h1 := HLN.out; first | omega | (simp only [List.length_cons, List.length_nil]; omega))
          obtain ⟨x1, hx1⟩ : ∃ x : Str, x0 ++ I = x := ⟨_, rfl⟩
          have hxl1 : x1.length = x0.length + I.length := by have h := congrArg List.length hx1; rw [List.length_append] at h; exact h.symm
          rw [hx1] at A1
          have A8 : ∀ w : World, (Op.stringOp .add ⟨#[60]⟩ (bstr x1)).run Tryz.prog w = .ok (.string (bstr ([60] ++ x1))) w := addS [60] x1 (by have h1 := HLN.out; first | omega | (simp only [List.length_cons, List.length_nil]; omega))
          obtain ⟨x8, hx8⟩ : ∃ x : Str, [60] ++ x1 = x := ⟨_, rfl⟩
          have hxl8 : x8.length = 1 + x1.length := by have h := congrArg List.length hx8; rw [List.length_append] at h; exact h.symm
          rw [hx8] at A8
          have A9 : ∀ w : World, (Op.stringOp .add (bstr x8) ⟨#[62]⟩).run Tryz.prog w = .ok (.string (bstr (x8 ++ [62]))) w := addS x8 [62] (by have h1 := HLN.out; first | omega | (simp only [List.length_cons, List.length_nil]; omega))
          obtain ⟨x9, hx9⟩ : ∃ x : Str, x8 ++ [62] = x := ⟨_, rfl⟩
          have hxl9 : x9.length = x8.length + 1 := by have h := congrArg List.length hx9; rw [List.length_append] at h; exact h.symm
          rw [hx9] at A9
          have HRS := Lib.hid (show res = x9 by rw [← HRE.out, HRW.out, HTX, show F ++ ([46, 46] ++ I) = x1 by rw [← List.append_assoc, hx0, hx1], hx8, hx9])
          clear hx0 hx1 hx8 hx9 hxl0 hxl1 hxl8 hxl9 HTX hz hIe HII HIL hr hlR ht hz0
          go_wp2_with fail
          refine wp_region_quiet_below (by kernel_rfl) (by kernel_rfl) ?_
          repeat (quiet_step ((first | (go_at_call 20; with_reducible exact CA.out _ _) | (go_at_call 49; with_reducible exact CI.out _ _))))
          refine wpQuiet_nil ?_
          intro _ hw
          obtain ⟨⟨dq, osq⟩, hw''⟩ := hw
          subst hw''
          have hbq := below_then HR.out (below_regrown wr dq osq)
          have e0 := (HE.out _ hbq).c0
          have HBQ := Lib.hid (below_then HB1.out hbq)
          clear hbq c0 c2 c3 c4 kg1 kc4
          go_wp2_with fail
          go_returns
          exact ⟨by rw [HRS.out]; rfl, HBQ.out⟩
        · have qz : (0 : Int) < (d.ln : Int) := by omega
          rw [if_pos (by rw [HLB.out]; omega)] at HTX
          have HLN := Lib.hid (show F.length + 80 ≤ 950000000 ∧ I.length ≤ 30 from ⟨HFL.out, HIL⟩)
          have A7 : ∀ w : World, (Op.stringOp .add (bstr F) ⟨#[32, 124, 32]⟩).run Tryz.prog w = .ok (.string (bstr (F ++ [32, 124, 32]))) w := addS F [32, 124, 32] (by have h1 := HLN.out; first | omega | (simp only [List.length_cons, List.length_nil]; omega))
          obtain ⟨x7, hx7⟩ : ∃ x : Str, F ++ [32, 124, 32] = x := ⟨_, rfl⟩
          have hxl7 : x7.length = F.length + 3 := by have h := congrArg List.length hx7; rw [List.length_append] at h; exact h.symm
          rw [hx7] at A7
          have A0 : ∀ w : World, (Op.stringOp .add (bstr x7) ⟨#[46, 46]⟩).run Tryz.prog w = .ok (.string (bstr (x7 ++ [46, 46]))) w := addS x7 [46, 46] (by have h1 := HLN.out; first | omega | (simp only [List.length_cons, List.length_nil]; omega))
          obtain ⟨x0, hx0⟩ : ∃ x : Str, x7 ++ [46, 46] = x := ⟨_, rfl⟩
          have hxl0 : x0.length = x7.length + 2 := by have h := congrArg List.length hx0; rw [List.length_append] at h; exact h.symm
          rw [hx0] at A0
          have A1 : ∀ w : World, (Op.stringOp .add (bstr x0) (bstr I)).run Tryz.prog w = .ok (.string (bstr (x0 ++ I))) w := addS x0 I (by have h1 := HLN.out; first | omega | (simp only [List.length_cons, List.length_nil]; omega))
          obtain ⟨x1, hx1⟩ : ∃ x : Str, x0 ++ I = x := ⟨_, rfl⟩
          have hxl1 : x1.length = x0.length + I.length := by have h := congrArg List.length hx1; rw [List.length_append] at h; exact h.symm
          rw [hx1] at A1
          have A8 : ∀ w : World, (Op.stringOp .add ⟨#[60]⟩ (bstr x1)).run Tryz.prog w = .ok (.string (bstr ([60] ++ x1))) w := addS [60] x1 (by have h1 := HLN.out; first | omega | (simp only [List.length_cons, List.length_nil]; omega))
          obtain ⟨x8, hx8⟩ : ∃ x : Str, [60] ++ x1 = x := ⟨_, rfl⟩
          have hxl8 : x8.length = 1 + x1.length := by have h := congrArg List.length hx8; rw [List.length_append] at h; exact h.symm
          rw [hx8] at A8
          have A9 : ∀ w : World, (Op.stringOp .add (bstr x8) ⟨#[62]⟩).run Tryz.prog w = .ok (.string (bstr (x8 ++ [62]))) w := addS x8 [62] (by have h1 := HLN.out; first | omega | (simp only [List.length_cons, List.length_nil]; omega))
          obtain ⟨x9, hx9⟩ : ∃ x : Str, x8 ++ [62] = x := ⟨_, rfl⟩
          have hxl9 : x9.length = x8.length + 1 := by have h := congrArg List.length hx9; rw [List.length_append] at h; exact h.symm
          rw [hx9] at A9
          have HRS := Lib.hid (show res = x9 by rw [← HRE.out, HRW.out, HTX, show F ++ ([32, 124, 32] ++ ([46, 46] ++ I)) = x1 by rw [← List.append_assoc, hx7, ← List.append_assoc, hx0, hx1], hx8, hx9])
          clear hx7 hx0 hx1 hx8 hx9 hxl7 hxl0 hxl1 hxl8 hxl9 HTX hz hIe HII HIL hr hlR ht hz0
          go_wp2_with fail
          refine wp_region_quiet_below (by kernel_rfl) (by kernel_rfl) ?_
          repeat (quiet_step ((first | (go_at_call 20; with_reducible exact CA.out _ _) | (go_at_call 49; with_reducible exact CI.out _ _))))
          refine wpQuiet_nil ?_
          intro _ hw
          obtain ⟨⟨dq, osq⟩, hw''⟩ := hw
          subst hw''
          have hbq := below_then HR.out (below_regrown wr dq osq)
          have e0 := (HE.out _ hbq).c0
          have HBQ := Lib.hid (below_then HB1.out hbq)
          clear hbq c0 c2 c3 c4 kg1 kc4
          go_wp2_with fail
          go_returns
          exact ⟨by rw [HRS.out]; rfl, HBQ.out⟩
      · have qt : decide (0 ≤ d.tail) = false := decide_eq_false ht
        have HLN := Lib.hid (show F.length + 80 ≤ 950000000 from HFL.out)
        have A8 : ∀ w : World, (Op.stringOp .add ⟨#[60]⟩ (bstr F)).run Tryz.prog w = .ok (.string (bstr ([60] ++ F))) w := addS [60] F (by have h1 := HLN.out; first | omega | (simp only [List.length_cons, List.length_nil]; omega))
        obtain ⟨x8, hx8⟩ : ∃ x : Str, [60] ++ F = x := ⟨_, rfl⟩
        have hxl8 : x8.length = 1 + F.length := by have h := congrArg List.length hx8; rw [List.length_append] at h; exact h.symm
        rw [hx8] at A8
        have A9 : ∀ w : World, (Op.stringOp .add (bstr x8) ⟨#[62]⟩).run Tryz.prog w = .ok (.string (bstr (x8 ++ [62]))) w := addS x8 [62] (by have h1 := HLN.out; first | omega | (simp only [List.length_cons, List.length_nil]; omega))
        obtain ⟨x9, hx9⟩ : ∃ x : Str, x8 ++ [62] = x := ⟨_, rfl⟩
        have hxl9 : x9.length = x8.length + 1 := by have h := congrArg List.length hx9; rw [List.length_append] at h; exact h.symm
        rw [hx9] at A9
        have HRS := Lib.hid (show res = x9 by rw [← HRE.out, HRW.out, show d.tailTx R = [] by unfold TyD.tailTx; rw [if_neg ht], List.append_nil, hx8, hx9])
        clear hx8 hx9 hxl8 hxl9 ht
        go_wp2_with fail
        go_returns
        exact ⟨by rw [HRS.out]; rfl, below_then HB1.out HR.out⟩

end Go.Proofs.YtklandpagieapaaGreatDoor

namespace Go.Proofs.YtklandpagieapaaGreatDoor
open Go.ChangeShapes Go.WideShapes Go.ChangeAt Go.RowKit Go.Sort
set_option linter.unusedVariables false
set_option linter.unusedSimpArgs false

theorem tx_wt9 {T R : List Int} (hT : T.length ≤ 4000000) (hR : R.length ≤ 4000000) {l : List Ty} {x : Ty} (hx : x ∈ l) (hw : 50 + wtL l ≤ 900000000) : (x.tx T R).length ≤ 900000000 ∧ x.wt ≤ 900000000 := by
  have h1 := tx_len T R hT hR x
  have h2 := wtL_mem l x hx
  omega
/-- The document's text of every type whose nodes may be. -/
theorem ref_any (w0 : World) (N : Nat) (T R : List Int) (hT : Tab w0) (hN : NV w0 N T R) (t : Ty) (hI : t.In w0) : t.fb → t.wt ≤ 900000000 → RefAt w0 N t.d (t.tx T R) := by
  induction hI with
  | mk d l lab par cap sub ih =>
  intro hF hW
  have hI : (Ty.mk d l).In w0 := .mk d l lab par cap sub
  have hlen : l.length = d.pn := hI.len
  obtain ⟨hf, hfl⟩ : d.fieldsB = true ∧ fbL l := by unfold Ty.fb at hF; exact hF
  have hwt : (Ty.mk d l).wt = 50 + labW d.labels + wtL l := by unfold Ty.wt; rfl
  have hwl : 50 + wtL l ≤ 900000000 := by omega
  have hW' : ∀ x ∈ l, RefAt w0 N x.d (x.tx T R) := fun x hx => ih x hx (fbL_mem l x hx hfl) (tx_wt9 hN.lT hN.lR hx hwl).2
  have ht : (Ty.mk d l).tx T R = d.txB T R (txL T R l) (kdL l) := by unfold Ty.tx; rfl
  show RefAt w0 N d ((Ty.mk d l).tx T R)
  rw [ht]
  unfold TyD.fieldsB at hf
  by_cases h4 : d.kind = 4 ∨ d.kind = 5
  · rw [if_pos h4] at hf
    simp only [Bool.and_eq_true, decide_eq_true_eq] at hf
    rcases h4 with h4 | h5
    · have e : d.txB T R (txL T R l) (kdL l) = [123] ++ d.rowTx R (txL T R l) ++ [125] := by unfold TyD.txB; rw [if_neg (by omega), if_neg (by omega), if_neg (by omega), if_neg (by omega), if_neg (by omega), if_pos h4]
      rw [e]
      exact ref_4 w0 N T R d l h4 hI hf.1.1.2 hW' hT hN hW
    · have e : d.txB T R (txL T R l) (kdL l) = [60] ++ d.rowTx R (txL T R l) ++ [62] := by unfold TyD.txB; rw [if_neg (by omega), if_neg (by omega), if_neg (by omega), if_neg (by omega), if_neg (by omega), if_neg (by omega)]
      rw [e]
      exact ref_5 w0 N T R d l h5 hI hf.1.1.2 hW' hT hN hW
  rw [if_neg h4] at hf
  by_cases h7 : d.kind = 7
  · have e : d.txB T R (txL T R l) (kdL l) = [39] ++ Lib.itoa (atF T d.n 0) := by unfold TyD.txB; rw [if_neg (by omega), if_neg (by omega), if_pos h7]
    rw [e]
    exact ref_7 w0 N T R d h7 hT hN
  rw [if_neg h7] at hf
  by_cases h3 : d.kind = 3
  · rw [if_pos h3] at hf
    have hpn : d.pn = 2 := by
      simp only [TyD.bareB, Bool.and_eq_true, decide_eq_true_eq] at hf
      have := hf.2.1.1
      omega
    obtain ⟨x, y, rfl⟩ : ∃ x y, l = [x, y] := by
      match l, hlen.trans hpn with
      | [x, y], _ => exact ⟨x, y, rfl⟩
    obtain ⟨pb, po, hp, hAt⟩ := hI.part (k := 0) (by show 0 < 2; omega)
    have hx : x.d.At w0 pb po := by have h : x.d.At w0 pb (po + 0 * 5) := hAt 0 (by show 0 < 2; omega); simpa using h
    have hy : y.d.At w0 pb (po + 5) := by have h : y.d.At w0 pb (po + 1 * 5) := hAt 1 (by show 1 < 2; omega); simpa using h
    have hln : (x.tx T R).length + (y.tx T R).length ≤ 900000000 := by
      have h1 := tx_len T R hN.lT hN.lR x
      have h2 := tx_len T R hN.lT hN.lR y
      simp only [wtL] at hwl
      omega
    have e : d.txB T R (txL T R [x, y]) (kdL [x, y]) = brkT (decide (x.d.kind = 3)) (x.tx T R) ++ [32, 45, 62, 32] ++ y.tx T R := by
      unfold TyD.txB
      rw [if_neg (by omega), if_neg (by omega), if_neg (by omega), if_neg (by omega), if_pos h3]
      rfl
    rw [e]
    by_cases hb : x.d.kind = 3
    · rw [decide_eq_true hb, show brkT true (x.tx T R) = [40] ++ x.tx T R ++ [41] from rfl]
      exact ref_3b w0 N d x y _ _ h3 pb po hp hpn hx hy (hW' x (by simp)) (hW' y (by simp)) hb hln
    · rw [decide_eq_false hb, show brkT false (x.tx T R) = x.tx T R from rfl]
      exact ref_3n w0 N d x y _ _ h3 pb po hp hpn hx hy (hW' x (by simp)) (hW' y (by simp)) hb hln
  rw [if_neg h3] at hf
  by_cases h6 : d.kind = 6
  · rw [if_pos h6] at hf
    have hpn : d.pn = 1 := by
      simp only [TyD.bareB, Bool.and_eq_true, decide_eq_true_eq] at hf
      have := hf.2.1.1
      omega
    obtain ⟨x, rfl⟩ : ∃ x, l = [x] := by
      match l, hlen.trans hpn with
      | [x], _ => exact ⟨x, rfl⟩
    obtain ⟨pb, po, hp, hAt⟩ := hI.part (k := 0) (by show 0 < 1; omega)
    have hx : x.d.At w0 pb po := by have h : x.d.At w0 pb (po + 0 * 5) := hAt 0 (by show 0 < 1; omega); simpa using h
    have hln := (tx_wt9 hN.lT hN.lR (show x ∈ [x] by simp) hwl).1
    have e : d.txB T R (txL T R [x]) (kdL [x]) = [114, 101, 102, 32] ++ brkT (decide (x.d.kind = 3) || decide (x.d.kind = 6)) (x.tx T R) := by
      unfold TyD.txB
      rw [if_neg (by omega), if_neg (by omega), if_neg (by omega), if_pos h6]
      rfl
    rw [e]
    by_cases hb : x.d.kind = 3 ∨ x.d.kind = 6
    · rw [show (decide (x.d.kind = 3) || decide (x.d.kind = 6)) = true by rw [Bool.or_eq_true, decide_eq_true_eq, decide_eq_true_eq]; exact hb, show brkT true (x.tx T R) = [40] ++ x.tx T R ++ [41] from rfl]
      exact ref_6b w0 N d x _ h6 pb po hp hpn hx (hW' x (by simp)) hb hln
    · rw [show (decide (x.d.kind = 3) || decide (x.d.kind = 6)) = false by rw [decide_eq_false (fun h => hb (.inl h)), decide_eq_false (fun h => hb (.inr h))]; rfl, show brkT false (x.tx T R) = x.tx T R from rfl]
      exact ref_6n w0 N d x _ h6 pb po hp hpn hx (hW' x (by simp)) hb hln
  rw [if_neg h6] at hf
  by_cases h1 : d.kind = 1
  · have e : d.txB T R (txL T R l) (kdL l) = [105, 110, 116] := by unfold TyD.txB; rw [if_pos h1]
    rw [e]
    exact ref_1 w0 N d h1
  by_cases h2 : d.kind = 2
  · have e : d.txB T R (txL T R l) (kdL l) = [116, 101, 120, 116] := by unfold TyD.txB; rw [if_neg h1, if_pos h2]
    rw [e]
    exact ref_2 w0 N d h2
  rw [if_neg (by rintro (h | h); exact h1 h; exact h2 h)] at hf
  cases hf

theorem nm_new10 (w : World) (t : TypeId) : NM (w.alloc (.cells #[.slice Option.none 0 0, .slice Option.none 0 0] t)) w.heap.size [] [] (.slice Option.none 0 0) (.slice Option.none 0 0) :=
  have h := heap_alloc_new w (.cells #[.slice Option.none 0 0, .slice Option.none 0 0] t)
  ⟨by rw [Lib.cell_of_heap h]; rfl, by rw [Lib.cell_of_heap h]; rfl, Lib.frozen_of_heap h 0, Lib.frozen_of_heap h 1, World.ownsRow_nil _ _ _ _, World.ownsRow_nil _ _ _ _, fun k hk => by cases hk⟩

set_option maxRecDepth 100000 in
set_option maxHeartbeats 2000000 in
theorem refText_any (t : Ty) (w : World) (hT : Tab w) (hI : t.In w) (hn : t.nodes ≤ 4000000) (hw : t.wt ≤ 900000000) :
    Calls Tryz.prog 13 #[.agg t.d.arr] w fun r w' => TxRes t w r w' := by
  obtain ⟨d, hd⟩ : ∃ d, t.d = d := ⟨_, rfl⟩
  have hb1 : Below w.heap.size w (w.alloc (.cells d.arr 25)) := (Below.refl _ _).alloc (Nat.le_refl _) _
  have hE1 := box_at w d
  have HIN := Lib.hid (hI.lower hb1)
  have HLT := Lib.hid (tab_below hT hb1)
  have HX := Lib.hid (And.intro hn hw)
  have HD := Lib.hid hd
  have HB1 := Lib.hid hb1
  rw [hd]
  clear hT hI hn hw hd hb1
  go_enter Tryz.func13, Tryz.ntmps13
  go_wp2_with fail
  obtain ⟨bx, hbx⟩ : ∃ bx, w.heap.size = bx := ⟨_, rfl⟩
  rw [hbx] at hE1
  try rw [hbx]
  have HBX := Lib.hid hbx
  clear hbx
  generalize (w.alloc (.cells d.arr 25)) = w1 at *
  have HE := Lib.hid (fun W (h : Below w1.heap.size w1 W) => hE1.lower h)
  obtain ⟨c0, c1, c2, c3, c4⟩ := hE1
  have HM := Lib.hid (refMay_any t w1 HIN.out HX.out.1)
  rw [HD.out] at HM
  go_wp2_with fail
  refine HM.out.mono ?_
  rintro r w2 ⟨rfl, hb2⟩
  have HB2 := Lib.hid hb2
  clear hb2 HM c0 c1 c2 c3 c4
  cases hmay : (mayF t 0).isSome with
  | false =>
    have HN := Lib.hid hmay
    clear hmay
    go_wp2_with fail
    go_returns
    exact ⟨by rw [HN.out]; rfl, below_then HB1.out HB2.out⟩
  | true =>
    have HY := Lib.hid hmay
    have HF := Lib.hid (show t.fb by
      cases hm : mayF t 0 with
      | none => rw [hm] at hmay; cases hmay
      | some j => exact mayF_fb t 0 j hm)
    clear hmay
    have hb3 : Below w2.heap.size w2 (w2.alloc (.cells #[.slice none 0 0, .slice none 0 0] 31)) := (Below.refl _ _).alloc (Nat.le_refl _) _
    have HNM := Lib.hid (nm_new10 w2 31)
    have HB3 := Lib.hid (below_then HB2.out hb3)
    have HC3 := Lib.hid hb3
    have HME := Lib.hid (meet_any w1 w2.heap.size HB2.out.size t HIN.out [] [] (.slice none 0 0) (.slice none 0 0) _ (below_then HB2.out hb3) HNM.out (by have := HX.out.1; simp; omega) (by have := HX.out.1; simp; omega))
    rw [HD.out] at HME
    obtain ⟨c0, c1, c2, c3, c4⟩ := HE.out _ HB3.out
    clear hb3
    go_wp2_with fail
    refine HME.out.mono ?_
    rintro r w4 ⟨rfl, vT, vR, hn4, hw4⟩
    have H4 := Lib.hid (And.intro hn4 (show Below w2.heap.size w2 w4 from HC3.out.trans hw4.b))
    clear hn4 hw4 HME c0 c1 c2 c3 c4
    have HS := Lib.hid (meetT_small t HX.out.1)
    have HB4 := Lib.hid (below_then HB2.out H4.out.2)
    have HNV := Lib.hid (show NV w4 w2.heap.size (meetT t [] []).1 (meetT t [] []).2 by
      obtain ⟨A1, k1, hv1, _⟩ := own_cap H4.out.1.oT
      obtain ⟨A2, k2, hv2, _⟩ := own_cap H4.out.1.oR
      have o1 := H4.out.1.oT
      have o2 := H4.out.1.oR
      have d1 := H4.out.1.c0
      have d2 := H4.out.1.c1
      rw [hv1] at o1 d1
      rw [hv2] at o2 d2
      exact ⟨⟨A1, k1, d1, Rd.of_own o1⟩, ⟨A2, k2, d2, Rd.of_own o2⟩, HS.out.1, HS.out.2⟩)
    have HTR := Lib.hid (ref_any w4 w2.heap.size _ _ (tab_below HLT.out HB4.out) HNV.out t (HIN.out.lower HB4.out) HF.out HX.out.2 w4 (Below.refl _ _))
    rw [HD.out] at HTR
    obtain ⟨c0, c1, c2, c3, c4⟩ := HE.out _ HB4.out
    go_wp2_with fail
    refine HTR.out.mono ?_
    rintro r w5 ⟨rfl, hb5⟩
    have H5 := Lib.hid (below_then HB1.out (below_then HB4.out hb5))
    clear hb5 HTR c0 c1 c2 c3 c4
    go_wp2_with fail
    go_returns
    exact ⟨by rw [HY.out, if_pos rfl]; rfl, H5.out⟩
end Go.Proofs.YtklandpagieapaaGreatDoor

namespace Go.Proofs.YtklandpagieapaaGreatDoor
open Go.ChangeShapes Go.WideShapes Go.ChangeAt Go.RowKit Go.Sort
set_option linter.unusedVariables false
set_option linter.unusedSimpArgs false
attribute [local irreducible] Go.wpQuiet

theorem ne_facts (s t : Str) (b : Bool) (h : decide (s = t) = b) : ((bstr s).toList == (bstr t).toList) = b ∧ ((bstr s).toList != (bstr t).toList) = !b := by
  have h1 : ((bstr s).toList == (bstr t).toList) = b := by rw [beq_bstr, ← h]; first | done | rfl | exact decide_eq_decide.2 Iff.rfl
  exact ⟨h1, by simp only [bne, h1]⟩

set_option maxRecDepth 100000 in
set_option maxHeartbeats 2000000 in
theorem refTexts_any (A B : Option Addr) (l m : List Str) (n n' c c' : Nat) (w : World) (hr : Rd w 1 A n (strs l)) (hr' : Rd w 1 B n' (strs m)) (hm : n ≤ 9223372036854775807) (hm' : n' ≤ 9223372036854775807) :
    Calls Tryz.prog 47 #[.slice A n c, .slice B n' c'] w fun e w' => e = .returned (.bool (decide (l = m))) ∧ Below w.heap.size w w' := by
  have hl := rd_len hr
  have hl' := rd_len hr'
  have HR := Lib.hid (And.intro hr (And.intro hr' (And.intro hl hl')))
  by_cases hne : n = n'
  · have q1 : ((n : Int) != (n' : Int)) = false := by rw [hne]; simp
    have HNE := Lib.hid hne
    clear hr hr' hl hl' hne
    go_enter Tryz.func47, Tryz.ntmps47
    go_wp2_with fail
    go_loopw [5] (fun i wr => ∃ k : Nat, i = .int .i64 k ∧ k ≤ n ∧ (∀ j (h : j < l.length) (h' : j < m.length), j < k → l[j] = m[j]) ∧ Below w.heap.size w wr) (fun i _ => n - (intOf i).toNat)
    case atStart => exact ⟨0, rfl, Nat.zero_le _, (by intro j _ _ h; omega), Below.refl _ _⟩
    case round =>
      obtain ⟨k, rfl, hk, hall, hb⟩ := hrel
      have HALL := Lib.hid hall
      have HB := Lib.hid hb
      clear hall
      by_cases hlt : k < n
      · have hkl : k < l.length := by rw [HR.out.2.2.1]; exact hlt
        have hkm : k < m.length := by rw [HR.out.2.2.2, ← HNE.out]; exact hlt
        obtain ⟨b1, o1, rfl, hc1⟩ := (HR.out.1.below hb).str hkl
        obtain ⟨b2, o2, rfl, hc2⟩ := (HR.out.2.1.below hb).str hkm
        have h1 := hc1 k hkl
        have h2 := hc2 k hkm
        have hki : (k : Int) < (n : Int) := by omega
        have hki' : (k : Int) < (n' : Int) := by rw [← HNE.out]; omega
        have hk0 : (0 : Int) ≤ (k : Int) := by omega
        have hk9 : (k : Int) ≤ 9223372036854775806 := by omega
        have hwr : IntKind.i64.wrap (k : Int) = (k : Int) := by rw [IntKind.wrap_i64]; omega
        by_cases he : l[k] = m[k]
        · have hf := ne_facts l[k] m[k] true (decide_eq_true he)
          have HE := Lib.hid he
          obtain ⟨x, hx⟩ : ∃ x, l[k] = x := ⟨_, rfl⟩
          obtain ⟨y, hy⟩ : ∃ y, m[k] = y := ⟨_, rfl⟩
          rw [hx] at h1 hf
          rw [hy] at h2 hf
          obtain ⟨g1, g2⟩ := hf
          simp only [Bool.not_true] at g2
          clear hc1 hc2 hb hx hy he
          go_wp2_with fail
          go_quiet (fail)
          clear h1 h2
          go_wp2_with fail
          go_roundw
          case rel => exact ⟨k + 1, by go_num, hlt, fun j hj hj' hjk => (Nat.lt_succ_iff_lt_or_eq.1 hjk).elim (fun h => HALL.out j hj hj' h) (fun h => by subst h; exact HE.out), below_drewN HB.out _⟩
          case measure => simp [intOf] <;> omega
        · have hf := ne_facts l[k] m[k] false (decide_eq_false he)
          have HA := Lib.hid (show decide (l = m) = false from decide_eq_false (fun e => he (by subst e; rfl)))
          obtain ⟨x, hx⟩ : ∃ x, l[k] = x := ⟨_, rfl⟩
          obtain ⟨y, hy⟩ : ∃ y, m[k] = y := ⟨_, rfl⟩
          rw [hx] at h1 hf
          rw [hy] at h2 hf
          obtain ⟨g1, g2⟩ := hf
          simp only [Bool.not_false] at g2
          clear hc1 hc2 hb hx hy he
          go_wp2_with fail
          go_quiet (fail)
          clear h1 h2
          go_wp2_with fail
          go_returns
          exact ⟨by rw [HA.out]; rfl, below_drewN HB.out _⟩
      · have hki : ¬ (k : Int) < (n : Int) := by omega
        have HA := Lib.hid (show decide (l = m) = true from decide_eq_true (list_eq (by rw [HR.out.2.2.1, HR.out.2.2.2, HNE.out]) (fun j h h' => HALL.out j h h' (by rw [HR.out.2.2.1] at h; omega))))
        clear hb
        go_wp2_with fail
        go_returns
        exact ⟨by rw [HA.out]; rfl, HB.out⟩
  · have q1 : ((n : Int) != (n' : Int)) = true := by rw [bne_iff_ne]; omega
    have HA := Lib.hid (show decide (l = m) = false from decide_eq_false (fun e => hne (by rw [← hl, ← hl', e])))
    clear hr hr' hl hl' hne
    go_enter Tryz.func47, Tryz.ntmps47
    go_wp2_with fail
    go_returns
    exact ⟨by rw [HA.out]; rfl, Below.refl _ _⟩

set_option maxRecDepth 100000 in
theorem refTextsX_any (A B : Option Addr) (l m : List Str) (n n' c c' : Nat) (w : World) (hr : Rd w 1 A n (strs l)) (hr' : Rd w 1 B n' (strs m)) (hm : n ≤ 9223372036854775807) (hm' : n' ≤ 9223372036854775807) :
    Calls Tryz.prog 27 #[.slice A n c, .slice B n' c'] w fun e w' => e = .returned (.bool (decide (l = m))) ∧ Below w.heap.size w w' := by
  have HT := Lib.hid (refTexts_any A B l m n n' c c' w hr hr' hm hm')
  clear hr hr' hm hm'
  go_enter Tryz.func27, Tryz.ntmps27
  go_wp2_with fail
  refine HT.out.mono ?_
  rintro e w' ⟨rfl, hb⟩
  go_wp2_with fail
  go_returns
  exact ⟨rfl, hb⟩

set_option maxRecDepth 100000 in
set_option maxHeartbeats 8000000 in
theorem refSame_any (w0 : World) (x : Ty) (hIn : x.In w0) : ∀ (y : Ty), y.In w0 → ∀ (W : World), Below w0.heap.size w0 W →
    Calls Tryz.prog 11 #[.agg x.d.arr, .agg y.d.arr] W fun r w' => r = .returned (.bool (tyB x y)) ∧ Below W.heap.size W w' := by
  induction hIn with
  | mk d l lab par cap sub ih =>
  intro y hy W hb
  obtain ⟨e, m⟩ := y
  have HI := Lib.hid (Ty.In.mk d l lab par cap sub)
  have HY := Lib.hid hy
  have HIH := Lib.hid ih
  have hX0 := box_at W d
  have hb1 : Below W.heap.size W (W.alloc (.cells d.arr 25)) := (Below.refl _ _).alloc (Nat.le_refl _) _
  have hY0 := box_at (W.alloc (.cells d.arr 25)) e
  have hb2 : Below W.heap.size W ((W.alloc (.cells d.arr 25)).alloc (.cells e.arr 25)) := hb1.alloc hb1.size _
  have hb12 : Below (W.alloc (.cells d.arr 25)).heap.size (W.alloc (.cells d.arr 25)) ((W.alloc (.cells d.arr 25)).alloc (.cells e.arr 25)) := (Below.refl _ _).alloc (Nat.le_refl _) _
  have hX1 := hX0.lower hb12
  have HB2 := Lib.hid hb2
  have HW := Lib.hid (below_then hb hb2)
  have hsz : (W.alloc (.cells d.arr 25)).heap.size = W.heap.size + 1 := by simp
  rw [hsz] at hY0
  have HLP := Lib.hid (And.intro (show l.length = d.pn from HI.out.len) (show m.length = e.pn from HY.out.len))
  have HCX := Lib.hid (show d.ln ≤ d.lc ∧ d.lc ≤ maxLen ∧ d.pn ≤ d.pc ∧ d.pc ≤ maxLen ∧ d.ln ≤ 4000000 ∧ d.pn ≤ 4000000 from HI.out.cap)
  have HCY := Lib.hid (show e.ln ≤ e.lc ∧ e.lc ≤ maxLen ∧ e.pn ≤ e.pc ∧ e.pc ≤ maxLen ∧ e.ln ≤ 4000000 ∧ e.pn ≤ 4000000 from HY.out.cap)
  have HLX := Lib.hid (show Rd w0 1 d.lA d.ln (strs d.labels) from HI.out.lab)
  have HLY := Lib.hid (show Rd w0 1 e.lA e.ln (strs e.labels) from HY.out.lab)
  clear lab par cap sub ih hy hb hb1 hb2 hb12 hX0 hsz
  show Calls Tryz.prog 11 #[.agg d.arr, .agg e.arr] W _
  go_enter Tryz.func11, Tryz.ntmps11
  go_wp2_with fail
  obtain ⟨bx, hbx⟩ : ∃ bx, W.heap.size = bx := ⟨_, rfl⟩
  rw [hbx] at hX1 hY0
  try rw [hbx]
  obtain ⟨bY, hbY⟩ : ∃ bY, bx + 1 = bY := ⟨_, rfl⟩
  rw [hbY] at hY0
  try rw [hbY]
  clear hbx hbY
  generalize ((W.alloc (.cells d.arr 25)).alloc (.cells e.arr 25)) = w1 at *
  have HX := Lib.hid (fun V (h : Below w1.heap.size w1 V) => hX1.lower h)
  have HYA := Lib.hid (fun V (h : Below w1.heap.size w1 V) => hY0.lower h)
  obtain ⟨c0, c1, c2, c3, c4⟩ := hX1
  obtain ⟨f0, f1, f2, f3, f4⟩ := hY0
  go_wp2_with fail
  refine (refTextsX_any d.lA e.lA d.labels e.labels d.ln e.ln d.lc e.lc w1 (HLX.out.below HW.out) (HLY.out.below HW.out) (by have := HCX.out; unfold maxLen at this; omega) (by have := HCY.out; unfold maxLen at this; omega)).mono ?_
  rintro r w3 ⟨rfl, hb3⟩
  have H3 := Lib.hid hb3
  clear hb3 c0 c1 c2 c3 c4 f0 f1 f2 f3 f4
  obtain ⟨c0, c1, c2, c3, c4⟩ := HX.out _ H3.out
  obtain ⟨f0, f1, f2, f3, f4⟩ := HYA.out _ H3.out
  obtain ⟨bl, hbl⟩ : ∃ b, decide (d.labels = e.labels) = b := ⟨_, rfl⟩
  rw [hbl]
  have HBL := Lib.hid hbl
  clear hbl
  by_cases h1 : ¬ (d.kind = e.kind)
  · have HA := Lib.hid (show tyB (.mk d l) (.mk e m) = false from tyB_false (fun h => h1 h.1))
    have q : (d.kind != e.kind) = true := by rw [bne_iff_ne]; omega
    clear h1
    go_wp2_with fail
    go_returns
    exact ⟨by rw [HA.out]; rfl, below_then HB2.out H3.out⟩
  have h1 : d.kind = e.kind := Classical.not_not.1 h1
  have qh1 : (d.kind != e.kind) = false := by rw [h1]; simp
  by_cases h2 : ¬ (d.n = e.n)
  · have HA := Lib.hid (show tyB (.mk d l) (.mk e m) = false from tyB_false (fun h => h2 h.2.1))
    have q : (d.n != e.n) = true := by rw [bne_iff_ne]; omega
    clear h2
    go_wp2_with fail
    go_returns
    exact ⟨by rw [HA.out]; rfl, below_then HB2.out H3.out⟩
  have h2 : d.n = e.n := Classical.not_not.1 h2
  have qh2 : (d.n != e.n) = false := by rw [h2]; simp
  by_cases h3 : ¬ (d.tail = e.tail)
  · have HA := Lib.hid (show tyB (.mk d l) (.mk e m) = false from tyB_false (fun h => h3 h.2.2.1))
    have q : (d.tail != e.tail) = true := by rw [bne_iff_ne]; omega
    clear h3
    go_wp2_with fail
    go_returns
    exact ⟨by rw [HA.out]; rfl, below_then HB2.out H3.out⟩
  have h3 : d.tail = e.tail := Classical.not_not.1 h3
  have qh3 : (d.tail != e.tail) = false := by rw [h3]; simp
  cases bl with
  | false =>
    have HA := Lib.hid (show tyB (.mk d l) (.mk e m) = false from tyB_false (fun h => absurd h.2.2.2.1 (of_decide_eq_false HBL.out)))
    go_wp2_with fail
    go_returns
    exact ⟨by rw [HA.out]; rfl, below_then HB2.out H3.out⟩
  | true =>
  by_cases h7 : ¬ (d.pn = e.pn)
  · have HA := Lib.hid (show tyB (.mk d l) (.mk e m) = false from tyB_false (fun h => h7 (by rw [← HLP.out.1, ← HLP.out.2]; exact tyL_len h.2.2.2.2)))
    have q : ((d.pn : Int) != (e.pn : Int)) = true := by rw [bne_iff_ne]; omega
    clear h7
    go_wp2_with fail
    go_returns
    exact ⟨by rw [HA.out]; rfl, below_then HB2.out H3.out⟩
  have h7 : d.pn = e.pn := Classical.not_not.1 h7
  have qh7 : ((d.pn : Int) != (e.pn : Int)) = false := by rw [h7]; simp
  have HQ := Lib.hid (And.intro h1 (And.intro h2 (And.intro h3 h7)))
  clear h1 h2 h3 h7
  go_wp2_with fail
  clear c0 c1 c2 c3 c4 f0 f1 f2 f3 f4
  go_loopw [6] (fun i wr => ∃ k : Nat, i = .int .i64 k ∧ k ≤ d.pn ∧ (∀ j (h : j < l.length) (h' : j < m.length), j < k → (l[j]).eqv m[j]) ∧ Below w1.heap.size w1 wr) (fun i _ => d.pn - (intOf i).toNat)
  case atStart => exact ⟨0, rfl, Nat.zero_le _, (by intro j _ _ h; omega), H3.out⟩
  case round =>
    obtain ⟨k, rfl, hk, hall, hbr⟩ := hrel
    have HALL := Lib.hid hall
    have HR := Lib.hid hbr
    clear hall
    have c2 := (HX.out _ hbr).c2
    by_cases hlt : k < d.pn
    · have hkl : k < l.length := by rw [HLP.out.1]; exact hlt
      have hkm : k < m.length := by rw [HLP.out.2, ← HQ.out.2.2.2]; exact hlt
      obtain ⟨pb, po, hpA, hAtP⟩ := HI.out.part (k := k) hkl
      have hpA' : d.pA = some ⟨pb, po, none⟩ := hpA
      obtain ⟨pb', po', hpB, hAtQ⟩ := HY.out.part (k := k) hkm
      have hpB' : e.pA = some ⟨pb', po', none⟩ := hpB
      have f2 := (HYA.out _ hbr).c2
      rw [hpA'] at c2
      rw [hpB'] at f2
      have hAx : (l[k]).d.At w0 pb (po + k * 5) := hAtP k hkl
      have hAy : (m[k]).d.At w0 pb' (po' + k * 5) := hAtQ k hkm
      have hy : (m[k]).In w0 := HY.out.sub m[k] (List.getElem_mem hkm)
      have HC := HIH.out l[k] (List.getElem_mem hkl) m[k] hy
      obtain ⟨p0, p1, p2, p3, p4⟩ := hAx.lower (below_then HW.out hbr)
      obtain ⟨r0, r1, r2, r3, r4⟩ := hAy.lower (below_then HW.out hbr)
      have CX := Lib.hid (fun dd os => Calls.regrown_of ((HC (grow (redrawn wr dd) os) (below_then (below_then HW.out HR.out) (below_regrown wr dd os))).mono fun e w' hh => ⟨hh.1, hh.2⟩))
      have HEX := Lib.hid (show ∀ (h : k < l.length) (h' : k < m.length), tyB l[k] m[k] = true → (l[k]).eqv m[k] from fun _ _ h => tyB_iff.1 h)
      have HEN := Lib.hid (show tyB l[k] m[k] = false → tyB (.mk d l) (.mk e m) = false from fun h => tyB_false (fun hh => by
        have := (tyL_iff l m (tyL_len hh.2.2.2.2)).1 hh.2.2.2.2 k hkl hkm
        rw [tyB_true this] at h; cases h))
      obtain ⟨x, hx⟩ : ∃ x, l[k] = x := ⟨_, rfl⟩
      obtain ⟨z, hz⟩ : ∃ z, m[k] = z := ⟨_, rfl⟩
      rw [hx] at p0 p1 p2 p3 p4 CX HEN
      rw [hz] at r0 r1 r2 r3 r4 CX HEN
      have HXZ := Lib.hid (And.intro hx hz)
      obtain ⟨v, hv⟩ : ∃ v, tyB x z = v := ⟨_, rfl⟩
      rw [hv] at CX HEN
      have HV := Lib.hid hv
      obtain ⟨dx, hdx⟩ : ∃ dx, x.d = dx := ⟨_, rfl⟩
      rw [hdx] at p0 p1 p2 p3 p4 CX
      obtain ⟨dz, hdz⟩ : ∃ dz, z.d = dz := ⟨_, rfl⟩
      rw [hdz] at r0 r1 r2 r3 r4 CX
      have kc := cell_regrown c2
      have kf := cell_regrown f2
      have kp0 := cell_regrown p0
      have kr0 := cell_regrown r0
      have kp1 := cell_regrown p1
      have kr1 := cell_regrown r1
      have kp2 := cell_regrown p2
      have kr2 := cell_regrown r2
      have kp3 := cell_regrown p3
      have kr3 := cell_regrown r3
      have kp4 := cell_regrown p4
      have kr4 := cell_regrown r4
      have hki : (k : Int) < (d.pn : Int) := by omega
      have hki' : (k : Int) < (e.pn : Int) := by rw [← HQ.out.2.2.2]; omega
      have hk0 : (0 : Int) ≤ (k : Int) := by omega
      have hk9 : (k : Int) ≤ 9223372036854775806 := by have := HCX.out.2.2.2.2.2; omega
      have hwr : IntKind.i64.wrap (k : Int) = (k : Int) := by rw [IntKind.wrap_i64]; omega
      clear hbr hpA hpA' hpB hpB' hAtP hAtQ hAx hAy hy HC hx hz hv hdx hdz p0 p1 p2 p3 p4 r0 r1 r2 r3 r4 f2
      go_wp2_with fail
      refine wp_region_quiet_below (by kernel_rfl) (by kernel_rfl) ?_
      iterate 12 (quiet_step ((go_at_call 11; with_reducible exact CX.out _ _)))
      refine wpQuiet_nil ?_
      intro _ hw
      obtain ⟨⟨dq, osq⟩, hw''⟩ := hw
      subst hw''
      have hbq := below_regrown wr dq osq
      have H5 := Lib.hid (below_then HR.out hbq)
      clear hbq
      cases v with
      | true =>
        go_wp2_with fail
        go_roundw
        case rel => exact ⟨k + 1, by go_num, hlt, fun j hj hj' hjk => (Nat.lt_succ_iff_lt_or_eq.1 hjk).elim (fun h => HALL.out j hj hj' h) (fun h => by subst h; exact HEX.out hj hj' (by rw [HXZ.out.1, HXZ.out.2]; exact HV.out)), H5.out⟩
        case measure => simp [intOf] <;> omega
      | false =>
        have HA := Lib.hid (HEN.out rfl)
        go_wp2_with fail
        go_returns
        exact ⟨by rw [HA.out]; rfl, below_then HB2.out H5.out⟩
    · have hki : ¬ (k : Int) < (d.pn : Int) := by omega
      have HA := Lib.hid (show tyB (.mk d l) (.mk e m) = true from tyB_true ⟨HQ.out.1, HQ.out.2.1, HQ.out.2.2.1, of_decide_eq_true HBL.out, (tyL_iff l m (by rw [HLP.out.1, HLP.out.2, HQ.out.2.2.2])).2 (fun j h h' => HALL.out j h h' (by rw [HLP.out.1] at h; omega))⟩)
      clear hbr
      go_wp2_with fail
      go_returns
      exact ⟨by rw [HA.out]; rfl, below_then HB2.out HR.out⟩
end Go.Proofs.YtklandpagieapaaGreatDoor
