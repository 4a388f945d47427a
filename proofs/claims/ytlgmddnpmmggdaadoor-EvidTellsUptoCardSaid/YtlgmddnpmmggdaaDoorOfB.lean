/-
  A label's offset, by the code: the ways that are left.
-/
import Derived.Test.YtlgmddnpmmggdaaDoorEvA
import Derived.Deep.CutRange
namespace Go.Proofs.YtlgmddnpmmggdaaDoor
open Go.ChangeShapes Go.WideShapes Go.ChangeAt Go.RowKit Go.Sort
set_option linter.unusedVariables false
set_option linter.unusedSimpArgs false

theorem set3n {w : World} {B : Nat} {a b c x y z : Value} (r0 : w.cell? ⟨B, 0, none⟩ = some a) (r1 : w.cell? ⟨B, 1, none⟩ = some b) (r2 : w.cell? ⟨B, 2, none⟩ = some c) :
    (((w.setCell ⟨B, 0, none⟩ x).setCell ⟨B, 1, none⟩ y).setCell ⟨B, 2, none⟩ z).cell? ⟨B, 0, none⟩ = some x ∧ (((w.setCell ⟨B, 0, none⟩ x).setCell ⟨B, 1, none⟩ y).setCell ⟨B, 2, none⟩ z).cell? ⟨B, 1, none⟩ = some y ∧ (((w.setCell ⟨B, 0, none⟩ x).setCell ⟨B, 1, none⟩ y).setCell ⟨B, 2, none⟩ z).cell? ⟨B, 2, none⟩ = some z := by
  refine ⟨?_, ?_, ?_⟩
  · rw [World.cell?_setCell_other _ _ _ _ (by simp), World.cell?_setCell_other _ _ _ _ (by simp)]; exact World.cell?_setCell_same _ _ _ r0
  · rw [World.cell?_setCell_other _ _ _ _ (by simp)]; exact World.cell?_setCell_same _ _ _ (by rw [World.cell?_setCell_other _ _ _ _ (by simp)]; exact r1)
  · exact World.cell?_setCell_same _ _ _ (by rw [World.cell?_setCell_other _ _ _ _ (by simp), World.cell?_setCell_other _ _ _ _ (by simp)]; exact r2)

set_option maxRecDepth 100000 in
set_option maxHeartbeats 1000000 in
theorem of_row5 (t : Ty) (s : Str) (w : World) (hIn : t.In w) (hk : t.d.kind = 5) (hs : s ≠ []) (hm : (mayF t 0).isSome = true) (ht : 0 ≤ t.d.tail) :
    Calls Tryd.prog 7 #[.agg t.d.arr, .string (bstr s)] w fun e w' => e = .returned (.tuple #[.agg #[.int .i64 (offs t.d.labels s : Nat), .int .i64 t.d.tail, .string (bstr s)], .nilIface]) ∧ Below w.heap.size w w' := by
  have ho := may_order hm (.inr hk)
  have hM := fun w2 (hb : Below w.heap.size w w2) => may_any t w2 (hIn.lower hb)
  rw [hm, show t.d.arr = #[.int .i64 5, .int .i64 t.d.n, .slice t.d.pA t.d.pn t.d.pc, .slice t.d.lA t.d.ln t.d.lc, .int .i64 t.d.tail] from by simp [TyD.arr, hk]] at hM
  have hcap := hIn.cap
  have hlab := hIn.lab
  have HM := Lib.hid hM
  have HO := Lib.hid (And.intro ho (And.intro hcap hlab))
  have q1 : (t.d.kind == 5) = true := by simpa using hk
  have q2 : (bstr s).toList.isEmpty = false := by rw [bstr_toList]; cases s with
    | nil => exact absurd rfl hs
    | cons a r => rfl
  have q3 : (t.d.tail != -1) = true := by rw [bne_iff_ne]; omega
  clear ho hM hcap hlab hm hIn
  go_enter Tryd.func7, Tryd.ntmps7
  go_wp2_with fail
  have hb1 : Below w.heap.size w ((w.alloc (.cells t.d.arr 25)).alloc (.cells #[.int .i64 0, .int .i64 0, .string ⟨#[]⟩] 27)) := ((Below.refl _ _).alloc (Nat.le_refl _) _).alloc (by simp) _
  have c3 : ((w.alloc (.cells t.d.arr 25)).alloc (.cells #[.int .i64 0, .int .i64 0, .string ⟨#[]⟩] 27)).cell? ⟨w.heap.size, 3, none⟩ = some (.slice t.d.lA t.d.ln t.d.lc) := by
    rw [World.cell?_alloc_lt _ _ _ (by simp)]; exact cell_new w _ _ 3 rfl
  have c4 : ((w.alloc (.cells t.d.arr 25)).alloc (.cells #[.int .i64 0, .int .i64 0, .string ⟨#[]⟩] 27)).cell? ⟨w.heap.size, 4, none⟩ = some (.int .i64 t.d.tail) := by
    rw [World.cell?_alloc_lt _ _ _ (by simp)]; exact cell_new w _ _ 4 rfl
  have r0 : ((w.alloc (.cells t.d.arr 25)).alloc (.cells #[.int .i64 0, .int .i64 0, .string ⟨#[]⟩] 27)).cell? ⟨w.heap.size + 1, 0, none⟩ = some (.int .i64 0) := by rw [show w.heap.size + 1 = (w.alloc (.cells t.d.arr 25)).heap.size from by simp]; exact cell_new _ _ _ 0 rfl
  have r1 : ((w.alloc (.cells t.d.arr 25)).alloc (.cells #[.int .i64 0, .int .i64 0, .string ⟨#[]⟩] 27)).cell? ⟨w.heap.size + 1, 1, none⟩ = some (.int .i64 0) := by rw [show w.heap.size + 1 = (w.alloc (.cells t.d.arr 25)).heap.size from by simp]; exact cell_new _ _ _ 1 rfl
  have r2 : ((w.alloc (.cells t.d.arr 25)).alloc (.cells #[.int .i64 0, .int .i64 0, .string ⟨#[]⟩] 27)).cell? ⟨w.heap.size + 1, 2, none⟩ = some (.string ⟨#[]⟩) := by rw [show w.heap.size + 1 = (w.alloc (.cells t.d.arr 25)).heap.size from by simp]; exact cell_new _ _ _ 2 rfl
  have f0 : ((w.alloc (.cells t.d.arr 25)).alloc (.cells #[.int .i64 0, .int .i64 0, .string ⟨#[]⟩] 27)).frozen? ⟨w.heap.size + 1, 0, none⟩ = false := by rw [show w.heap.size + 1 = (w.alloc (.cells t.d.arr 25)).heap.size from by simp]; simp
  have f1 : ((w.alloc (.cells t.d.arr 25)).alloc (.cells #[.int .i64 0, .int .i64 0, .string ⟨#[]⟩] 27)).frozen? ⟨w.heap.size + 1, 1, none⟩ = false := by rw [show w.heap.size + 1 = (w.alloc (.cells t.d.arr 25)).heap.size from by simp]; simp
  have f2 : ((w.alloc (.cells t.d.arr 25)).alloc (.cells #[.int .i64 0, .int .i64 0, .string ⟨#[]⟩] 27)).frozen? ⟨w.heap.size + 1, 2, none⟩ = false := by rw [show w.heap.size + 1 = (w.alloc (.cells t.d.arr 25)).heap.size from by simp]; simp
  have HB := Lib.hid hb1
  have HC := Lib.hid (And.intro c3 c4)
  have HR := Lib.hid (And.intro r0 (And.intro r1 (And.intro r2 (And.intro f0 (And.intro f1 f2)))))
  have hsz : w.heap.size + 2 = ((w.alloc (.cells t.d.arr 25)).alloc (.cells #[.int .i64 0, .int .i64 0, .string ⟨#[]⟩] 27)).heap.size := by simp
  have HZ := Lib.hid hsz
  clear hb1 c3 c4 r0 r1 r2 f0 f1 f2 hsz
  have HM2 := Lib.hid (HM.out _ HB.out)
  generalize (w.alloc (.cells t.d.arr 25)).alloc (.cells #[.int .i64 0, .int .i64 0, .string ⟨#[]⟩] 27) = w1 at *
  refine HM2.out.mono ?_
  rintro e w2 ⟨rfl, hb2⟩
  have c3 := cell_below hb2 HC.out.1
  have c4 := cell_below hb2 HC.out.2
  have H2 := Lib.hid (below_then HB.out hb2)
  have HO2 := Lib.hid (offset_any t.d.lA t.d.labels s t.d.ln t.d.lc w2 (HO.out.2.2.below H2.out) HO.out.2.1.2.2.2.2.1 HO.out.1)
  have HB2 := Lib.hid hb2
  clear hb2 HM HM2
  go_wp2_with fail
  refine HO2.out.mono ?_
  rintro e w3 ⟨rfl, hb3⟩
  have hb13 : Below w1.heap.size w1 w3 := HB2.out.trans (hb3.mono HB2.out.size)
  have H3 := Lib.hid (below_then HB.out hb13)
  have c4' := cell_below hb13 HC.out.2
  have r0 := cell_below hb13 HR.out.1
  have r1 := cell_below hb13 HR.out.2.1
  have r2 := cell_below hb13 HR.out.2.2.1
  have hlt : w.heap.size + 1 < w1.heap.size := by have := HZ.out; omega
  have f0 := (hb13.frozen (p := ⟨w.heap.size + 1, 0, none⟩) hlt).trans HR.out.2.2.2.1
  have f1 := (hb13.frozen (p := ⟨w.heap.size + 1, 1, none⟩) hlt).trans HR.out.2.2.2.2.1
  have f2 := (hb13.frozen (p := ⟨w.heap.size + 1, 2, none⟩) hlt).trans HR.out.2.2.2.2.2
  have hl3 : w.heap.size + 1 < w3.heap.size := Nat.lt_of_lt_of_le hlt hb13.size
  have hl4 : w.heap.size < w3.heap.size := by omega
  clear c3 c4 HO2 HC HR HZ hb3 hb13 HB2 hlt
  go_wp2_with fail
  have HQ := Lib.hid (set3_cells (x := .int .i64 (offs t.d.labels s : Nat)) (y := .int .i64 t.d.tail) (z := .string (bstr s)) (o := .cells #[.int .i64 (offs t.d.labels s : Nat), .int .i64 t.d.tail, .string (bstr s)] 27) r0 r1 r2)
  obtain ⟨q4, q5, q6⟩ := HQ.out
  refine bodyPost_ret (v := .tuple #[.agg #[.int .i64 (offs t.d.labels s : Nat), .int .i64 t.d.tail, .string (bstr s)], .nilIface]) (by simp [results, Tryd.results7, go_sem, q4, q5, q6]) rfl ?_
  exact ⟨rfl, ((((H3.out.setCell (by simp) _).setCell (by simp) _).setCell (by simp) _).alloc (by simp; omega) _)⟩

set_option maxRecDepth 100000 in
set_option maxHeartbeats 1000000 in
theorem of_row4n (t : Ty) (s : Str) (w : World) (hIn : t.In w) (hk : t.d.kind = 4) (hs : s ≠ []) (hm : (mayF t 0).isSome = true) (ht : t.d.tail = -1) :
    Calls Tryd.prog 7 #[.agg t.d.arr, .string (bstr s)] w fun e w' => e = .returned (.tuple #[.agg #[.int .i64 (offs t.d.labels s : Nat), .int .i64 (-1), .string ⟨#[]⟩], .nilIface]) ∧ Below w.heap.size w w' := by
  have ho := may_order hm (.inl hk)
  have hM := fun w2 (hb : Below w.heap.size w w2) => may_any t w2 (hIn.lower hb)
  rw [hm, show t.d.arr = #[.int .i64 4, .int .i64 t.d.n, .slice t.d.pA t.d.pn t.d.pc, .slice t.d.lA t.d.ln t.d.lc, .int .i64 (-1)] from by simp [TyD.arr, hk, ht]] at hM
  have hcap := hIn.cap
  have hlab := hIn.lab
  have HM := Lib.hid hM
  have HO := Lib.hid (And.intro ho (And.intro hcap hlab))
  have q1 : (t.d.kind == 4) = true := by simpa using hk
  have q2 : (bstr s).toList.isEmpty = false := by rw [bstr_toList]; cases s with
    | nil => exact absurd rfl hs
    | cons a r => rfl
  have q3 : (t.d.tail != -1) = false := by rw [ht]; rfl
  clear ho hM hcap hlab hm hIn
  go_enter Tryd.func7, Tryd.ntmps7
  go_wp2_with fail
  have hb1 : Below w.heap.size w ((w.alloc (.cells t.d.arr 25)).alloc (.cells #[.int .i64 0, .int .i64 0, .string ⟨#[]⟩] 27)) := ((Below.refl _ _).alloc (Nat.le_refl _) _).alloc (by simp) _
  have c3 : ((w.alloc (.cells t.d.arr 25)).alloc (.cells #[.int .i64 0, .int .i64 0, .string ⟨#[]⟩] 27)).cell? ⟨w.heap.size, 3, none⟩ = some (.slice t.d.lA t.d.ln t.d.lc) := by
    rw [World.cell?_alloc_lt _ _ _ (by simp)]; exact cell_new w _ _ 3 rfl
  have c4 : ((w.alloc (.cells t.d.arr 25)).alloc (.cells #[.int .i64 0, .int .i64 0, .string ⟨#[]⟩] 27)).cell? ⟨w.heap.size, 4, none⟩ = some (.int .i64 t.d.tail) := by
    rw [World.cell?_alloc_lt _ _ _ (by simp)]; exact cell_new w _ _ 4 rfl
  have r0 : ((w.alloc (.cells t.d.arr 25)).alloc (.cells #[.int .i64 0, .int .i64 0, .string ⟨#[]⟩] 27)).cell? ⟨w.heap.size + 1, 0, none⟩ = some (.int .i64 0) := by rw [show w.heap.size + 1 = (w.alloc (.cells t.d.arr 25)).heap.size from by simp]; exact cell_new _ _ _ 0 rfl
  have r1 : ((w.alloc (.cells t.d.arr 25)).alloc (.cells #[.int .i64 0, .int .i64 0, .string ⟨#[]⟩] 27)).cell? ⟨w.heap.size + 1, 1, none⟩ = some (.int .i64 0) := by rw [show w.heap.size + 1 = (w.alloc (.cells t.d.arr 25)).heap.size from by simp]; exact cell_new _ _ _ 1 rfl
  have r2 : ((w.alloc (.cells t.d.arr 25)).alloc (.cells #[.int .i64 0, .int .i64 0, .string ⟨#[]⟩] 27)).cell? ⟨w.heap.size + 1, 2, none⟩ = some (.string ⟨#[]⟩) := by rw [show w.heap.size + 1 = (w.alloc (.cells t.d.arr 25)).heap.size from by simp]; exact cell_new _ _ _ 2 rfl
  have f0 : ((w.alloc (.cells t.d.arr 25)).alloc (.cells #[.int .i64 0, .int .i64 0, .string ⟨#[]⟩] 27)).frozen? ⟨w.heap.size + 1, 0, none⟩ = false := by rw [show w.heap.size + 1 = (w.alloc (.cells t.d.arr 25)).heap.size from by simp]; simp
  have f1 : ((w.alloc (.cells t.d.arr 25)).alloc (.cells #[.int .i64 0, .int .i64 0, .string ⟨#[]⟩] 27)).frozen? ⟨w.heap.size + 1, 1, none⟩ = false := by rw [show w.heap.size + 1 = (w.alloc (.cells t.d.arr 25)).heap.size from by simp]; simp
  have f2 : ((w.alloc (.cells t.d.arr 25)).alloc (.cells #[.int .i64 0, .int .i64 0, .string ⟨#[]⟩] 27)).frozen? ⟨w.heap.size + 1, 2, none⟩ = false := by rw [show w.heap.size + 1 = (w.alloc (.cells t.d.arr 25)).heap.size from by simp]; simp
  have HB := Lib.hid hb1
  have HC := Lib.hid (And.intro c3 c4)
  have HR := Lib.hid (And.intro r0 (And.intro r1 (And.intro r2 (And.intro f0 (And.intro f1 f2)))))
  have hsz : w.heap.size + 2 = ((w.alloc (.cells t.d.arr 25)).alloc (.cells #[.int .i64 0, .int .i64 0, .string ⟨#[]⟩] 27)).heap.size := by simp
  have HZ := Lib.hid hsz
  clear hb1 c3 c4 r0 r1 r2 f0 f1 f2 hsz
  have HM2 := Lib.hid (HM.out _ HB.out)
  generalize (w.alloc (.cells t.d.arr 25)).alloc (.cells #[.int .i64 0, .int .i64 0, .string ⟨#[]⟩] 27) = w1 at *
  refine HM2.out.mono ?_
  rintro e w2 ⟨rfl, hb2⟩
  have c3 := cell_below hb2 HC.out.1
  have c4 := cell_below hb2 HC.out.2
  have H2 := Lib.hid (below_then HB.out hb2)
  have HO2 := Lib.hid (offset_any t.d.lA t.d.labels s t.d.ln t.d.lc w2 (HO.out.2.2.below H2.out) HO.out.2.1.2.2.2.2.1 HO.out.1)
  have HB2 := Lib.hid hb2
  clear hb2 HM HM2
  go_wp2_with fail
  refine HO2.out.mono ?_
  rintro e w3 ⟨rfl, hb3⟩
  have hb13 : Below w1.heap.size w1 w3 := HB2.out.trans (hb3.mono HB2.out.size)
  have H3 := Lib.hid (below_then HB.out hb13)
  have c4' := cell_below hb13 HC.out.2
  have r0 := cell_below hb13 HR.out.1
  have r1 := cell_below hb13 HR.out.2.1
  have r2 := cell_below hb13 HR.out.2.2.1
  have hlt : w.heap.size + 1 < w1.heap.size := by have := HZ.out; omega
  have f0 := (hb13.frozen (p := ⟨w.heap.size + 1, 0, none⟩) hlt).trans HR.out.2.2.2.1
  have f1 := (hb13.frozen (p := ⟨w.heap.size + 1, 1, none⟩) hlt).trans HR.out.2.2.2.2.1
  have f2 := (hb13.frozen (p := ⟨w.heap.size + 1, 2, none⟩) hlt).trans HR.out.2.2.2.2.2
  have hl3 : w.heap.size + 1 < w3.heap.size := Nat.lt_of_lt_of_le hlt hb13.size
  have hl4 : w.heap.size < w3.heap.size := by omega
  clear c3 c4 HO2 HC HR HZ hb3 hb13 HB2 hlt
  go_wp2_with fail
  have HQ := Lib.hid (set3_cells (x := .int .i64 (offs t.d.labels s : Nat)) (y := .int .i64 (-1)) (z := .string ⟨#[]⟩) (o := .cells #[.int .i64 (offs t.d.labels s : Nat), .int .i64 (-1), .string ⟨#[]⟩] 27) r0 r1 r2)
  obtain ⟨q4, q5, q6⟩ := HQ.out
  refine bodyPost_ret (v := .tuple #[.agg #[.int .i64 (offs t.d.labels s : Nat), .int .i64 (-1), .string ⟨#[]⟩], .nilIface]) (by simp [results, Tryd.results7, go_sem, q4, q5, q6]) rfl ?_
  exact ⟨rfl, ((((H3.out.setCell (by simp) _).setCell (by simp) _).setCell (by simp) _).alloc (by simp; omega) _)⟩

set_option maxRecDepth 100000 in
set_option maxHeartbeats 1000000 in
theorem of_row5n (t : Ty) (s : Str) (w : World) (hIn : t.In w) (hk : t.d.kind = 5) (hs : s ≠ []) (hm : (mayF t 0).isSome = true) (ht : t.d.tail = -1) :
    Calls Tryd.prog 7 #[.agg t.d.arr, .string (bstr s)] w fun e w' => e = .returned (.tuple #[.agg #[.int .i64 (offs t.d.labels s : Nat), .int .i64 (-1), .string ⟨#[]⟩], .nilIface]) ∧ Below w.heap.size w w' := by
  have ho := may_order hm (.inr hk)
  have hM := fun w2 (hb : Below w.heap.size w w2) => may_any t w2 (hIn.lower hb)
  rw [hm, show t.d.arr = #[.int .i64 5, .int .i64 t.d.n, .slice t.d.pA t.d.pn t.d.pc, .slice t.d.lA t.d.ln t.d.lc, .int .i64 (-1)] from by simp [TyD.arr, hk, ht]] at hM
  have hcap := hIn.cap
  have hlab := hIn.lab
  have HM := Lib.hid hM
  have HO := Lib.hid (And.intro ho (And.intro hcap hlab))
  have q1 : (t.d.kind == 5) = true := by simpa using hk
  have q2 : (bstr s).toList.isEmpty = false := by rw [bstr_toList]; cases s with
    | nil => exact absurd rfl hs
    | cons a r => rfl
  have q3 : (t.d.tail != -1) = false := by rw [ht]; rfl
  clear ho hM hcap hlab hm hIn
  go_enter Tryd.func7, Tryd.ntmps7
  go_wp2_with fail
  have hb1 : Below w.heap.size w ((w.alloc (.cells t.d.arr 25)).alloc (.cells #[.int .i64 0, .int .i64 0, .string ⟨#[]⟩] 27)) := ((Below.refl _ _).alloc (Nat.le_refl _) _).alloc (by simp) _
  have c3 : ((w.alloc (.cells t.d.arr 25)).alloc (.cells #[.int .i64 0, .int .i64 0, .string ⟨#[]⟩] 27)).cell? ⟨w.heap.size, 3, none⟩ = some (.slice t.d.lA t.d.ln t.d.lc) := by
    rw [World.cell?_alloc_lt _ _ _ (by simp)]; exact cell_new w _ _ 3 rfl
  have c4 : ((w.alloc (.cells t.d.arr 25)).alloc (.cells #[.int .i64 0, .int .i64 0, .string ⟨#[]⟩] 27)).cell? ⟨w.heap.size, 4, none⟩ = some (.int .i64 t.d.tail) := by
    rw [World.cell?_alloc_lt _ _ _ (by simp)]; exact cell_new w _ _ 4 rfl
  have r0 : ((w.alloc (.cells t.d.arr 25)).alloc (.cells #[.int .i64 0, .int .i64 0, .string ⟨#[]⟩] 27)).cell? ⟨w.heap.size + 1, 0, none⟩ = some (.int .i64 0) := by rw [show w.heap.size + 1 = (w.alloc (.cells t.d.arr 25)).heap.size from by simp]; exact cell_new _ _ _ 0 rfl
  have r1 : ((w.alloc (.cells t.d.arr 25)).alloc (.cells #[.int .i64 0, .int .i64 0, .string ⟨#[]⟩] 27)).cell? ⟨w.heap.size + 1, 1, none⟩ = some (.int .i64 0) := by rw [show w.heap.size + 1 = (w.alloc (.cells t.d.arr 25)).heap.size from by simp]; exact cell_new _ _ _ 1 rfl
  have r2 : ((w.alloc (.cells t.d.arr 25)).alloc (.cells #[.int .i64 0, .int .i64 0, .string ⟨#[]⟩] 27)).cell? ⟨w.heap.size + 1, 2, none⟩ = some (.string ⟨#[]⟩) := by rw [show w.heap.size + 1 = (w.alloc (.cells t.d.arr 25)).heap.size from by simp]; exact cell_new _ _ _ 2 rfl
  have f0 : ((w.alloc (.cells t.d.arr 25)).alloc (.cells #[.int .i64 0, .int .i64 0, .string ⟨#[]⟩] 27)).frozen? ⟨w.heap.size + 1, 0, none⟩ = false := by rw [show w.heap.size + 1 = (w.alloc (.cells t.d.arr 25)).heap.size from by simp]; simp
  have f1 : ((w.alloc (.cells t.d.arr 25)).alloc (.cells #[.int .i64 0, .int .i64 0, .string ⟨#[]⟩] 27)).frozen? ⟨w.heap.size + 1, 1, none⟩ = false := by rw [show w.heap.size + 1 = (w.alloc (.cells t.d.arr 25)).heap.size from by simp]; simp
  have f2 : ((w.alloc (.cells t.d.arr 25)).alloc (.cells #[.int .i64 0, .int .i64 0, .string ⟨#[]⟩] 27)).frozen? ⟨w.heap.size + 1, 2, none⟩ = false := by rw [show w.heap.size + 1 = (w.alloc (.cells t.d.arr 25)).heap.size from by simp]; simp
  have HB := Lib.hid hb1
  have HC := Lib.hid (And.intro c3 c4)
  have HR := Lib.hid (And.intro r0 (And.intro r1 (And.intro r2 (And.intro f0 (And.intro f1 f2)))))
  have hsz : w.heap.size + 2 = ((w.alloc (.cells t.d.arr 25)).alloc (.cells #[.int .i64 0, .int .i64 0, .string ⟨#[]⟩] 27)).heap.size := by simp
  have HZ := Lib.hid hsz
  clear hb1 c3 c4 r0 r1 r2 f0 f1 f2 hsz
  have HM2 := Lib.hid (HM.out _ HB.out)
  generalize (w.alloc (.cells t.d.arr 25)).alloc (.cells #[.int .i64 0, .int .i64 0, .string ⟨#[]⟩] 27) = w1 at *
  refine HM2.out.mono ?_
  rintro e w2 ⟨rfl, hb2⟩
  have c3 := cell_below hb2 HC.out.1
  have c4 := cell_below hb2 HC.out.2
  have H2 := Lib.hid (below_then HB.out hb2)
  have HO2 := Lib.hid (offset_any t.d.lA t.d.labels s t.d.ln t.d.lc w2 (HO.out.2.2.below H2.out) HO.out.2.1.2.2.2.2.1 HO.out.1)
  have HB2 := Lib.hid hb2
  clear hb2 HM HM2
  go_wp2_with fail
  refine HO2.out.mono ?_
  rintro e w3 ⟨rfl, hb3⟩
  have hb13 : Below w1.heap.size w1 w3 := HB2.out.trans (hb3.mono HB2.out.size)
  have H3 := Lib.hid (below_then HB.out hb13)
  have c4' := cell_below hb13 HC.out.2
  have r0 := cell_below hb13 HR.out.1
  have r1 := cell_below hb13 HR.out.2.1
  have r2 := cell_below hb13 HR.out.2.2.1
  have hlt : w.heap.size + 1 < w1.heap.size := by have := HZ.out; omega
  have f0 := (hb13.frozen (p := ⟨w.heap.size + 1, 0, none⟩) hlt).trans HR.out.2.2.2.1
  have f1 := (hb13.frozen (p := ⟨w.heap.size + 1, 1, none⟩) hlt).trans HR.out.2.2.2.2.1
  have f2 := (hb13.frozen (p := ⟨w.heap.size + 1, 2, none⟩) hlt).trans HR.out.2.2.2.2.2
  have hl3 : w.heap.size + 1 < w3.heap.size := Nat.lt_of_lt_of_le hlt hb13.size
  have hl4 : w.heap.size < w3.heap.size := by omega
  clear c3 c4 HO2 HC HR HZ hb3 hb13 HB2 hlt
  go_wp2_with fail
  have HQ := Lib.hid (set3_cells (x := .int .i64 (offs t.d.labels s : Nat)) (y := .int .i64 (-1)) (z := .string ⟨#[]⟩) (o := .cells #[.int .i64 (offs t.d.labels s : Nat), .int .i64 (-1), .string ⟨#[]⟩] 27) r0 r1 r2)
  obtain ⟨q4, q5, q6⟩ := HQ.out
  refine bodyPost_ret (v := .tuple #[.agg #[.int .i64 (offs t.d.labels s : Nat), .int .i64 (-1), .string ⟨#[]⟩], .nilIface]) (by simp [results, Tryd.results7, go_sem, q4, q5, q6]) rfl ?_
  exact ⟨rfl, ((((H3.out.setCell (by simp) _).setCell (by simp) _).setCell (by simp) _).alloc (by simp; omega) _)⟩

set_option maxRecDepth 100000 in
set_option maxHeartbeats 1000000 in
theorem of_kind (t : Ty) (s : Str) (w : World) (hIn : t.In w) (h4 : ¬ t.d.kind = 4) (h5 : ¬ t.d.kind = 5) :
    Calls Tryd.prog 7 #[.agg t.d.arr, .string (bstr s)] w fun e w' => e = .returned (.tuple #[.agg #[.int .i64 0, .int .i64 0, .string ⟨#[]⟩], .iface 38 (.int .i64 1)]) ∧ Below w.heap.size w w' := by
  have q1 : (t.d.kind != 4) = true := by simpa using h4
  have q2 : (t.d.kind != 5) = true := by simpa using h5
  clear hIn
  go_enter Tryd.func7, Tryd.ntmps7
  go_upto_if 23 with fail
  have hb1 : Below w.heap.size w ((w.alloc (.cells t.d.arr 25)).alloc (.cells #[.int .i64 0, .int .i64 0, .string ⟨#[]⟩] 27)) := ((Below.refl _ _).alloc (Nat.le_refl _) _).alloc (by simp) _
  have c3 : ((w.alloc (.cells t.d.arr 25)).alloc (.cells #[.int .i64 0, .int .i64 0, .string ⟨#[]⟩] 27)).cell? ⟨w.heap.size, 3, none⟩ = some (.slice t.d.lA t.d.ln t.d.lc) := by
    rw [World.cell?_alloc_lt _ _ _ (by simp)]; exact cell_new w _ _ 3 rfl
  have c4 : ((w.alloc (.cells t.d.arr 25)).alloc (.cells #[.int .i64 0, .int .i64 0, .string ⟨#[]⟩] 27)).cell? ⟨w.heap.size, 4, none⟩ = some (.int .i64 t.d.tail) := by
    rw [World.cell?_alloc_lt _ _ _ (by simp)]; exact cell_new w _ _ 4 rfl
  have r0 : ((w.alloc (.cells t.d.arr 25)).alloc (.cells #[.int .i64 0, .int .i64 0, .string ⟨#[]⟩] 27)).cell? ⟨w.heap.size + 1, 0, none⟩ = some (.int .i64 0) := by rw [show w.heap.size + 1 = (w.alloc (.cells t.d.arr 25)).heap.size from by simp]; exact cell_new _ _ _ 0 rfl
  have r1 : ((w.alloc (.cells t.d.arr 25)).alloc (.cells #[.int .i64 0, .int .i64 0, .string ⟨#[]⟩] 27)).cell? ⟨w.heap.size + 1, 1, none⟩ = some (.int .i64 0) := by rw [show w.heap.size + 1 = (w.alloc (.cells t.d.arr 25)).heap.size from by simp]; exact cell_new _ _ _ 1 rfl
  have r2 : ((w.alloc (.cells t.d.arr 25)).alloc (.cells #[.int .i64 0, .int .i64 0, .string ⟨#[]⟩] 27)).cell? ⟨w.heap.size + 1, 2, none⟩ = some (.string ⟨#[]⟩) := by rw [show w.heap.size + 1 = (w.alloc (.cells t.d.arr 25)).heap.size from by simp]; exact cell_new _ _ _ 2 rfl
  have f0 : ((w.alloc (.cells t.d.arr 25)).alloc (.cells #[.int .i64 0, .int .i64 0, .string ⟨#[]⟩] 27)).frozen? ⟨w.heap.size + 1, 0, none⟩ = false := by rw [show w.heap.size + 1 = (w.alloc (.cells t.d.arr 25)).heap.size from by simp]; simp
  have f1 : ((w.alloc (.cells t.d.arr 25)).alloc (.cells #[.int .i64 0, .int .i64 0, .string ⟨#[]⟩] 27)).frozen? ⟨w.heap.size + 1, 1, none⟩ = false := by rw [show w.heap.size + 1 = (w.alloc (.cells t.d.arr 25)).heap.size from by simp]; simp
  have f2 : ((w.alloc (.cells t.d.arr 25)).alloc (.cells #[.int .i64 0, .int .i64 0, .string ⟨#[]⟩] 27)).frozen? ⟨w.heap.size + 1, 2, none⟩ = false := by rw [show w.heap.size + 1 = (w.alloc (.cells t.d.arr 25)).heap.size from by simp]; simp
  have HB := Lib.hid hb1
  have HC := Lib.hid (And.intro c3 c4)
  have HR := Lib.hid (And.intro r0 (And.intro r1 (And.intro r2 (And.intro f0 (And.intro f1 f2)))))
  have hsz : w.heap.size + 2 = ((w.alloc (.cells t.d.arr 25)).alloc (.cells #[.int .i64 0, .int .i64 0, .string ⟨#[]⟩] 27)).heap.size := by simp
  have HZ := Lib.hid hsz
  clear hb1 c3 c4 r0 r1 r2 f0 f1 f2 hsz
  generalize (w.alloc (.cells t.d.arr 25)).alloc (.cells #[.int .i64 0, .int .i64 0, .string ⟨#[]⟩] 27) = w1 at *
  have r0 := HR.out.1
  have r1 := HR.out.2.1
  have r2 := HR.out.2.2.1
  have f0 := HR.out.2.2.2.1
  have f1 := HR.out.2.2.2.2.1
  have f2 := HR.out.2.2.2.2.2
  have hl3 : w.heap.size + 1 < w1.heap.size := by have := HZ.out; omega
  have hl4 : w.heap.size < w1.heap.size := by omega
  go_wp2_with fail
  have HQ := Lib.hid (set3n (x := .int .i64 0) (y := .int .i64 0) (z := .string ⟨#[]⟩) r0 r1 r2)
  obtain ⟨q4, q5, q6⟩ := HQ.out
  refine bodyPost_ret (v := .tuple #[.agg #[.int .i64 0, .int .i64 0, .string ⟨#[]⟩], .iface 38 (.int .i64 1)]) (by simp [results, Tryd.results7, go_sem, q4, q5, q6]) rfl ?_
  exact ⟨rfl, ((HB.out.setCell (by simp) _).setCell (by simp) _).setCell (by simp) _⟩

set_option maxRecDepth 100000 in
set_option maxHeartbeats 1000000 in
theorem of_none4 (t : Ty) (s : Str) (w : World) (hIn : t.In w) (hk : t.d.kind = 4) (hs : s = []) :
    Calls Tryd.prog 7 #[.agg t.d.arr, .string (bstr s)] w fun e w' => e = .returned (.tuple #[.agg #[.int .i64 0, .int .i64 0, .string ⟨#[]⟩], .iface 38 (.int .i64 1)]) ∧ Below w.heap.size w w' := by
  have q1 : (t.d.kind == 4) = true := by simpa using hk
  subst hs
  have q2 : (bstr ([] : Str)).toList = [] := bstr_toList _
  clear hIn
  go_enter Tryd.func7, Tryd.ntmps7
  go_upto_if 23 with fail
  have hb1 : Below w.heap.size w ((w.alloc (.cells t.d.arr 25)).alloc (.cells #[.int .i64 0, .int .i64 0, .string ⟨#[]⟩] 27)) := ((Below.refl _ _).alloc (Nat.le_refl _) _).alloc (by simp) _
  have c3 : ((w.alloc (.cells t.d.arr 25)).alloc (.cells #[.int .i64 0, .int .i64 0, .string ⟨#[]⟩] 27)).cell? ⟨w.heap.size, 3, none⟩ = some (.slice t.d.lA t.d.ln t.d.lc) := by
    rw [World.cell?_alloc_lt _ _ _ (by simp)]; exact cell_new w _ _ 3 rfl
  have c4 : ((w.alloc (.cells t.d.arr 25)).alloc (.cells #[.int .i64 0, .int .i64 0, .string ⟨#[]⟩] 27)).cell? ⟨w.heap.size, 4, none⟩ = some (.int .i64 t.d.tail) := by
    rw [World.cell?_alloc_lt _ _ _ (by simp)]; exact cell_new w _ _ 4 rfl
  have r0 : ((w.alloc (.cells t.d.arr 25)).alloc (.cells #[.int .i64 0, .int .i64 0, .string ⟨#[]⟩] 27)).cell? ⟨w.heap.size + 1, 0, none⟩ = some (.int .i64 0) := by rw [show w.heap.size + 1 = (w.alloc (.cells t.d.arr 25)).heap.size from by simp]; exact cell_new _ _ _ 0 rfl
  have r1 : ((w.alloc (.cells t.d.arr 25)).alloc (.cells #[.int .i64 0, .int .i64 0, .string ⟨#[]⟩] 27)).cell? ⟨w.heap.size + 1, 1, none⟩ = some (.int .i64 0) := by rw [show w.heap.size + 1 = (w.alloc (.cells t.d.arr 25)).heap.size from by simp]; exact cell_new _ _ _ 1 rfl
  have r2 : ((w.alloc (.cells t.d.arr 25)).alloc (.cells #[.int .i64 0, .int .i64 0, .string ⟨#[]⟩] 27)).cell? ⟨w.heap.size + 1, 2, none⟩ = some (.string ⟨#[]⟩) := by rw [show w.heap.size + 1 = (w.alloc (.cells t.d.arr 25)).heap.size from by simp]; exact cell_new _ _ _ 2 rfl
  have f0 : ((w.alloc (.cells t.d.arr 25)).alloc (.cells #[.int .i64 0, .int .i64 0, .string ⟨#[]⟩] 27)).frozen? ⟨w.heap.size + 1, 0, none⟩ = false := by rw [show w.heap.size + 1 = (w.alloc (.cells t.d.arr 25)).heap.size from by simp]; simp
  have f1 : ((w.alloc (.cells t.d.arr 25)).alloc (.cells #[.int .i64 0, .int .i64 0, .string ⟨#[]⟩] 27)).frozen? ⟨w.heap.size + 1, 1, none⟩ = false := by rw [show w.heap.size + 1 = (w.alloc (.cells t.d.arr 25)).heap.size from by simp]; simp
  have f2 : ((w.alloc (.cells t.d.arr 25)).alloc (.cells #[.int .i64 0, .int .i64 0, .string ⟨#[]⟩] 27)).frozen? ⟨w.heap.size + 1, 2, none⟩ = false := by rw [show w.heap.size + 1 = (w.alloc (.cells t.d.arr 25)).heap.size from by simp]; simp
  have HB := Lib.hid hb1
  have HC := Lib.hid (And.intro c3 c4)
  have HR := Lib.hid (And.intro r0 (And.intro r1 (And.intro r2 (And.intro f0 (And.intro f1 f2)))))
  have hsz : w.heap.size + 2 = ((w.alloc (.cells t.d.arr 25)).alloc (.cells #[.int .i64 0, .int .i64 0, .string ⟨#[]⟩] 27)).heap.size := by simp
  have HZ := Lib.hid hsz
  clear hb1 c3 c4 r0 r1 r2 f0 f1 f2 hsz
  generalize (w.alloc (.cells t.d.arr 25)).alloc (.cells #[.int .i64 0, .int .i64 0, .string ⟨#[]⟩] 27) = w1 at *
  have r0 := HR.out.1
  have r1 := HR.out.2.1
  have r2 := HR.out.2.2.1
  have f0 := HR.out.2.2.2.1
  have f1 := HR.out.2.2.2.2.1
  have f2 := HR.out.2.2.2.2.2
  have hl3 : w.heap.size + 1 < w1.heap.size := by have := HZ.out; omega
  have hl4 : w.heap.size < w1.heap.size := by omega
  go_wp2_with fail
  have HQ := Lib.hid (set3n (x := .int .i64 0) (y := .int .i64 0) (z := .string ⟨#[]⟩) r0 r1 r2)
  obtain ⟨q4, q5, q6⟩ := HQ.out
  refine bodyPost_ret (v := .tuple #[.agg #[.int .i64 0, .int .i64 0, .string ⟨#[]⟩], .iface 38 (.int .i64 1)]) (by simp [results, Tryd.results7, go_sem, q4, q5, q6]) rfl ?_
  exact ⟨rfl, ((HB.out.setCell (by simp) _).setCell (by simp) _).setCell (by simp) _⟩

set_option maxRecDepth 100000 in
set_option maxHeartbeats 1000000 in
theorem of_may4 (t : Ty) (s : Str) (w : World) (hIn : t.In w) (hk : t.d.kind = 4) (hs : s ≠ []) (hm : (mayF t 0).isSome = false) :
    Calls Tryd.prog 7 #[.agg t.d.arr, .string (bstr s)] w fun e w' => e = .returned (.tuple #[.agg #[.int .i64 0, .int .i64 0, .string ⟨#[]⟩], .iface 38 (.int .i64 1)]) ∧ Below w.heap.size w w' := by
  have hM := fun w2 (hb : Below w.heap.size w w2) => may_any t w2 (hIn.lower hb)
  rw [hm, show t.d.arr = #[.int .i64 4, .int .i64 t.d.n, .slice t.d.pA t.d.pn t.d.pc, .slice t.d.lA t.d.ln t.d.lc, .int .i64 t.d.tail] from by simp [TyD.arr, hk]] at hM
  have HM := Lib.hid hM
  have q1 : (t.d.kind == 4) = true := by simpa using hk
  have q2 : (bstr s).toList.isEmpty = false := by rw [bstr_toList]; cases s with
    | nil => exact absurd rfl hs
    | cons a r => rfl
  clear hM hm hIn
  go_enter Tryd.func7, Tryd.ntmps7
  go_wp2_with fail
  have hb1 : Below w.heap.size w ((w.alloc (.cells t.d.arr 25)).alloc (.cells #[.int .i64 0, .int .i64 0, .string ⟨#[]⟩] 27)) := ((Below.refl _ _).alloc (Nat.le_refl _) _).alloc (by simp) _
  have c3 : ((w.alloc (.cells t.d.arr 25)).alloc (.cells #[.int .i64 0, .int .i64 0, .string ⟨#[]⟩] 27)).cell? ⟨w.heap.size, 3, none⟩ = some (.slice t.d.lA t.d.ln t.d.lc) := by
    rw [World.cell?_alloc_lt _ _ _ (by simp)]; exact cell_new w _ _ 3 rfl
  have c4 : ((w.alloc (.cells t.d.arr 25)).alloc (.cells #[.int .i64 0, .int .i64 0, .string ⟨#[]⟩] 27)).cell? ⟨w.heap.size, 4, none⟩ = some (.int .i64 t.d.tail) := by
    rw [World.cell?_alloc_lt _ _ _ (by simp)]; exact cell_new w _ _ 4 rfl
  have r0 : ((w.alloc (.cells t.d.arr 25)).alloc (.cells #[.int .i64 0, .int .i64 0, .string ⟨#[]⟩] 27)).cell? ⟨w.heap.size + 1, 0, none⟩ = some (.int .i64 0) := by rw [show w.heap.size + 1 = (w.alloc (.cells t.d.arr 25)).heap.size from by simp]; exact cell_new _ _ _ 0 rfl
  have r1 : ((w.alloc (.cells t.d.arr 25)).alloc (.cells #[.int .i64 0, .int .i64 0, .string ⟨#[]⟩] 27)).cell? ⟨w.heap.size + 1, 1, none⟩ = some (.int .i64 0) := by rw [show w.heap.size + 1 = (w.alloc (.cells t.d.arr 25)).heap.size from by simp]; exact cell_new _ _ _ 1 rfl
  have r2 : ((w.alloc (.cells t.d.arr 25)).alloc (.cells #[.int .i64 0, .int .i64 0, .string ⟨#[]⟩] 27)).cell? ⟨w.heap.size + 1, 2, none⟩ = some (.string ⟨#[]⟩) := by rw [show w.heap.size + 1 = (w.alloc (.cells t.d.arr 25)).heap.size from by simp]; exact cell_new _ _ _ 2 rfl
  have f0 : ((w.alloc (.cells t.d.arr 25)).alloc (.cells #[.int .i64 0, .int .i64 0, .string ⟨#[]⟩] 27)).frozen? ⟨w.heap.size + 1, 0, none⟩ = false := by rw [show w.heap.size + 1 = (w.alloc (.cells t.d.arr 25)).heap.size from by simp]; simp
  have f1 : ((w.alloc (.cells t.d.arr 25)).alloc (.cells #[.int .i64 0, .int .i64 0, .string ⟨#[]⟩] 27)).frozen? ⟨w.heap.size + 1, 1, none⟩ = false := by rw [show w.heap.size + 1 = (w.alloc (.cells t.d.arr 25)).heap.size from by simp]; simp
  have f2 : ((w.alloc (.cells t.d.arr 25)).alloc (.cells #[.int .i64 0, .int .i64 0, .string ⟨#[]⟩] 27)).frozen? ⟨w.heap.size + 1, 2, none⟩ = false := by rw [show w.heap.size + 1 = (w.alloc (.cells t.d.arr 25)).heap.size from by simp]; simp
  have HB := Lib.hid hb1
  have HC := Lib.hid (And.intro c3 c4)
  have HR := Lib.hid (And.intro r0 (And.intro r1 (And.intro r2 (And.intro f0 (And.intro f1 f2)))))
  have hsz : w.heap.size + 2 = ((w.alloc (.cells t.d.arr 25)).alloc (.cells #[.int .i64 0, .int .i64 0, .string ⟨#[]⟩] 27)).heap.size := by simp
  have HZ := Lib.hid hsz
  clear hb1 c3 c4 r0 r1 r2 f0 f1 f2 hsz
  have HM2 := Lib.hid (HM.out _ HB.out)
  generalize (w.alloc (.cells t.d.arr 25)).alloc (.cells #[.int .i64 0, .int .i64 0, .string ⟨#[]⟩] 27) = w1 at *
  refine HM2.out.mono ?_
  rintro e w2 ⟨rfl, hb2⟩
  have H2 := Lib.hid (below_then HB.out hb2)
  have r0 := cell_below hb2 HR.out.1
  have r1 := cell_below hb2 HR.out.2.1
  have r2 := cell_below hb2 HR.out.2.2.1
  have hlt : w.heap.size + 1 < w1.heap.size := by have := HZ.out; omega
  have f0 := (hb2.frozen (p := ⟨w.heap.size + 1, 0, none⟩) hlt).trans HR.out.2.2.2.1
  have f1 := (hb2.frozen (p := ⟨w.heap.size + 1, 1, none⟩) hlt).trans HR.out.2.2.2.2.1
  have f2 := (hb2.frozen (p := ⟨w.heap.size + 1, 2, none⟩) hlt).trans HR.out.2.2.2.2.2
  have hl3 : w.heap.size + 1 < w2.heap.size := Nat.lt_of_lt_of_le hlt hb2.size
  have hl4 : w.heap.size < w2.heap.size := by omega
  clear HM HM2 hb2 HR HC HZ hlt
  go_wp2_with fail
  have HQ := Lib.hid (set3n (x := .int .i64 0) (y := .int .i64 0) (z := .string ⟨#[]⟩) r0 r1 r2)
  obtain ⟨q4, q5, q6⟩ := HQ.out
  refine bodyPost_ret (v := .tuple #[.agg #[.int .i64 0, .int .i64 0, .string ⟨#[]⟩], .iface 38 (.int .i64 1)]) (by simp [results, Tryd.results7, go_sem, q4, q5, q6]) rfl ?_
  exact ⟨rfl, ((H2.out.setCell (by simp) _).setCell (by simp) _).setCell (by simp) _⟩

set_option maxRecDepth 100000 in
set_option maxHeartbeats 1000000 in
theorem of_none5 (t : Ty) (s : Str) (w : World) (hIn : t.In w) (hk : t.d.kind = 5) (hs : s = []) :
    Calls Tryd.prog 7 #[.agg t.d.arr, .string (bstr s)] w fun e w' => e = .returned (.tuple #[.agg #[.int .i64 0, .int .i64 0, .string ⟨#[]⟩], .iface 38 (.int .i64 1)]) ∧ Below w.heap.size w w' := by
  have q1 : (t.d.kind == 5) = true := by simpa using hk
  subst hs
  have q2 : (bstr ([] : Str)).toList = [] := bstr_toList _
  clear hIn
  go_enter Tryd.func7, Tryd.ntmps7
  go_upto_if 23 with fail
  have hb1 : Below w.heap.size w ((w.alloc (.cells t.d.arr 25)).alloc (.cells #[.int .i64 0, .int .i64 0, .string ⟨#[]⟩] 27)) := ((Below.refl _ _).alloc (Nat.le_refl _) _).alloc (by simp) _
  have c3 : ((w.alloc (.cells t.d.arr 25)).alloc (.cells #[.int .i64 0, .int .i64 0, .string ⟨#[]⟩] 27)).cell? ⟨w.heap.size, 3, none⟩ = some (.slice t.d.lA t.d.ln t.d.lc) := by
    rw [World.cell?_alloc_lt _ _ _ (by simp)]; exact cell_new w _ _ 3 rfl
  have c4 : ((w.alloc (.cells t.d.arr 25)).alloc (.cells #[.int .i64 0, .int .i64 0, .string ⟨#[]⟩] 27)).cell? ⟨w.heap.size, 4, none⟩ = some (.int .i64 t.d.tail) := by
    rw [World.cell?_alloc_lt _ _ _ (by simp)]; exact cell_new w _ _ 4 rfl
  have r0 : ((w.alloc (.cells t.d.arr 25)).alloc (.cells #[.int .i64 0, .int .i64 0, .string ⟨#[]⟩] 27)).cell? ⟨w.heap.size + 1, 0, none⟩ = some (.int .i64 0) := by rw [show w.heap.size + 1 = (w.alloc (.cells t.d.arr 25)).heap.size from by simp]; exact cell_new _ _ _ 0 rfl
  have r1 : ((w.alloc (.cells t.d.arr 25)).alloc (.cells #[.int .i64 0, .int .i64 0, .string ⟨#[]⟩] 27)).cell? ⟨w.heap.size + 1, 1, none⟩ = some (.int .i64 0) := by rw [show w.heap.size + 1 = (w.alloc (.cells t.d.arr 25)).heap.size from by simp]; exact cell_new _ _ _ 1 rfl
  have r2 : ((w.alloc (.cells t.d.arr 25)).alloc (.cells #[.int .i64 0, .int .i64 0, .string ⟨#[]⟩] 27)).cell? ⟨w.heap.size + 1, 2, none⟩ = some (.string ⟨#[]⟩) := by rw [show w.heap.size + 1 = (w.alloc (.cells t.d.arr 25)).heap.size from by simp]; exact cell_new _ _ _ 2 rfl
  have f0 : ((w.alloc (.cells t.d.arr 25)).alloc (.cells #[.int .i64 0, .int .i64 0, .string ⟨#[]⟩] 27)).frozen? ⟨w.heap.size + 1, 0, none⟩ = false := by rw [show w.heap.size + 1 = (w.alloc (.cells t.d.arr 25)).heap.size from by simp]; simp
  have f1 : ((w.alloc (.cells t.d.arr 25)).alloc (.cells #[.int .i64 0, .int .i64 0, .string ⟨#[]⟩] 27)).frozen? ⟨w.heap.size + 1, 1, none⟩ = false := by rw [show w.heap.size + 1 = (w.alloc (.cells t.d.arr 25)).heap.size from by simp]; simp
  have f2 : ((w.alloc (.cells t.d.arr 25)).alloc (.cells #[.int .i64 0, .int .i64 0, .string ⟨#[]⟩] 27)).frozen? ⟨w.heap.size + 1, 2, none⟩ = false := by rw [show w.heap.size + 1 = (w.alloc (.cells t.d.arr 25)).heap.size from by simp]; simp
  have HB := Lib.hid hb1
  have HC := Lib.hid (And.intro c3 c4)
  have HR := Lib.hid (And.intro r0 (And.intro r1 (And.intro r2 (And.intro f0 (And.intro f1 f2)))))
  have hsz : w.heap.size + 2 = ((w.alloc (.cells t.d.arr 25)).alloc (.cells #[.int .i64 0, .int .i64 0, .string ⟨#[]⟩] 27)).heap.size := by simp
  have HZ := Lib.hid hsz
  clear hb1 c3 c4 r0 r1 r2 f0 f1 f2 hsz
  generalize (w.alloc (.cells t.d.arr 25)).alloc (.cells #[.int .i64 0, .int .i64 0, .string ⟨#[]⟩] 27) = w1 at *
  have r0 := HR.out.1
  have r1 := HR.out.2.1
  have r2 := HR.out.2.2.1
  have f0 := HR.out.2.2.2.1
  have f1 := HR.out.2.2.2.2.1
  have f2 := HR.out.2.2.2.2.2
  have hl3 : w.heap.size + 1 < w1.heap.size := by have := HZ.out; omega
  have hl4 : w.heap.size < w1.heap.size := by omega
  go_wp2_with fail
  have HQ := Lib.hid (set3n (x := .int .i64 0) (y := .int .i64 0) (z := .string ⟨#[]⟩) r0 r1 r2)
  obtain ⟨q4, q5, q6⟩ := HQ.out
  refine bodyPost_ret (v := .tuple #[.agg #[.int .i64 0, .int .i64 0, .string ⟨#[]⟩], .iface 38 (.int .i64 1)]) (by simp [results, Tryd.results7, go_sem, q4, q5, q6]) rfl ?_
  exact ⟨rfl, ((HB.out.setCell (by simp) _).setCell (by simp) _).setCell (by simp) _⟩

set_option maxRecDepth 100000 in
set_option maxHeartbeats 1000000 in
theorem of_may5 (t : Ty) (s : Str) (w : World) (hIn : t.In w) (hk : t.d.kind = 5) (hs : s ≠ []) (hm : (mayF t 0).isSome = false) :
    Calls Tryd.prog 7 #[.agg t.d.arr, .string (bstr s)] w fun e w' => e = .returned (.tuple #[.agg #[.int .i64 0, .int .i64 0, .string ⟨#[]⟩], .iface 38 (.int .i64 1)]) ∧ Below w.heap.size w w' := by
  have hM := fun w2 (hb : Below w.heap.size w w2) => may_any t w2 (hIn.lower hb)
  rw [hm, show t.d.arr = #[.int .i64 5, .int .i64 t.d.n, .slice t.d.pA t.d.pn t.d.pc, .slice t.d.lA t.d.ln t.d.lc, .int .i64 t.d.tail] from by simp [TyD.arr, hk]] at hM
  have HM := Lib.hid hM
  have q1 : (t.d.kind == 5) = true := by simpa using hk
  have q2 : (bstr s).toList.isEmpty = false := by rw [bstr_toList]; cases s with
    | nil => exact absurd rfl hs
    | cons a r => rfl
  clear hM hm hIn
  go_enter Tryd.func7, Tryd.ntmps7
  go_wp2_with fail
  have hb1 : Below w.heap.size w ((w.alloc (.cells t.d.arr 25)).alloc (.cells #[.int .i64 0, .int .i64 0, .string ⟨#[]⟩] 27)) := ((Below.refl _ _).alloc (Nat.le_refl _) _).alloc (by simp) _
  have c3 : ((w.alloc (.cells t.d.arr 25)).alloc (.cells #[.int .i64 0, .int .i64 0, .string ⟨#[]⟩] 27)).cell? ⟨w.heap.size, 3, none⟩ = some (.slice t.d.lA t.d.ln t.d.lc) := by
    rw [World.cell?_alloc_lt _ _ _ (by simp)]; exact cell_new w _ _ 3 rfl
  have c4 : ((w.alloc (.cells t.d.arr 25)).alloc (.cells #[.int .i64 0, .int .i64 0, .string ⟨#[]⟩] 27)).cell? ⟨w.heap.size, 4, none⟩ = some (.int .i64 t.d.tail) := by
    rw [World.cell?_alloc_lt _ _ _ (by simp)]; exact cell_new w _ _ 4 rfl
  have r0 : ((w.alloc (.cells t.d.arr 25)).alloc (.cells #[.int .i64 0, .int .i64 0, .string ⟨#[]⟩] 27)).cell? ⟨w.heap.size + 1, 0, none⟩ = some (.int .i64 0) := by rw [show w.heap.size + 1 = (w.alloc (.cells t.d.arr 25)).heap.size from by simp]; exact cell_new _ _ _ 0 rfl
  have r1 : ((w.alloc (.cells t.d.arr 25)).alloc (.cells #[.int .i64 0, .int .i64 0, .string ⟨#[]⟩] 27)).cell? ⟨w.heap.size + 1, 1, none⟩ = some (.int .i64 0) := by rw [show w.heap.size + 1 = (w.alloc (.cells t.d.arr 25)).heap.size from by simp]; exact cell_new _ _ _ 1 rfl
  have r2 : ((w.alloc (.cells t.d.arr 25)).alloc (.cells #[.int .i64 0, .int .i64 0, .string ⟨#[]⟩] 27)).cell? ⟨w.heap.size + 1, 2, none⟩ = some (.string ⟨#[]⟩) := by rw [show w.heap.size + 1 = (w.alloc (.cells t.d.arr 25)).heap.size from by simp]; exact cell_new _ _ _ 2 rfl
  have f0 : ((w.alloc (.cells t.d.arr 25)).alloc (.cells #[.int .i64 0, .int .i64 0, .string ⟨#[]⟩] 27)).frozen? ⟨w.heap.size + 1, 0, none⟩ = false := by rw [show w.heap.size + 1 = (w.alloc (.cells t.d.arr 25)).heap.size from by simp]; simp
  have f1 : ((w.alloc (.cells t.d.arr 25)).alloc (.cells #[.int .i64 0, .int .i64 0, .string ⟨#[]⟩] 27)).frozen? ⟨w.heap.size + 1, 1, none⟩ = false := by rw [show w.heap.size + 1 = (w.alloc (.cells t.d.arr 25)).heap.size from by simp]; simp
  have f2 : ((w.alloc (.cells t.d.arr 25)).alloc (.cells #[.int .i64 0, .int .i64 0, .string ⟨#[]⟩] 27)).frozen? ⟨w.heap.size + 1, 2, none⟩ = false := by rw [show w.heap.size + 1 = (w.alloc (.cells t.d.arr 25)).heap.size from by simp]; simp
  have HB := Lib.hid hb1
  have HC := Lib.hid (And.intro c3 c4)
  have HR := Lib.hid (And.intro r0 (And.intro r1 (And.intro r2 (And.intro f0 (And.intro f1 f2)))))
  have hsz : w.heap.size + 2 = ((w.alloc (.cells t.d.arr 25)).alloc (.cells #[.int .i64 0, .int .i64 0, .string ⟨#[]⟩] 27)).heap.size := by simp
  have HZ := Lib.hid hsz
  clear hb1 c3 c4 r0 r1 r2 f0 f1 f2 hsz
  have HM2 := Lib.hid (HM.out _ HB.out)
  generalize (w.alloc (.cells t.d.arr 25)).alloc (.cells #[.int .i64 0, .int .i64 0, .string ⟨#[]⟩] 27) = w1 at *
  refine HM2.out.mono ?_
  rintro e w2 ⟨rfl, hb2⟩
  have H2 := Lib.hid (below_then HB.out hb2)
  have r0 := cell_below hb2 HR.out.1
  have r1 := cell_below hb2 HR.out.2.1
  have r2 := cell_below hb2 HR.out.2.2.1
  have hlt : w.heap.size + 1 < w1.heap.size := by have := HZ.out; omega
  have f0 := (hb2.frozen (p := ⟨w.heap.size + 1, 0, none⟩) hlt).trans HR.out.2.2.2.1
  have f1 := (hb2.frozen (p := ⟨w.heap.size + 1, 1, none⟩) hlt).trans HR.out.2.2.2.2.1
  have f2 := (hb2.frozen (p := ⟨w.heap.size + 1, 2, none⟩) hlt).trans HR.out.2.2.2.2.2
  have hl3 : w.heap.size + 1 < w2.heap.size := Nat.lt_of_lt_of_le hlt hb2.size
  have hl4 : w.heap.size < w2.heap.size := by omega
  clear HM HM2 hb2 HR HC HZ hlt
  go_wp2_with fail
  have HQ := Lib.hid (set3n (x := .int .i64 0) (y := .int .i64 0) (z := .string ⟨#[]⟩) r0 r1 r2)
  obtain ⟨q4, q5, q6⟩ := HQ.out
  refine bodyPost_ret (v := .tuple #[.agg #[.int .i64 0, .int .i64 0, .string ⟨#[]⟩], .iface 38 (.int .i64 1)]) (by simp [results, Tryd.results7, go_sem, q4, q5, q6]) rfl ?_
  exact ⟨rfl, ((H2.out.setCell (by simp) _).setCell (by simp) _).setCell (by simp) _⟩
end Go.Proofs.YtlgmddnpmmggdaaDoor
