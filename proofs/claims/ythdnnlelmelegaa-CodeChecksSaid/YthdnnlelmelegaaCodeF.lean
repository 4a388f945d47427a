/-
  Images held against each other, by the code.
-/
import Derived.Test.YthdnnlelmelegaaCodeE
namespace Go.Proofs.Ythdnnlelmelegaa
open Go.ChangeShapes Go.WideShapes Go.ChangeAt Go.RowKit
set_option linter.unusedVariables false

def sameImg (x y : AImg) : Bool := decide (x.ints = y.ints) && decide (x.texts = y.texts) && sameFncs x.funs y.funs

theorem same_any (x y : AImg) (w : World) (hx : x.In w) (hy : y.In w) :
    Calls Try.prog 9 #[x.value, y.value] w fun e w' => e = .returned (.bool (sameImg x y)) ∧ Below w.heap.size w w' := by
  have HX := Lib.hid hx
  have HY := Lib.hid hy
  clear hx hy
  have hb0 : Below w.heap.size w ((w.alloc (.cells #[.slice x.iA x.iN x.iC, .slice x.tA x.tN x.tC, .slice x.fA x.fN x.fC] 26)).alloc (.cells #[.slice y.iA y.iN y.iC, .slice y.tA y.tN y.tC, .slice y.fA y.fN y.fC] 26)) := ((Below.refl _ _).alloc (Nat.le_refl _) _).alloc (by simp) _
  have x1 : ((w.alloc (.cells #[.slice x.iA x.iN x.iC, .slice x.tA x.tN x.tC, .slice x.fA x.fN x.fC] 26)).alloc (.cells #[.slice y.iA y.iN y.iC, .slice y.tA y.tN y.tC, .slice y.fA y.fN y.fC] 26)).cell? ⟨w.heap.size, 1, none⟩ = some (.slice x.tA x.tN x.tC) := cell_alloc (cell_new w _ _ 1 rfl)
  have x2 : ((w.alloc (.cells #[.slice x.iA x.iN x.iC, .slice x.tA x.tN x.tC, .slice x.fA x.fN x.fC] 26)).alloc (.cells #[.slice y.iA y.iN y.iC, .slice y.tA y.tN y.tC, .slice y.fA y.fN y.fC] 26)).cell? ⟨w.heap.size, 2, none⟩ = some (.slice x.fA x.fN x.fC) := cell_alloc (cell_new w _ _ 2 rfl)
  have y1 : ((w.alloc (.cells #[.slice x.iA x.iN x.iC, .slice x.tA x.tN x.tC, .slice x.fA x.fN x.fC] 26)).alloc (.cells #[.slice y.iA y.iN y.iC, .slice y.tA y.tN y.tC, .slice y.fA y.fN y.fC] 26)).cell? ⟨w.heap.size + 1, 1, none⟩ = some (.slice y.tA y.tN y.tC) := by
    have h := cell_new (w.alloc (.cells #[.slice x.iA x.iN x.iC, .slice x.tA x.tN x.tC, .slice x.fA x.fN x.fC] 26)) #[.slice y.iA y.iN y.iC, .slice y.tA y.tN y.tC, .slice y.fA y.fN y.fC] 26 1 (v := .slice y.tA y.tN y.tC) (fr := (0, 0)) rfl
    rwa [World.size_alloc] at h
  have y2 : ((w.alloc (.cells #[.slice x.iA x.iN x.iC, .slice x.tA x.tN x.tC, .slice x.fA x.fN x.fC] 26)).alloc (.cells #[.slice y.iA y.iN y.iC, .slice y.tA y.tN y.tC, .slice y.fA y.fN y.fC] 26)).cell? ⟨w.heap.size + 1, 2, none⟩ = some (.slice y.fA y.fN y.fC) := by
    have h := cell_new (w.alloc (.cells #[.slice x.iA x.iN x.iC, .slice x.tA x.tN x.tC, .slice x.fA x.fN x.fC] 26)) #[.slice y.iA y.iN y.iC, .slice y.tA y.tN y.tC, .slice y.fA y.fN y.fC] 26 2 (v := .slice y.fA y.fN y.fC) (fr := (0, 0)) rfl
    rwa [World.size_alloc] at h
  have X1 := Lib.hid x1
  have X2 := Lib.hid x2
  have Y1 := Lib.hid y1
  have Y2 := Lib.hid y2
  clear x1 x2 y1 y2
  go_enter Try.func9, Try.ntmps9
  unfold AImg.value
  go_wp2_with fail
  have zx := HX.out.below hb0
  have zy := HY.out.below hb0
  refine (eqInt64_any x.iA y.iA x.ints y.ints x.iN x.iC y.iN y.iC _ zx.ints zy.ints (Nat.le_trans zx.icap.1 zx.icap.2) (Nat.le_trans zy.icap.1 zy.icap.2)).mono ?_
  by_cases h1 : x.ints = y.ints
  · rw [decide_eq_true h1]
    have H1 := Lib.hid h1
    clear h1
    rintro e w1 ⟨rfl, k1⟩
    have b1 := below_then hb0 k1
    have d1 := cell_below k1 X1.out
    have d2 := cell_below k1 X2.out
    have e1 := cell_below k1 Y1.out
    have e2 := cell_below k1 Y2.out
    replace zx := zx.below k1
    replace zy := zy.below k1
    have ZX := Lib.hid zx
    have ZY := Lib.hid zy
    clear zx zy X1 X2 Y1 Y2 k1 hb0
    go_wp2_with fail
    refine (eqStr_any x.tA y.tA x.texts y.texts x.tN x.tC y.tN y.tC _ ZX.out.texts ZY.out.texts (Nat.le_trans ZX.out.tcap.1 ZX.out.tcap.2) (Nat.le_trans ZY.out.tcap.1 ZY.out.tcap.2)).mono ?_
    by_cases h2 : x.texts = y.texts
    · rw [decide_eq_true h2]
      have H2 := Lib.hid h2
      clear h2
      rintro e w2 ⟨rfl, k2⟩
      have b2 := below_then b1 k2
      replace d2 := cell_below k2 d2
      replace e2 := cell_below k2 e2
      have ZX2 := Lib.hid (ZX.out.below k2)
      have ZY2 := Lib.hid (ZY.out.below k2)
      clear ZX ZY d1 e1 k2 b1
      go_wp2_with fail
      refine (eqFncs_any x.fA y.fA x.funs y.funs x.fN x.fC y.fN y.fC _ ZX2.out.funs ZY2.out.funs (Nat.le_trans ZX2.out.fcap.1 ZX2.out.fcap.2) (Nat.le_trans ZY2.out.fcap.1 ZY2.out.fcap.2) ZX2.out.fall ZY2.out.fall).mono ?_
      rintro e w3 ⟨rfl, k3⟩
      go_wp2_with fail
      go_returns
      have e : sameImg x y = sameFncs x.funs y.funs := by unfold sameImg; rw [decide_eq_true H1.out, decide_eq_true H2.out]; rfl
      exact ⟨by rw [e]; rfl, below_then b2 k3⟩
    · rw [decide_eq_false h2]
      have e : sameImg x y = false := by unfold sameImg; rw [decide_eq_false h2, Bool.and_false, Bool.false_and]
      clear h2
      rintro e' w2 ⟨rfl, k2⟩
      go_wp2_with fail
      go_returns
      exact ⟨by rw [e]; rfl, below_then b1 k2⟩
  · rw [decide_eq_false h1]
    have e : sameImg x y = false := by unfold sameImg; rw [decide_eq_false h1]; rfl
    clear h1
    rintro e' w1 ⟨rfl, k1⟩
    go_wp2_with fail
    go_returns
    exact ⟨by rw [e]; rfl, below_then hb0 k1⟩
end Go.Proofs.Ythdnnlelmelegaa
