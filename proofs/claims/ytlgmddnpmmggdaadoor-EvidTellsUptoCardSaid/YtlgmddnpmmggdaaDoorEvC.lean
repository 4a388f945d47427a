/-
  The document's example, played.
-/
import Derived.Test.YtlgmddnpmmggdaaDoorEvB
import Derived.Test.YtlgmddnpmmggdaaDoorShelf
import Derived.Test.YtlgmddnpmmggdaaDoorQuiet
import Derived.Test.YtlgmddnpmmggdaaDoorCodes
namespace Go.Proofs.YtlgmddnpmmggdaaDoor
open Go.ChangeShapes Go.WideShapes Go.ChangeAt Go.RowKit Go.Sort Go.Maps
set_option linter.unusedVariables false
set_option linter.unusedSimpArgs false
attribute [local irreducible] Go.wpQuiet

/-- An integer's type. -/
def intD : TyD := ⟨1, 0, none, 0, 0, none, 0, 0, [], -1⟩
def intTy : Ty := .mk intD []
theorem intTy_in (w : World) : intTy.In w := .mk intD [] (Rd.nil _ _ _) (Rd.nil _ _ _) ⟨by decide, by decide, by decide, by decide, by decide, by decide⟩ (fun x hx => by cases hx)
theorem intTy_may (k : Nat) (h : k + 1 ≤ 4000) : mayF intTy k = some (k + 1) := by
  unfold intTy mayF
  rw [if_neg (by omega), if_pos (by decide)]
  rfl
theorem mayL_ints : ∀ (n k : Nat), k + n ≤ 4000 → mayL (List.replicate n intTy) k = some (k + n)
  | 0, k, _ => rfl
  | n + 1, k, h => by
    rw [List.replicate_succ]
    unfold mayL
    rw [intTy_may k (by omega)]
    show mayL (List.replicate n intTy) (k + 1) = _
    rw [mayL_ints n (k + 1) (by omega)]
    congr 1; omega
def intCells (n : Nat) : List Value := (List.replicate n intTy).flatMap Ty.cells
theorem intCells_succ (n : Nat) : intCells (n + 1) = intCells n ++ [.int .i64 1, .int .i64 0, .slice none 0 0, .slice none 0 0, .int .i64 (-1)] := by
  unfold intCells
  rw [List.replicate_succ', List.flatMap_append]; rfl

/-- A record's type, all of whose parts are integers'. -/
def recTy (pA : Option Addr) (pc : Nat) (lA : Option Addr) (lc : Nat) (labels : List Str) (tail : Int) : Ty :=
  .mk ⟨4, 0, pA, labels.length, pc, lA, labels.length, lc, labels, tail⟩ (List.replicate labels.length intTy)
theorem recTy_may {pA : Option Addr} {pc : Nat} {lA : Option Addr} {lc : Nat} {labels : List Str} {tail : Int} (hn : labels.length ≤ 1000) (ho : inOrder labels) (he : ([] : Str) ∉ labels) (ht : -1 ≤ tail) :
    (mayF (recTy pA pc lA lc labels tail) 0).isSome = true := by
  unfold recTy mayF
  have hf : TyD.fieldsB ⟨4, 0, pA, labels.length, pc, lA, labels.length, lc, labels, tail⟩ = true := by
    unfold TyD.fieldsB
    rw [if_pos (.inl rfl)]
    simp [ht, (isB_order labels).2 ho, he]
  rw [if_neg (by omega), if_pos hf, mayL_ints _ _ (by omega)]
  rfl
theorem recTy_in {w : World} {pA : Option Addr} {pc : Nat} {lA : Option Addr} {lc : Nat} {labels : List Str} {tail : Int} (hn : labels.length ≤ 1000) (hl : Rd w 1 lA labels.length (strs labels)) (hp : Rd w 5 pA labels.length (intCells labels.length))
    (h1 : labels.length ≤ lc) (h2 : lc ≤ maxLen) (h3 : labels.length ≤ pc) (h4 : pc ≤ maxLen) : (recTy pA pc lA lc labels tail).In w :=
  .mk _ _ hl hp ⟨h1, h2, h3, h4, by show labels.length ≤ _; omega, by show labels.length ≤ _; omega⟩ (fun x hx => by rw [List.eq_of_mem_replicate hx]; exact intTy_in w)

set_option maxRecDepth 100000 in
set_option maxHeartbeats 1000000 in
theorem of_int (s : ByteArray) (w : World) : Calls Tryd.prog 7 #[.agg intD.arr, .string s] w fun e w' => e = .returned (.tuple #[.agg #[.int .i64 0, .int .i64 0, .string ⟨#[]⟩], .iface 38 (.int .i64 1)]) ∧ Below w.heap.size w w' := by
  unfold intD
  go_enter Tryd.func7, Tryd.ntmps7
  go_wp2_with fail
  go_returns
  exact ⟨rfl, ((Below.refl _ _).alloc (Nat.le_refl _) _).alloc (by simp) _⟩

theorem digits5 : Lib.decDigits 5 = [53] := by simp [Lib.decDigits]

set_option maxRecDepth 100000 in
set_option maxHeartbeats 1000000 in
theorem name_5c (w : World) : Calls Tryd.prog 11 #[.agg #[.int .i64 5, .string ⟨#[99]⟩]] w fun e w' => e = .returned (.string ⟨#[36, 53, 46, 99]⟩) ∧ Below w.heap.size w w' := by
  have hb : Below w.heap.size w (w.alloc (.cells #[.int .i64 5, .string ⟨#[99]⟩] 43)) := (Below.refl _ _).alloc (Nat.le_refl _) _
  have k0 := cell_regrown (cell_new w #[.int .i64 5, .string ⟨#[99]⟩] 43 0 rfl (fr := (0, 0)))
  have k1 := cell_regrown (cell_new w #[.int .i64 5, .string ⟨#[99]⟩] 43 1 rfl (fr := (0, 0)))
  have HB := Lib.hid hb
  clear hb
  go_enter Tryd.func11, Tryd.ntmps11
  go_wp2_with fail
  generalize hW : w.alloc (.cells #[.int .i64 5, .string ⟨#[99]⟩] 43) = w1 at *
  have CI : RowKit.Hid (∀ d os, Calls Tryd.prog 10 #[.int .i64 5] (grow (redrawn w1 d) os) fun e w'' => e = .returned (.string ⟨#[53]⟩) ∧ ∃ p : Regrown, w'' = grow (redrawn w1 p.d) p.os) := Lib.hid fun d os =>
    Calls.regrown_of ((Tryd.strconv_Itoa_small 5 (by omega) (grow (redrawn w1 d) os)).mono fun e w' h => ⟨by rw [h.1, digits5], by rw [h.2]; exact Below.refl _ _⟩)
  refine wp_region_quiet_below (by kernel_rfl) (by kernel_rfl) ?_
  repeat (quiet_step ((go_at_call 10; with_reducible exact CI.out _ _)))
  refine wpQuiet_nil ?_
  intro _ hw
  obtain ⟨⟨dq, osq⟩, hw''⟩ := hw
  subst hw''
  have hbq := HB.out.trans ((below_regrown w1 dq osq).mono HB.out.size)
  clear k0 k1 CI
  generalize grow (redrawn w1 dq) osq = w2 at *
  go_wp2_with fail
  go_returns
  exact ⟨rfl, hbq⟩

theorem offs_acd : offs [[97], [99], [100]] [99] = 1 := by decide
theorem order_acd : inOrder [[97], [99], [100]] := (isB_order _).1 (by decide)

theorem up_world (w Wc : World) (h : Wc = ((w.alloc (.cells #[.int .i64 1, .int .i64 0, .slice none 0 0, .slice none 0 0, .int .i64 (-1)] 25)).alloc (.cells #[.string ⟨#[97]⟩, .string ⟨#[99]⟩, .string ⟨#[100]⟩] 9)).alloc (.cells #[.int .i64 1, .int .i64 0, .slice none 0 0, .slice none 0 0, .int .i64 (-1), .int .i64 1, .int .i64 0, .slice none 0 0, .slice none 0 0, .int .i64 (-1), .int .i64 1, .int .i64 0, .slice none 0 0, .slice none 0 0, .int .i64 (-1)] 25)) :
    Below w.heap.size w Wc ∧ intD.At Wc w.heap.size 0 ∧ Rd Wc 1 (some ⟨w.heap.size + 1, 0, none⟩) 3 (strs [[97], [99], [100]]) ∧ Rd Wc 5 (some ⟨w.heap.size + 1 + 1, 0, none⟩) 3 (intCells 3) ∧ Wc.heap.size = w.heap.size + 3 := by
  obtain ⟨Wa, ha⟩ : ∃ Wa, Wa = w.alloc (.cells #[.int .i64 1, .int .i64 0, .slice none 0 0, .slice none 0 0, .int .i64 (-1)] 25) := ⟨_, rfl⟩
  obtain ⟨Wb, hb⟩ : ∃ Wb, Wb = Wa.alloc (.cells #[.string ⟨#[97]⟩, .string ⟨#[99]⟩, .string ⟨#[100]⟩] 9) := ⟨_, rfl⟩
  have sa : Wa.heap.size = w.heap.size + 1 := by rw [ha]; simp
  have sb : Wb.heap.size = w.heap.size + 1 + 1 := by rw [hb]; simp [sa]
  have hc : Wc = Wb.alloc (.cells #[.int .i64 1, .int .i64 0, .slice none 0 0, .slice none 0 0, .int .i64 (-1), .int .i64 1, .int .i64 0, .slice none 0 0, .slice none 0 0, .int .i64 (-1), .int .i64 1, .int .i64 0, .slice none 0 0, .slice none 0 0, .int .i64 (-1)] 25) := by rw [h, hb, ha]
  have ba : Below w.heap.size w Wa := by rw [ha]; exact (Below.refl _ _).alloc (Nat.le_refl _) _
  have bb : Below Wa.heap.size Wa Wb := by rw [hb]; exact (Below.refl _ _).alloc (Nat.le_refl _) _
  have bc : Below Wb.heap.size Wb Wc := by rw [hc]; exact (Below.refl _ _).alloc (Nat.le_refl _) _
  have bac := below_then bb bc
  have z : intD.At Wa w.heap.size 0 := by
    rw [ha]
    exact ⟨cell_new w _ _ 0 rfl, cell_new w _ _ 1 rfl, cell_new w _ _ 2 rfl, cell_new w _ _ 3 rfl, cell_new w _ _ 4 rfl⟩
  have rb : Rd Wb 1 (some ⟨w.heap.size + 1, 0, none⟩) 3 (strs [[97], [99], [100]]) := by
    rw [hb, ← sa]; exact Rd.lit Wa #[.string ⟨#[97]⟩, .string ⟨#[99]⟩, .string ⟨#[100]⟩] 9 rfl
  have rc : Rd Wc 5 (some ⟨w.heap.size + 1 + 1, 0, none⟩) 3 (intCells 3) := by
    rw [hc, ← sb]; exact Rd.lit Wb #[.int .i64 1, .int .i64 0, .slice none 0 0, .slice none 0 0, .int .i64 (-1), .int .i64 1, .int .i64 0, .slice none 0 0, .slice none 0 0, .int .i64 (-1), .int .i64 1, .int .i64 0, .slice none 0 0, .slice none 0 0, .int .i64 (-1)] 25 rfl
  exact ⟨below_then ba bac, z.lower bac, rb.below bc, rc, by rw [hc]; simp [sb]⟩

set_option maxRecDepth 100000 in
set_option maxHeartbeats 1000000 in
theorem up_any (w : World) : Calls Tryd.prog 5 #[] w fun e w' => e = .returned (.bool true) ∧ Below w.heap.size w w' := by
  go_enter Tryd.func5, Tryd.ntmps5
  go_wp2_with fail
  generalize hWc : ((w.alloc (.cells #[.int .i64 1, .int .i64 0, .slice none 0 0, .slice none 0 0, .int .i64 (-1)] 25)).alloc (.cells #[.string ⟨#[97]⟩, .string ⟨#[99]⟩, .string ⟨#[100]⟩] 9)).alloc (.cells #[.int .i64 1, .int .i64 0, .slice none 0 0, .slice none 0 0, .int .i64 (-1), .int .i64 1, .int .i64 0, .slice none 0 0, .slice none 0 0, .int .i64 (-1), .int .i64 1, .int .i64 0, .slice none 0 0, .slice none 0 0, .int .i64 (-1)] 25) = Wc
  obtain ⟨bc, zc, rc, pc, sc⟩ := up_world w Wc hWc.symm
  have hI : (recTy (some ⟨w.heap.size + 1 + 1, 0, none⟩) 3 (some ⟨w.heap.size + 1, 0, none⟩) 3 [[97], [99], [100]] 5).In Wc := recTy_in (by decide) rc pc (by decide) (by decide) (by decide) (by decide)
  have hO : Calls Tryd.prog 7 #[.agg #[.int .i64 4, .int .i64 0, .slice (some ⟨w.heap.size + 1 + 1, 0, none⟩) 3 3, .slice (some ⟨w.heap.size + 1, 0, none⟩) 3 3, .int .i64 5], .string ⟨#[99]⟩] Wc fun e w' => e = .returned (.tuple #[.agg #[.int .i64 1, .int .i64 5, .string ⟨#[99]⟩], .nilIface]) ∧ Below Wc.heap.size Wc w' :=
    (of_row _ [99] Wc hI rfl (by simp) (recTy_may (by decide) order_acd (by decide) (by decide)) (by show (0 : Int) ≤ 5; decide)).mono fun e w' h => ⟨by rw [h.1]; show Ending.returned (.tuple #[.agg #[.int .i64 (offs [[97], [99], [100]] [99] : Nat), .int .i64 5, .string (bstr [99])], .nilIface]) = _; rw [offs_acd]; rfl, h.2⟩
  have HO := Lib.hid hO
  clear hO
  have HB := Lib.hid (And.intro bc zc)
  clear hWc bc zc rc pc sc hI
  refine HO.out.mono ?_
  rintro e w4 ⟨rfl, hb4⟩
  have H4 := Lib.hid (below_then HB.out.1 hb4)
  have z4 := HB.out.2.lower hb4
  have c0 : w4.cell? ⟨w.heap.size, 0, none⟩ = some (.int .i64 1) := z4.c0
  have c1 : w4.cell? ⟨w.heap.size, 1, none⟩ = some (.int .i64 0) := z4.c1
  have c2 : w4.cell? ⟨w.heap.size, 2, none⟩ = some (.slice none 0 0) := z4.c2
  have c3 : w4.cell? ⟨w.heap.size, 3, none⟩ = some (.slice none 0 0) := z4.c3
  have c4 : w4.cell? ⟨w.heap.size, 4, none⟩ = some (.int .i64 (-1)) := z4.c4
  have hl4 : w.heap.size < w4.heap.size := z4.lt
  clear HO hb4 z4 HB
  go_wp2_with fail
  have hb5 : Below w4.heap.size w4 (w4.alloc (.cells #[.int .i64 1, .int .i64 5, .string ⟨#[99]⟩] 27)) := (Below.refl _ _).alloc (Nat.le_refl _) _
  have e0 := cell_new w4 #[.int .i64 1, .int .i64 5, .string ⟨#[99]⟩] 27 0 rfl (fr := (0, 0))
  have e1 := cell_new w4 #[.int .i64 1, .int .i64 5, .string ⟨#[99]⟩] 27 1 rfl (fr := (0, 0))
  have e2 := cell_new w4 #[.int .i64 1, .int .i64 5, .string ⟨#[99]⟩] 27 2 rfl (fr := (0, 0))
  have hs5 : (w4.alloc (.cells #[.int .i64 1, .int .i64 5, .string ⟨#[99]⟩] 27)).heap.size = w4.heap.size + 1 := by simp
  have H5 := Lib.hid (And.intro (below_then H4.out hb5) (And.intro e0 (And.intro e1 (And.intro e2 hs5))))
  clear e0 e1 e2 hb5 hs5
  have HN := Lib.hid (of_int ⟨#[99]⟩ (w4.alloc (.cells #[.int .i64 1, .int .i64 5, .string ⟨#[99]⟩] 27)))
  generalize w4.alloc (.cells #[.int .i64 1, .int .i64 5, .string ⟨#[99]⟩] 27) = w5 at *
  obtain ⟨g, hg⟩ : ∃ g, w4.heap.size = g := ⟨_, rfl⟩
  rw [hg] at H5 ⊢
  clear c0 c1 c2 c3 c4 hl4
  refine HN.out.mono ?_
  rintro e w6 ⟨rfl, hb6⟩
  have e0 : w6.cell? ⟨g, 0, none⟩ = some (.int .i64 1) := cell_below hb6 H5.out.2.1
  have e1 : w6.cell? ⟨g, 1, none⟩ = some (.int .i64 5) := cell_below hb6 H5.out.2.2.1
  have e2 : w6.cell? ⟨g, 2, none⟩ = some (.string ⟨#[99]⟩) := cell_below hb6 H5.out.2.2.2.1
  have hl6 : g < w6.heap.size := by have h1 := H5.out.2.2.2.2; have h2 := hb6.size; omega
  have H6 := Lib.hid (below_then H5.out.1 hb6)
  clear HN hb6 H5
  go_wp2_with fail
  have H7 := Lib.hid (H6.out.alloc H6.out.size (.cells #[.int .i64 0, .int .i64 0, .string ⟨#[]⟩] 27))
  refine (name_5c _).mono ?_
  rintro e w8 ⟨rfl, hb8⟩
  have H8 := Lib.hid (below_then H7.out hb8)
  clear hb8
  go_wp2_with fail
  go_returns
  exact ⟨rfl, H8.out⟩
end Go.Proofs.YtlgmddnpmmggdaaDoor
