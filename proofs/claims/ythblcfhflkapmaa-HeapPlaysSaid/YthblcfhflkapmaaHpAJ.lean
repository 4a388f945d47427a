/-
  The law's functions: up.
-/
import Derived.Test.YthblcfhflkapmaaHpAI
import Derived.Test.YthblcfhflkapmaaWordA
namespace Go.Proofs.Ythblcfhflkapmaa
open Go Go.ChangeShapes Go.WideShapes Go.ChangeAt Go.RowKit Go.Sort
set_option linter.unusedVariables false
set_option linter.unusedSimpArgs false
attribute [local irreducible] Go.wpQuiet

/-- A literal of one word. -/
theorem rd_one (w : World) (u : Wd) : Rd (w.alloc (.cells #[.bool u.ptr, .int .i64 u.v] WTy)) 2 (some ⟨w.heap.size, 0, none⟩) 1 (wcells [u]) :=
  Rd.of_own (World.ownsRow_lit w #[.bool u.ptr, .int .i64 u.v] 1 (e := WTy) (size := 2) (base := w.heap.size) (by simp) (by simp [maxLen]) rfl)
abbrev L1 : List Ob := [] ++ [((1 : Int), [(⟨false, 5⟩ : Wd)])]
abbrev L2 : List Ob := L1 ++ [((2 : Int), [])]
theorem up_coll : collO L2 [⟨true, 2⟩] = [(2, [])] ∧ collR L2 [⟨true, 2⟩] = [⟨true, 0⟩] := by decide
theorem up_fine : ∀ u ∈ [(⟨true, 2⟩ : Wd)], Fine L2 u := fun u hu => by
  rw [List.mem_singleton.1 hu]
  exact fun _ => ⟨1, by decide⟩
theorem up_wf : Wf L2 := ((Wf.nil.app (o := ((1 : Int), [(⟨false, 5⟩ : Wd)])) (fun u hu => by rw [List.mem_singleton.1 hu]; exact fun e => nomatch e) (by simp)).app (o := ((2 : Int), [])) (fun u hu => nomatch hu) (by simp))
set_option maxRecDepth 100000 in
set_option maxHeartbeats 4000000 in
theorem up_any (w : World) : Calls Try.prog 5 #[] w fun e w' => e = .returned (.bool true) ∧ Below w.heap.size w w' := by
  have HN := Lib.hid (New_yes 10 (by omega) (by omega) w)
  go_enter Try.func5, Try.ntmps5
  go_upto_region 2 with (go_at_call 6; (with_reducible refine HN.out.mono ?_); rintro e w1 ⟨rfl, hc1, hb1⟩; have H1 := Lib.hid (And.intro hc1 hb1); clear hc1 hb1)
  have HN0 := Lib.hid (New_no 0 (by omega) w1)
  go_upto_region 5 with (go_at_call 6; (with_reducible refine HN0.out.mono ?_); rintro e w2 ⟨rfl, rfl⟩)
  have hA : Below w1.heap.size w1 (w1.alloc (.cells #[.bool false, .int .i64 5] 36)) := (Below.refl _ _).alloc (Nat.le_refl _) _
  have hMk := Make_room (l := [⟨false, 5⟩]) (roots := []) (H1.out.1.below hA) (by have := hA.size; have := H1.out.2.size; omega) (by decide) (by omega) 1 (by decide) (some ⟨w1.heap.size, 0, none⟩) none 1 0 (rd_one w1 ⟨false, 5⟩) (Rd.nil _ _ _) (by decide) (fun u hu => by rw [List.mem_singleton.1 hu]; exact fun e => nomatch e) (fun u hu => nomatch hu) (by decide)
  simp only [List.length_cons, List.length_nil, Nat.zero_add] at hMk
  have HMk := Lib.hid hMk
  have HA := Lib.hid (below_then H1.out.2 hA)
  clear hA hMk
  go_upto_region 6 with (go_at_call 9; (with_reducible refine HMk.out.mono ?_); rintro e w3 ⟨vl, vr, V1, G1, rfl, hc3, _, _, _, hb3⟩; have H3 := Lib.hid (And.intro hc3 (HA.out.trans hb3)); clear hc3 hb3)
  have hMl := Make_room (l := []) (roots := []) H3.out.1 (by have := H3.out.2.size; omega) (by decide) (by omega) 2 (by decide) none none 0 0 (Rd.nil _ _ _) (Rd.nil _ _ _) (by decide) (fun u hu => nomatch hu) (fun u hu => nomatch hu) (by decide)
  simp only [List.length_nil, show ((sizes ([] ++ [((1 : Int), [(⟨false, 5⟩ : Wd)])]) : Nat) : Int) = 2 from rfl] at hMl
  have HMl := Lib.hid hMl
  clear hMl
  go_upto_region 7 with (go_at_call 9; (with_reducible refine HMl.out.mono ?_); rintro e w4 ⟨vl2, vr2, V2, G2, rfl, hc4, _, _, _, hb4⟩; have H4 := Lib.hid (And.intro hc4 (H3.out.2.trans hb4)); clear hc4 hb4)
  have HAt := Lib.hid (at_any 2 w4)
  have HCo := Lib.hid (fun (w5 : World) (hb5 : Below w4.heap.size w4 w5) => Collect_any (roots := [⟨true, 2⟩]) ((H4.out.1.below hb5).below ((Below.refl _ _).alloc (Nat.le_refl _) (.cells #[.bool true, .int .i64 2] WTy))) up_wf (by decide) (by have := H4.out.2.size; have := (hb5.alloc hb5.size (.cells #[.bool true, .int .i64 2] WTy)).size; omega) (by omega) (some ⟨w5.heap.size, 0, none⟩) 1 (rd_one w5 ⟨true, 2⟩) up_fine (by decide))
  simp only [List.length_cons, List.length_nil, Nat.zero_add, up_coll.1, up_coll.2] at HCo
  go_upto_region 8 with (first
    | (go_at_call 14; (with_reducible refine HAt.out.mono ?_); rintro e w5 ⟨rfl, hb5⟩; have H5 := Lib.hid (And.intro (HCo.out w5 hb5) (H4.out.2.trans (((hb5.alloc hb5.size (.cells #[.bool true, .int .i64 2] WTy)).mono H4.out.2.size)))); clear hb5)
    | (go_at_call 21; (with_reducible refine H5.out.1.mono ?_); rintro e w6 ⟨v, V6, G6, V6', G6', rfl, hc6, ho6, _, _, hb6⟩; have H6 := Lib.hid (And.intro hc6 (And.intro ho6 (H5.out.2.trans hb6))); clear hc6 ho6 hb6))
  obtain ⟨q, cap, e⟩ := own_some H6.out.2.1
  subst e
  obtain ⟨c0, c1, _, _⟩ := own_word H6.out.2.1 (k := 0) (u := ⟨true, 0⟩) rfl
  simp only [Nat.zero_mul, Nat.zero_add] at c0 c1
  have k0 := cell_regrown c0
  have k1 := cell_regrown c1
  have HA2 := Lib.hid (fun d os => Calls.regrown_of (at_any 0 (grow (redrawn w6 d) os)))
  have HU := Lib.hid (fun d os => Calls.regrown_of (Calls.mono (used_any (H6.out.1.below (below_regrown w6 d os))) (fun e w' h => ⟨h.1, h.2 ▸ Below.refl _ _⟩)))
  have HR := Lib.hid (fun d os => Calls.regrown_of (Calls.mono (runs_any (H6.out.1.below (below_regrown w6 d os))) (fun e w' h => ⟨h.1, h.2 ▸ Below.refl _ _⟩)))
  clear c0 c1
  refine wp_region_quiet_below (by kernel_rfl) (by kernel_rfl) ?_
  repeat (quiet_step (first | (go_at_call 14; with_reducible exact HA2.out _ _) | (go_at_call 26; with_reducible exact HU.out _ _) | (go_at_call 27; with_reducible exact HR.out _ _)))
  refine wpQuiet_nil ?_
  intro _ hw'
  obtain ⟨⟨dq, osq⟩, hw''⟩ := hw'
  subst hw''
  have HQ := Lib.hid (below_regrown w6 dq osq)
  go_wp2_with fail
  go_returns
  exact ⟨rfl, H6.out.2.2.trans (HQ.out.mono H6.out.2.2.size)⟩
end Go.Proofs.Ythblcfhflkapmaa
