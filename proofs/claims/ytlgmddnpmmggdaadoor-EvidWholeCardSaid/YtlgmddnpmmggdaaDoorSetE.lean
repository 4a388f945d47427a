/-
  The document's sets: the set of a list, those of either, those that aren't in another, those of both.
-/
import Derived.Test.YtlgmddnpmmggdaaDoorSetD
namespace Go.Proofs.YtlgmddnpmmggdaaDoor
open Go.ChangeShapes Go.WideShapes Go.ChangeAt Go.RowKit
set_option linter.unusedVariables false

theorem refOf_any (A : Option Addr) (l : List Str) (n c : Nat) (w : World) (hr : Rd w 1 A n (strs l)) (hm : n ≤ 4000000) :
    Calls Tryd.prog 17 #[.slice A n c] w fun e w' => ∃ v, e = .returned v ∧ w'.ownsRow w.heap.size 9 1 v (setOf l).length (strs (setOf l)) ∧ Below w.heap.size w w' := by
  have hl := rd_len hr
  subst hl
  go_enter Tryd.func17, Tryd.ntmps17
  go_wp2_with fail
  go_loopw [3, 4] (fun v i wr => ∃ k : Nat, i = .int .i64 k ∧ k ≤ l.length ∧ wr.ownsRow w.heap.size 9 1 v (ofTo l k).length (strs (ofTo l k)) ∧ Below w.heap.size w wr) (fun _ i _ => l.length - (intOf i).toNat)
  case atStart => exact ⟨0, rfl, by omega, World.ownsRow_nil _ _ _ _, Below.refl _ _⟩
  case round =>
    obtain ⟨k, rfl, hk, hown, hb⟩ := hrel
    by_cases hlt : k < l.length
    · obtain ⟨b, o, rfl, hc⟩ := (hr.below hb).str (k := k) hlt
      have hc1 := hc k hlt
      have hlk := ofTo_length l k hk
      have hs := ofTo_succ l k hlt
      have HS := Lib.hid hs
      clear hc hr hs
      go_wp2_with fail
      refine (refAdd_any _ w.heap.size _ (ofTo l k) l[k] hown hb.size (by omega)).mono ?_
      rintro e w1 ⟨v1, rfl, hown1, hb1⟩
      go_wp2_with fail
      go_roundw
      case rel => exact ⟨k + 1, by go_num, by omega, by rw [HS.out]; exact hown1, hb.trans (hb1.mono hb.size)⟩
      case measure => simp [intOf] <;> omega
    · go_wp2_with fail
      go_returns
      obtain rfl : k = l.length := by omega
      rw [ofTo_all] at hown
      exact ⟨_, rfl, hown, hb⟩

theorem lessL_take (a b : List Str) (k : Nat) (h : k < a.length) : lessL (a.take (k + 1)) b = lessL (a.take k) b ++ (if a[k] ∈ b then [] else [a[k]]) := by
  unfold lessL
  rw [List.take_succ_eq_append_getElem h, List.filter_append]
  congr 1
  by_cases hx : a[k] ∈ b <;> simp [hx]
theorem lessL_len (a b : List Str) (k : Nat) : (lessL (a.take k) b).length ≤ k := Nat.le_trans (List.length_filter_le _ _) (List.length_take_le _ _)
theorem refLess_any (A B : Option Addr) (a b : List Str) (n c m d : Nat) (w : World) (hr : Rd w 1 A n (strs a)) (hs : Rd w 1 B m (strs b)) (hm : n ≤ 4000000) (hm2 : m ≤ 4000000) :
    Calls Tryd.prog 18 #[.slice A n c, .slice B m d] w fun e w' => ∃ v, e = .returned v ∧ w'.ownsRow w.heap.size 9 1 v (lessL a b).length (strs (lessL a b)) ∧ Below w.heap.size w w' := by
  have hl := rd_len hr
  subst hl
  go_enter Tryd.func18, Tryd.ntmps18
  go_wp2_with fail
  go_loopw [5, 6] (fun v i wr => ∃ k : Nat, i = .int .i64 k ∧ k ≤ a.length ∧ wr.ownsRow w.heap.size 9 1 v (lessL (a.take k) b).length (strs (lessL (a.take k) b)) ∧ Below w.heap.size w wr) (fun _ i _ => a.length - (intOf i).toNat)
  case atStart => exact ⟨0, rfl, by omega, by simpa [lessL, strs] using World.ownsRow_nil _ _ _ _, Below.refl _ _⟩
  case round =>
    obtain ⟨k, rfl, hk, hown, hb⟩ := hrel
    by_cases hlt : k < a.length
    · obtain ⟨ab, o, rfl, hc⟩ := (hr.below hb).str (k := k) hlt
      have hc1 := hc k hlt
      have hlk := lessL_len a b k
      have hst := lessL_take a b k hlt
      clear hc hr
      by_cases hx : a[k] ∈ b
      · have HX := Lib.hid hx
        rw [if_pos hx, List.append_nil] at hst
        have HS := Lib.hid hst
        clear hst hx
        go_wp2_with fail
        refine (refHas_any B b a[k] m d _ (hs.below hb) (by unfold maxLen; omega)).mono ?_
        rw [decide_eq_true HX.out]
        rintro e w1 ⟨rfl, hb1⟩
        have hown1 := own_below hown (hb1)
        go_wp2_with fail
        go_roundw
        case rel => exact ⟨k + 1, by go_num, by omega, by rw [HS.out]; exact hown1, hb.trans (hb1.mono hb.size)⟩
        case measure => simp [intOf] <;> omega
      · have HX := Lib.hid hx
        rw [if_neg hx] at hst
        have HS := Lib.hid hst
        clear hst hx
        go_wp2_with fail
        refine (refHas_any B b a[k] m d _ (hs.below hb) (by unfold maxLen; omega)).mono ?_
        rw [decide_eq_false HX.out]
        rintro e w1 ⟨rfl, hb1⟩
        have hown1 := own_below hown hb1
        have hb1' := hb.trans (hb1.mono hb.size)
        have hc2 := cell_below hb1 hc1
        clear hb1 hown hc1
        go_wp2_with (at_builtin; refine wpList_app elStr _ rfl (.tmp 22) (.tmp 27) rfl w.heap.size u5 (lessL (a.take k) b).length _ rfl (hown1.alloc _) (some ⟨w1.heap.size, 0, none⟩) 1 1 _ rfl (Rd.lit w1 _ _ rfl) (strs_one [a[k]]) (by omega) (by have := hb1'.size; simp; omega) ?_; intro v4 w4 hown4 hb4 _ _)
        go_roundw
        case rel => exact ⟨k + 1, by go_num, by omega, by rw [HS.out, List.length_append, strs_append]; exact hown4, (hb1'.alloc hb1'.size _).trans hb4⟩
        case measure => simp [intOf] <;> omega
    · go_wp2_with fail
      go_returns
      obtain rfl : k = a.length := by omega
      rw [List.take_length] at hown
      exact ⟨_, rfl, hown, hb⟩

theorem refJoin_any (A B : Option Addr) (a b : List Str) (n c m d : Nat) (w : World) (hr : Rd w 1 A n (strs a)) (hs : Rd w 1 B m (strs b)) (hm : n ≤ 1000) (hm2 : m ≤ 1000) :
    Calls Tryd.prog 19 #[.slice A n c, .slice B m d] w fun e w' => ∃ v, e = .returned v ∧ w'.ownsRow w.heap.size 9 1 v (setOf (a ++ b)).length (strs (setOf (a ++ b))) ∧ Below w.heap.size w w' := by
  have hl := rd_len hr
  have hl2 := rd_len hs
  subst hl
  subst hl2
  go_enter Tryd.func19, Tryd.ntmps19
  go_wp2_with (first
    | (at_builtin
       have hb3' : Below w.heap.size w w3 := ((Below.refl _ _).alloc (Nat.le_refl _) _).trans hb3
       refine wpList_app elStr _ rfl (.tmp 7) (.tmp 8) rfl w.heap.size v3 a.length _ rfl hown3 B b.length d (strs b) rfl (hs.below hb3') (strs_one _) (by omega) hb3'.size ?_; intro v4 w4 hown4 hb4 _ _)
    | (at_builtin; refine wpList_app elStr _ rfl (.tmp 5) (.tmp 6) rfl w.heap.size (.slice (some ⟨w.heap.size, 0, none⟩) 0 0) 0 [] rfl (World.ownsRow_lit w #[] 0 (by simp) (by simp [maxLen]) rfl) A a.length c (strs a) rfl (hr.alloc _) (strs_one _) (by omega) (by simp) ?_; intro v3 w3 hown3 hb3 _ _; rw [Nat.zero_add] at hown3))
  rw [List.nil_append, ← strs_append, ← List.length_append] at hown4
  obtain ⟨A4, c4, rfl, hle4, _, _⟩ := own_cap hown4
  have hb4' := hb3'.trans hb4
  refine (refOf_any A4 (a ++ b) _ c4 _ (Rd.of_own hown4) (by rw [List.length_append]; omega)).mono ?_
  rintro e w5 ⟨v5, rfl, hown5, hb5⟩
  go_wp2_with fail
  go_returns
  exact ⟨_, rfl, own_mono hown5 hb4'.size, below_then hb4' hb5⟩
end Go.Proofs.YtlgmddnpmmggdaaDoor
