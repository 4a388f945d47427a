/-
  Two lists, one behind the other, by the library; the code's set of those of either.
-/
import Derived.Test.YtapdalddacegbaaLabelF
import Derived.Lib.AppendZeros
namespace Go.Proofs.Ytapdalddacegbaa
open Go.ChangeShapes Go.WideShapes Go.ChangeAt Go.RowKit
set_option linter.unusedVariables false

theorem grow_any (n : Nat) (w : World) (hm : n ≤ 100000) :
    Calls Try.prog 36 #[.slice none 0 0, .int .i64 n] w fun e w' => ∃ v, e = .returned v ∧ w'.ownsRow w.heap.size 9 1 v 0 [] ∧ Below w.heap.size w w' := by
  obtain ⟨i, hi, hz, hs, hb⟩ := info_parts elStr.info
  rcases Nat.eq_zero_or_pos n with rfl | h0
  · go_enter Try.func36, Try.ntmps36
    go_wp2_with fail
    go_returns
    exact ⟨_, rfl, World.ownsRow_nil _ _ _ _, Below.refl _ _⟩
  · have hrun := Lib.run_append_nil_zeros (P := Try.prog) w 22 3 22 9 i _ .i64 .i64 Try.underlying22 Try.underlying3 hi hz n h0 (by omega) (by omega) (by rw [hb]; omega)
    have HR := Lib.hid hrun
    clear hrun
    go_enter Try.func36, Try.ntmps36
    go_wp2_with (at_builtin; refine Lib.wpList_append_run _ rfl _ _ _ _ rfl _ _ rfl rfl _ _ HR.out ?_)
    go_returns
    have hge := grownCap_ge w n 0 9
    refine ⟨_, rfl, ?_, by go_grown⟩
    refine World.ownsRow.drew ⟨rfl, .inr ⟨w.heap.size, grownCap w n 0 9, _, rfl, Nat.le_refl _, heap_alloc_new w _, Nat.zero_le _, grownCap_le_maxLen w n 0 _ (by unfold maxLen; omega), ?_, by simp⟩⟩
    rw [Array.size_append, size_zeroCells, size_zeroCells]
    simp only [List.size_toArray, List.length_cons, List.length_nil, Nat.zero_add, Nat.mul_one]
    omega

/-- The first k of two lists. -/
def twoTo (a b : List Str) (k : Nat) : List Str := (if 1 ≤ k then a else []) ++ (if 2 ≤ k then b else [])

theorem concat_any (A B : Option Addr) (a b : List Str) (n c m d : Nat) (g o k : Nat) (w : World) (hr : Rd w 1 A n (strs a)) (hs : Rd w 1 B m (strs b)) (hm : n ≤ 1000) (hm2 : m ≤ 1000)
    (h0 : w.cell? ⟨g, o, none⟩ = some (.slice A n c)) (h1 : w.cell? ⟨g, o + 1, none⟩ = some (.slice B m d)) :
    Calls Try.prog 28 #[.slice (some ⟨g, o, none⟩) 2 k] w fun e w' => ∃ v, e = .returned v ∧ w'.ownsRow w.heap.size 9 1 v (a ++ b).length (strs (a ++ b)) ∧ Below w.heap.size w w' := by
  have hl := rd_len hr
  have hl2 := rd_len hs
  subst hl
  subst hl2
  go_enter Try.func28, Try.ntmps28
  go_wp2_with fail
  go_loopw [3, 11] (fun z i wr => ∃ j q : Nat, z = .int .i64 q ∧ i = .int .i64 j ∧ j ≤ 2 ∧ q = (twoTo a b j).length ∧ Below w.heap.size w wr) (fun _ i _ => 2 - (intOf i).toNat)
  case atStart => exact ⟨0, 0, rfl, rfl, by omega, rfl, Below.refl _ _⟩
  case round =>
    obtain ⟨j, q, rfl, rfl, hj, hq, hb⟩ := hrel
    have c0 := cell_below hb h0
    have c1 := cell_below hb h1
    match j, hj with
    | 0, _ =>
      obtain rfl : q = 0 := hq
      go_wp2_with fail
      go_roundw
      case rel => exact ⟨1, a.length, by go_num, rfl, by omega, by simp [twoTo], hb⟩
      case measure => simp [intOf]
    | 1, _ =>
      obtain rfl : q = a.length := by simpa [twoTo] using hq
      go_wp2_with fail
      go_roundw
      case rel => exact ⟨2, a.length + b.length, by go_num, rfl, by omega, by simp [twoTo], hb⟩
      case measure => simp [intOf]
    | 2, _ =>
      obtain rfl : q = a.length + b.length := by simpa [twoTo] using hq
      clear hq
      go_wp2_with fail
      refine (grow_any (a.length + b.length) _ (by omega)).mono ?_
      rintro e w1 ⟨v1, rfl, hown1, hb1⟩
      have hb1' := hb.trans (hb1.mono hb.size)
      have hown1 := own_mono hown1 hb.size
      clear hb1 c0 c1 hb
      go_wp2_with fail
      go_loopw [6, 27] (fun z i wr => ∃ j : Nat, i = .int .i64 j ∧ j ≤ 2 ∧ wr.ownsRow w.heap.size 9 1 z (twoTo a b j).length (strs (twoTo a b j)) ∧ Below w.heap.size w wr) (fun _ i _ => 2 - (intOf i).toNat)
      case atStart => exact ⟨0, rfl, by omega, hown1, hb1'⟩
      case round =>
        clear hown1 hb1'
        obtain ⟨j, rfl, hj, hown, hb⟩ := hrel
        have c0 := cell_below hb h0
        have c1 := cell_below hb h1
        match j, hj with
        | 0, _ =>
          go_wp2_with (at_builtin; refine wpList_app elStr _ rfl (.tmp 31) (.tmp 32) rfl w.heap.size u6 0 [] rfl hown A a.length c (strs a) rfl (hr.below hb) (strs_one _) (by omega) hb.size ?_; intro v4 w4 hown4 hb4 _ _)
          go_roundw
          case rel => exact ⟨1, rfl, by omega, by simpa [twoTo] using hown4, hb.trans hb4⟩
          case measure => simp [intOf]
        | 1, _ =>
          have et : twoTo a b 1 = a := by simp [twoTo]
          rw [et] at hown
          go_wp2_with (at_builtin; refine wpList_app elStr _ rfl (.tmp 31) (.tmp 32) rfl w.heap.size u6 a.length (strs a) rfl hown B b.length d (strs b) rfl (hs.below hb) (strs_one _) (by omega) hb.size ?_; intro v4 w4 hown4 hb4 _ _)
          go_roundw
          case rel => exact ⟨2, rfl, by omega, by simpa [twoTo, strs_append] using hown4, hb.trans hb4⟩
          case measure => simp [intOf]
        | 2, _ =>
          have et : twoTo a b 2 = a ++ b := by simp [twoTo]
          rw [et] at hown
          go_wp2_with fail
          go_returns
          exact ⟨_, rfl, hown, hb⟩

theorem join_any (A B : Option Addr) (a b : List Str) (n c m d : Nat) (w : World) (hr : Rd w 1 A n (strs a)) (hs : Rd w 1 B m (strs b)) (hm : n ≤ 1000) (hm2 : m ≤ 1000) :
    Calls Try.prog 16 #[.slice A n c, .slice B m d] w fun e w' => ∃ v, e = .returned v ∧ w'.ownsRow w.heap.size 9 1 v (setOf (a ++ b)).length (strs (setOf (a ++ b))) ∧ Below w.heap.size w w' := by
  have hl := rd_len hr
  have hl2 := rd_len hs
  go_enter Try.func16, Try.ntmps16
  go_wp2_with fail
  have hp0 : (w.alloc (.cells #[.slice A n c, .slice B m d] 22)).cell? ⟨w.heap.size, 0, none⟩ = some (.slice A n c) := cell_new w _ _ 0 rfl
  have hp1 : (w.alloc (.cells #[.slice A n c, .slice B m d] 22)).cell? ⟨w.heap.size, 0 + 1, none⟩ = some (.slice B m d) := cell_new w _ _ 1 rfl
  refine (concat_any A B a b n c m d w.heap.size 0 2 _ (hr.alloc _) (hs.alloc _) hm hm2 hp0 hp1).mono ?_
  rintro e w1 ⟨v1, rfl, hown1, hb1⟩
  have hb0 : Below w.heap.size w w1 := below_then ((Below.refl _ _).alloc (Nat.le_refl _) _) hb1
  have hN : (a ++ b).length ≤ 2000 := by rw [List.length_append]; omega
  generalize (a ++ b).length = N at hown1 hN
  obtain ⟨A1, c1, rfl, hle1, _, _⟩ := own_cap hown1
  go_wp2_with fail
  refine (of_any A1 (a ++ b) N c1 _ (Rd.of_own hown1) (by omega)).mono ?_
  rintro e w2 ⟨v2, rfl, hown2, hb2⟩
  go_wp2_with fail
  go_returns
  exact ⟨_, rfl, own_mono hown2 hb0.size, below_then hb0 hb2⟩
end Go.Proofs.Ytapdalddacegbaa
