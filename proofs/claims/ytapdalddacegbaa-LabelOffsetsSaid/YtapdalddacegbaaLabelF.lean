/-
  The code's sets: those of a list for which a function holds; those that aren't in another, those of both, those of either.
-/
import Derived.Test.YtapdalddacegbaaLabelE
namespace Go.Proofs.Ytapdalddacegbaa
open Go.ChangeShapes Go.WideShapes Go.ChangeAt Go.RowKit
set_option linter.unusedVariables false

theorem filter_take (p : Str → Bool) (a : List Str) (k : Nat) (h : k < a.length) : (a.take (k + 1)).filter p = (a.take k).filter p ++ (if p a[k] = true then [a[k]] else []) := by
  rw [List.take_succ_eq_append_getElem h, List.filter_append]
  congr 1
  by_cases hx : p a[k] = true <;> simp [hx]
theorem filter_len (p : Str → Bool) (a : List Str) (k : Nat) : ((a.take k).filter p).length ≤ k := Nat.le_trans (List.length_filter_le _ _) (List.length_take_le _ _)

theorem chosenLess_any (box : Value) (p : Str → Bool) (A : Option Addr) (l : List Str) (n c : Nat) (w : World) (hr : Rd w 1 A n (strs l)) (hm : n ≤ 100000)
    (hf : ∀ (w1 : World) (s : Str), Below w.heap.size w w1 → Calls Try.prog 30 #[.string (bstr s), box] w1 fun e w' => e = .returned (.bool (p s)) ∧ Below w1.heap.size w1 w') :
    Calls Try.prog 29 #[.slice A n c, .func (.func 30) #[] #[box]] w fun e w' => ∃ v, e = .returned v ∧ w'.ownsRow w.heap.size 9 1 v (l.filter p).length (strs (l.filter p)) ∧ Below w.heap.size w w' := by
  have hl := rd_len hr
  subst hl
  have HF := Lib.hid hf
  clear hf
  go_enter Try.func29, Try.ntmps29
  go_wp2_with fail
  go_loopw [5, 10] (fun v i wr => ∃ k : Nat, i = .int .i64 k ∧ k ≤ l.length ∧ wr.ownsRow w.heap.size 9 1 v ((l.take k).filter p).length (strs ((l.take k).filter p)) ∧ Below w.heap.size w wr) (fun _ i _ => l.length - (intOf i).toNat)
  case atStart => exact ⟨0, rfl, by omega, by simpa [strs] using World.ownsRow_nil _ _ _ _, Below.refl _ _⟩
  case round =>
    obtain ⟨k, rfl, hk, hown, hb⟩ := hrel
    by_cases hlt : k < l.length
    · obtain ⟨ab, o, rfl, hc⟩ := (hr.below hb).str (k := k) hlt
      have hc1 := hc k hlt
      have hlk := filter_len p l k
      have hst := filter_take p l k hlt
      clear hc hr
      cases hx : p l[k] with
      | false =>
        rw [hx] at hst
        simp only [Bool.false_eq_true, if_false, List.append_nil] at hst
        have HS := Lib.hid hst
        have HX := Lib.hid hx
        clear hst hx
        go_wp2_with fail
        refine (HF.out _ l[k] hb).mono ?_
        rw [HX.out]
        rintro e w1 ⟨rfl, hb1⟩
        have hown1 := own_below hown hb1
        go_wp2_with fail
        go_roundw
        case rel => exact ⟨k + 1, by go_num, by omega, by rw [HS.out]; exact hown1, hb.trans (hb1.mono hb.size)⟩
        case measure => simp [intOf] <;> omega
      | true =>
        rw [hx, if_pos rfl] at hst
        have HS := Lib.hid hst
        have HX := Lib.hid hx
        clear hst hx
        go_wp2_with fail
        refine (HF.out _ l[k] hb).mono ?_
        rw [HX.out]
        rintro e w1 ⟨rfl, hb1⟩
        have hown1 := own_below hown hb1
        have hb1' := hb.trans (hb1.mono hb.size)
        clear hb1 hown hc1
        go_wp2_with (at_builtin; refine wpList_app elStr _ rfl (.tmp 17) (.tmp 19) rfl w.heap.size u5 ((l.take k).filter p).length _ rfl (hown1.alloc _) (some ⟨w1.heap.size, 0, none⟩) 1 1 _ rfl (Rd.lit w1 _ _ rfl) (strs_one [l[k]]) (by omega) (by have := hb1'.size; simp; omega) ?_; intro v4 w4 hown4 hb4 _ _)
        go_roundw
        case rel => exact ⟨k + 1, by go_num, by omega, by rw [HS.out, List.length_append, strs_append]; exact hown4, (hb1'.alloc hb1'.size _).trans hb4⟩
        case measure => simp [intOf] <;> omega
    · go_wp2_with fail
      go_returns
      obtain rfl : k = l.length := by omega
      rw [List.take_length] at hown
      exact ⟨_, rfl, hown, hb⟩

theorem chosenMeet_any (box : Value) (p : Str → Bool) (A : Option Addr) (l : List Str) (n c : Nat) (w : World) (hr : Rd w 1 A n (strs l)) (hm : n ≤ 100000)
    (hf : ∀ (w1 : World) (s : Str), Below w.heap.size w w1 → Calls Try.prog 31 #[.string (bstr s), box] w1 fun e w' => e = .returned (.bool (p s)) ∧ Below w1.heap.size w1 w') :
    Calls Try.prog 29 #[.slice A n c, .func (.func 31) #[] #[box]] w fun e w' => ∃ v, e = .returned v ∧ w'.ownsRow w.heap.size 9 1 v (l.filter p).length (strs (l.filter p)) ∧ Below w.heap.size w w' := by
  have hl := rd_len hr
  subst hl
  have HF := Lib.hid hf
  clear hf
  go_enter Try.func29, Try.ntmps29
  go_wp2_with fail
  go_loopw [5, 10] (fun v i wr => ∃ k : Nat, i = .int .i64 k ∧ k ≤ l.length ∧ wr.ownsRow w.heap.size 9 1 v ((l.take k).filter p).length (strs ((l.take k).filter p)) ∧ Below w.heap.size w wr) (fun _ i _ => l.length - (intOf i).toNat)
  case atStart => exact ⟨0, rfl, by omega, by simpa [strs] using World.ownsRow_nil _ _ _ _, Below.refl _ _⟩
  case round =>
    obtain ⟨k, rfl, hk, hown, hb⟩ := hrel
    by_cases hlt : k < l.length
    · obtain ⟨ab, o, rfl, hc⟩ := (hr.below hb).str (k := k) hlt
      have hc1 := hc k hlt
      have hlk := filter_len p l k
      have hst := filter_take p l k hlt
      clear hc hr
      cases hx : p l[k] with
      | false =>
        rw [hx] at hst
        simp only [Bool.false_eq_true, if_false, List.append_nil] at hst
        have HS := Lib.hid hst
        have HX := Lib.hid hx
        clear hst hx
        go_wp2_with fail
        refine (HF.out _ l[k] hb).mono ?_
        rw [HX.out]
        rintro e w1 ⟨rfl, hb1⟩
        have hown1 := own_below hown hb1
        go_wp2_with fail
        go_roundw
        case rel => exact ⟨k + 1, by go_num, by omega, by rw [HS.out]; exact hown1, hb.trans (hb1.mono hb.size)⟩
        case measure => simp [intOf] <;> omega
      | true =>
        rw [hx, if_pos rfl] at hst
        have HS := Lib.hid hst
        have HX := Lib.hid hx
        clear hst hx
        go_wp2_with fail
        refine (HF.out _ l[k] hb).mono ?_
        rw [HX.out]
        rintro e w1 ⟨rfl, hb1⟩
        have hown1 := own_below hown hb1
        have hb1' := hb.trans (hb1.mono hb.size)
        clear hb1 hown hc1
        go_wp2_with (at_builtin; refine wpList_app elStr _ rfl (.tmp 17) (.tmp 19) rfl w.heap.size u5 ((l.take k).filter p).length _ rfl (hown1.alloc _) (some ⟨w1.heap.size, 0, none⟩) 1 1 _ rfl (Rd.lit w1 _ _ rfl) (strs_one [l[k]]) (by omega) (by have := hb1'.size; simp; omega) ?_; intro v4 w4 hown4 hb4 _ _)
        go_roundw
        case rel => exact ⟨k + 1, by go_num, by omega, by rw [HS.out, List.length_append, strs_append]; exact hown4, (hb1'.alloc hb1'.size _).trans hb4⟩
        case measure => simp [intOf] <;> omega
    · go_wp2_with fail
      go_returns
      obtain rfl : k = l.length := by omega
      rw [List.take_length] at hown
      exact ⟨_, rfl, hown, hb⟩

theorem lessFn_any (B : Option Addr) (b : List Str) (m d : Nat) (p : Addr) (s : Str) (w : World) (hs : Rd w 1 B m (strs b)) (hm : m ≤ 100000) (ho : inOrder b) (hp : w.cell? p = some (.slice B m d)) :
    Calls Try.prog 30 #[.string (bstr s), .pointer (some p)] w fun e w' => e = .returned (.bool (!decide (s ∈ b))) ∧ Below w.heap.size w w' := by
  go_enter Try.func30, Try.ntmps30
  go_wp2_with fail
  refine (has_any B b s m d _ hs hm ho).mono ?_
  rintro e w1 ⟨rfl, hb1⟩
  go_wp2_with fail
  go_returns
  exact ⟨rfl, hb1⟩

theorem meetFn_any (B : Option Addr) (b : List Str) (m d : Nat) (p : Addr) (s : Str) (w : World) (hs : Rd w 1 B m (strs b)) (hm : m ≤ 100000) (ho : inOrder b) (hp : w.cell? p = some (.slice B m d)) :
    Calls Try.prog 31 #[.string (bstr s), .pointer (some p)] w fun e w' => e = .returned (.bool (decide (s ∈ b))) ∧ Below w.heap.size w w' := by
  go_enter Try.func31, Try.ntmps31
  go_wp2_with fail
  refine (has_any B b s m d _ hs hm ho).mono ?_
  rintro e w1 ⟨rfl, hb1⟩
  go_wp2_with fail
  go_returns
  exact ⟨rfl, hb1⟩

theorem less_any (A B : Option Addr) (a b : List Str) (n c m d : Nat) (w : World) (hr : Rd w 1 A n (strs a)) (hs : Rd w 1 B m (strs b)) (hm : n ≤ 100000) (hm2 : m ≤ 100000) (ho : inOrder b) :
    Calls Try.prog 18 #[.slice A n c, .slice B m d] w fun e w' => ∃ v, e = .returned v ∧ w'.ownsRow w.heap.size 9 1 v (lessL a b).length (strs (lessL a b)) ∧ Below w.heap.size w w' := by
  go_enter Try.func18, Try.ntmps18
  go_wp2_with fail
  have hb0 : Below w.heap.size w (w.alloc (.cells #[.slice B m d] 22)) := (Below.refl _ _).alloc (Nat.le_refl _) _
  have hp0 : (w.alloc (.cells #[.slice B m d] 22)).cell? ⟨w.heap.size, 0, none⟩ = some (.slice B m d) := cell_new w _ _ 0 rfl
  refine (chosenLess_any _ (fun s => !decide (s ∈ b)) A a n c _ (hr.alloc _) hm (fun w1 s hb => lessFn_any B b m d _ s w1 ((hs.alloc _).below hb) hm2 ho (cell_below hb hp0))).mono ?_
  rintro e w1 ⟨v1, rfl, hown1, hb1⟩
  go_wp2_with fail
  go_returns
  exact ⟨_, rfl, own_mono hown1 hb0.size, below_then hb0 hb1⟩

theorem meet_any (A B : Option Addr) (a b : List Str) (n c m d : Nat) (w : World) (hr : Rd w 1 A n (strs a)) (hs : Rd w 1 B m (strs b)) (hm : n ≤ 100000) (hm2 : m ≤ 100000) (ho : inOrder b) :
    Calls Try.prog 20 #[.slice A n c, .slice B m d] w fun e w' => ∃ v, e = .returned v ∧ w'.ownsRow w.heap.size 9 1 v (meetL a b).length (strs (meetL a b)) ∧ Below w.heap.size w w' := by
  go_enter Try.func20, Try.ntmps20
  go_wp2_with fail
  have hb0 : Below w.heap.size w (w.alloc (.cells #[.slice B m d] 22)) := (Below.refl _ _).alloc (Nat.le_refl _) _
  have hp0 : (w.alloc (.cells #[.slice B m d] 22)).cell? ⟨w.heap.size, 0, none⟩ = some (.slice B m d) := cell_new w _ _ 0 rfl
  refine (chosenMeet_any _ (fun s => decide (s ∈ b)) A a n c _ (hr.alloc _) hm (fun w1 s hb => meetFn_any B b m d _ s w1 ((hs.alloc _).below hb) hm2 ho (cell_below hb hp0))).mono ?_
  rintro e w1 ⟨v1, rfl, hown1, hb1⟩
  go_wp2_with fail
  go_returns
  exact ⟨_, rfl, own_mono hown1 hb0.size, below_then hb0 hb1⟩

end Go.Proofs.Ytapdalddacegbaa
