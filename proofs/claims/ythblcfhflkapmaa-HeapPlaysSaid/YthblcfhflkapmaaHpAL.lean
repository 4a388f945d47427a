/-
  The law's functions: walk.
-/
import Derived.Test.YthblcfhflkapmaaHpAK
namespace Go.Proofs.Ythblcfhflkapmaa
open Go Go.ChangeShapes Go.WideShapes Go.ChangeAt Go.RowKit Go.Sort
set_option linter.unusedVariables false
set_option linter.unusedSimpArgs false

section
variable {w : World} {B hb : Nat} {size runs : Int} {L : List Ob} {V G V' G' : Value}
/-- What is told behind k words. -/
def wkX (L : List Ob) (far : Nat) (o : Ob) (k : Nat) : List Int := [1, o.1, (o.2.length : Int)] ++ (o.2.take k).flatMap (walkP L far)
theorem wkX_step {L : List Ob} {far : Nat} {o : Ob} {k : Nat} {u : Wd} (h : o.2[k]? = some u) : wkX L far o (k + 1) = wkX L far o k ++ walkP L far u := by
  unfold wkX
  rw [List.take_add_one, h, List.flatMap_append]
  simp
theorem wkX_len {L : List Ob} {far : Nat} {o : Ob} {k : Nat} (hk : k ≤ 4) : (wkX L far o k).length ≤ 3 + 4 * wkN far := by
  have h1 := flat_le (walkP L far) (wkN far) (o.2.take k) (fun x _ => walkP_len L far x)
  have h2 : (o.2.take k).length ≤ 4 := by rw [List.length_take]; omega
  have h3 := Nat.mul_le_mul_right (wkN far) h2
  simp only [wkX, List.length_append, List.length_cons, List.length_nil]
  omega
set_option maxRecDepth 100000 in
set_option maxHeartbeats 8000000 in
theorem walk_more (h : CH w B hb size runs L V G V' G') (hW : Wf L) (hs : sizes L ≤ 4000000) (u : Wd) (hp : u.ptr = true) {j : Nat} (hq : at_ L u.v = some j) (far : Nat) (hfn : wkN far ≤ 100000) (f1 : Int) (hf0 : (f1 == 0) = false) (hf1 : IntKind.i64.wrap (f1 - 1) = (far : Int))
    (ih : ∀ (W : World), CH W B hb size runs L V G V' G' → ∀ x : Wd, Calls Try.prog 25 #[.pointer (some ⟨hb, 0, none⟩), .agg #[.bool x.ptr, .int .i64 x.v], .int .i64 (far : Nat)] W fun e w' => ∃ v, e = .returned v ∧ w'.ownsRow W.heap.size ITy 1 v (walkP L far x).length (icells (walkP L far x)) ∧ Below W.heap.size W w') :
    Calls Try.prog 25 #[.pointer (some ⟨hb, 0, none⟩), .agg #[.bool u.ptr, .int .i64 u.v], .int .i64 f1] w fun e w' => ∃ v, e = .returned v ∧ w'.ownsRow w.heap.size ITy 1 v (wkX L far (ob L j) 4).length (icells (wkX L far (ob L j) 4)) ∧ Below w.heap.size w w' := by
  rw [hp]
  obtain ⟨hj, hpl⟩ := at_some.1 hq
  have hb1 : Below w.heap.size w (w.alloc (.cells #[.bool true, .int .i64 u.v] 36)) := (Below.refl _ _).alloc (Nat.le_refl _) _
  obtain ⟨c0, c1⟩ := cells2 (heap_new (w := w) (o := .cells #[.bool true, .int .i64 u.v] 36) rfl)
  have hO := Object_yes (h.below hb1) hW hs j hj
  rw [hpl] at hO
  have hlm : (ob L j).2.length ≤ 4000 := (hW.head _ (ob_mem hj)).2.2
  obtain ⟨o, ho⟩ : ∃ o, ob L j = o := ⟨_, rfl⟩
  rw [ho] at hO hlm ⊢
  have HO := Lib.hid hO
  have HB := Lib.hid hb1
  have HI := Lib.hid (And.intro h (And.intro ih (And.intro hlm hfn)))
  clear hb1 h hs hq hO hpl hj hW ih hlm hfn ho
  go_enter Try.func25, Try.ntmps25
  go_upto_region 6 with (go_at_call 20; (with_reducible refine HO.out.mono ?_); rintro e w1 ⟨v1, rfl, ho1, hb2⟩; have HB2 := Lib.hid (below_then HB.out hb2); have HO1 := Lib.hid ho1; clear hb2 ho1)
  obtain ⟨A1, k1, rfl, _⟩ := own_cap HO1.out
  go_upto_region 7 with fail
  have hx := World.ownsRow_lit w1 #[.int .i64 1, .int .i64 o.1, .int .i64 (o.2.length : Nat)] 3 (e := ITy) (size := 1) (base := w1.heap.size) (Nat.le_refl _) (by simp [maxLen]) rfl
  have hy : Below w1.heap.size w1 (w1.alloc (.cells #[.int .i64 1, .int .i64 o.1, .int .i64 (o.2.length : Nat)] 2)) := (Below.refl _ _).alloc (Nat.le_refl _) _
  have HX := Lib.hid (And.intro hx hy)
  clear hx hy c0 c1
  go_wp2_with fail
  go_loopw [10, 11] (fun v' i' wr => ∃ k : Nat, i' = .int .i64 k ∧ k ≤ 4 ∧ k ≤ o.2.length ∧ wr.ownsRow w1.heap.size ITy 1 v' (wkX L far o k).length (icells (wkX L far o k)) ∧ Below w1.heap.size w1 wr) (fun _ i' _ => 4 - (intOf i').toNat)
  case atStart => exact ⟨0, rfl, by omega, by omega, HX.out.1, HX.out.2⟩
  case round =>
    obtain ⟨k, rfl, hk4, hkl, hown, hbw⟩ := hrel
    have HW := Lib.hid (And.intro hown hbw)
    clear hown hbw
    obtain ⟨Ao, co, rfl, _⟩ := own_cap HW.out.1
    have n0 : (0 : Int) ≤ (k : Int) := by omega
    by_cases hl : k < o.2.length
    · have q1 : decide ((k : Int) < (o.2.length : Int)) = true := decide_eq_true (by omega)
      by_cases h4 : k < 4
      · have q2 : decide ((k : Int) < 4) = true := decide_eq_true (by omega)
        obtain ⟨x, hx⟩ : ∃ x, o.2[k]? = some x := ⟨_, List.getElem?_eq_getElem hl⟩
        obtain ⟨m, hm⟩ : ∃ m, o.2.length = m + 1 := ⟨o.2.length - 1, by omega⟩
        have hv1 := HO1.out
        rw [hm] at hv1
        obtain ⟨q, c', e⟩ := own_some hv1
        injection e with e1 e2 e3
        subst e1 e3
        have ho2 := own_below HO1.out HW.out.2
        obtain ⟨a1, a2, _, _⟩ := own_word ho2 hx
        have n1 : (k : Int) < (o.2.length : Int) := by omega
        have n2 : (o.2.length : Int) ≤ 4000 := by have := HI.out.2.2.1; omega
        have HC := Lib.hid (HI.out.2.1 wr ((HI.out.1.below HB2.out).below HW.out.2) x)
        have HL := Lib.hid (And.intro (wkX_len (L := L) (far := far) (o := o) hk4) (And.intro (walkP_len L far x) (And.intro HI.out.2.2.2 (wkX_step (L := L) (far := far) hx))))
        obtain ⟨xs, hxs⟩ : ∃ xs, wkX L far o k = xs := ⟨_, rfl⟩
        rw [hxs] at HW HL ⊢
        obtain ⟨ys, hys⟩ : ∃ ys, walkP L far x = ys := ⟨_, rfl⟩
        rw [hys] at HC HL
        clear hx hm hv1 ho2 hk4 hxs hys
        go_wp2_with (first
          | (go_at_call 25; (with_reducible refine HC.out.mono ?_); rintro e w3 ⟨v3, rfl, ho3, hb3⟩; have H3 := Lib.hid (And.intro ho3 hb3); clear ho3 hb3; obtain ⟨A3, c3, rfl, _⟩ := own_cap H3.out.1)
          | (at_builtin; refine wpList_app elI64 _ rfl (.tmp 46) (.tmp 54) rfl w1.heap.size _ xs.length (icells xs) rfl (own_below HW.out.1 H3.out.2) A3 ys.length c3 _ rfl (Rd.of_own H3.out.1) (icells_ones _) (by have := HL.out; omega) (Nat.le_trans HW.out.2.size H3.out.2.size) ?_; intro v6 w6 hown6 hb6 hg6 hat6; rw [← icells_append] at hown6; have H6 := Lib.hid (And.intro hown6 hb6); clear hown6 hb6 hg6 hat6))
        go_roundw
        case rel => exact ⟨k + 1, by go_num, h4, hl, by rw [HL.out.2.2.2, List.length_append]; exact H6.out.1, (HW.out.2.trans (H3.out.2.mono HW.out.2.size)).trans H6.out.2⟩
        case measure => simp [intOf] <;> omega
      · have q2 : decide ((k : Int) < 4) = false := decide_eq_false (by omega)
        have hk : k = 4 := by omega
        subst hk
        go_wp2_with fail
        go_returns
        exact ⟨_, rfl, own_mono HW.out.1 HB2.out.size, HB2.out.trans (HW.out.2.mono HB2.out.size)⟩
    · have q1 : decide ((k : Int) < (o.2.length : Int)) = false := decide_eq_false (by omega)
      have hk : wkX L far o k = wkX L far o 4 := by
        unfold wkX
        rw [List.take_of_length_le (by omega), List.take_of_length_le (by omega)]
      rw [hk] at HW ⊢
      clear hk
      go_wp2_with fail
      go_returns
      exact ⟨_, rfl, own_mono HW.out.1 HB2.out.size, HB2.out.trans (HW.out.2.mono HB2.out.size)⟩
theorem wkN_le : ∀ far ≤ 4, wkN far ≤ 100000 := by decide
theorem walk_any (hW : Wf L) (hs : sizes L ≤ 4000000) : ∀ (far : Nat), far ≤ 4 → ∀ (W : World), CH W B hb size runs L V G V' G' → ∀ u : Wd,
    Calls Try.prog 25 #[.pointer (some ⟨hb, 0, none⟩), .agg #[.bool u.ptr, .int .i64 u.v], .int .i64 (far : Nat)] W fun e w' => ∃ v, e = .returned v ∧ w'.ownsRow W.heap.size ITy 1 v (walkP L far u).length (icells (walkP L far u)) ∧ Below W.heap.size W w'
  | far, hf, W, h, u => by
    cases hp : u.ptr with
    | false =>
      have := walk_int (L := L) (w := W) u hp far (.pointer (some ⟨hb, 0, none⟩))
      rw [hp] at this
      exact this
    | true =>
      cases hq : at_ L u.v with
      | none =>
        have := walk_no h hs u hp hq far
        rw [hp] at this
        exact this
      | some j =>
        cases far with
        | zero =>
          have := walk_zero h hW hs u hp hq
          rw [hp] at this
          exact this
        | succ n =>
          have e : walkP L (n + 1) u = wkX L n (ob L j) 4 := by rw [walkP]; simp [hp, hq, wkX]
          have := walk_more h hW hs u hp hq n (wkN_le n (by omega)) ((n + 1 : Nat) : Int) (by simp; omega) (by rw [IntKind.wrap_i64] <;> omega) (fun W' h' x => walk_any hW hs n (by omega) W' h' x)
          rw [hp] at this
          rw [e]
          exact this
end
end Go.Proofs.Ythblcfhflkapmaa
