/-
  What is put in for a row's variable; how many nodes there would be: with rows.
  The set of a list of labels, by the code: copied, sorted, compacted; and that of two lists.
  A row with all put in, by the code: its parts' contracts given.
  Types that are alike: one text, one answer to whether they may be. About no program.
  Variables put in for variables: a type with other numbers. About no program.
  Maps of variables; a row without labels, by the code.
-/
import Derived.Test.YtklandpagieapaaDoorK05
import Derived.Test.YtklandpagieapaaDoorK00
import Derived.Test.YtklandpagieapaaDoorShelfS
import Derived.Sort.OwnSorted
import Derived.Lib.AppendZeros
import Derived.Test.YtklandpagieapaaDoorK06
import Derived.Test.YtklandpagieapaaDoorK03
import Derived.Test.YtklandpagieapaaDoorK04
namespace Go.Proofs.YtklandpagieapaaDoor
open Go.ChangeShapes Go.WideShapes Go.ChangeAt Go.RowKit Go.Sort Go.Maps
set_option linter.unusedVariables false
set_option linter.unusedSimpArgs false
attribute [local irreducible] Go.wpQuiet

/-- What stands for a row's variable. -/
def rowF (G : Int → Option Lf) (d : TyD) : Option Lf := if (d.kind = 4 ∨ d.kind = 5) ∧ 0 ≤ d.tail then G d.tail else none
theorem rowF_no {G : Int → Option Lf} {d : TyD} (h : ¬ ((d.kind = 4 ∨ d.kind = 5) ∧ 0 ≤ d.tail)) : rowF G d = none := if_neg h
theorem rowF_yes {G : Int → Option Lf} {d : TyD} (h : (d.kind = 4 ∨ d.kind = 5) ∧ 0 ≤ d.tail) : rowF G d = G d.tail := if_pos h

set_option maxRecDepth 100000 in
set_option maxHeartbeats 2000000 in
theorem prow_any {F G : Int → Option Lf} {n1 n2 : Nat} {m1 m2 : Value} {b1 b2 : Nat} (p : Nat) (d : TyD) (b o : Nat) (W : World) (hP : PA F G n1 n2 m1 m2 b1 b2 W p) (hAt : d.At W b o) (hwf : (Lit.int .i64 d.tail).wf = true) :
    Calls Tryd.prog 31 #[.pointer (some ⟨p, 0, none⟩), .pointer (some ⟨b, o, none⟩)] W fun e w' => e = .returned (.tuple #[.agg ((rowF G d).getD Lf.zero).arr, .bool (rowF G d).isSome]) ∧ Below W.heap.size W w' := by
  by_cases hk : d.kind = 4 ∨ d.kind = 5
  · have hb1 : Below W.heap.size W (W.alloc (.cells #[.int .i64 0, .int .i64 0, .slice none 0 0, .slice none 0 0, .int .i64 0] 25)) := (Below.refl _ _).alloc (Nat.le_refl _) _
    have hs1 : (W.alloc (.cells #[.int .i64 0, .int .i64 0, .slice none 0 0, .slice none 0 0, .int .i64 0] 25)).heap.size = W.heap.size + 1 := World.size_alloc _ _
    have hr1 : (W.alloc (.cells #[.int .i64 0, .int .i64 0, .slice none 0 0, .slice none 0 0, .int .i64 0] 25)).heap[W.heap.size]? = some (.cells #[.int .i64 0, .int .i64 0, .slice none 0 0, .slice none 0 0, .int .i64 0] 25) := heap_alloc_new W _
    have HR := Lib.hid (isRow_any d b o _ (hAt.lower hb1))
    rw [decide_eq_true hk] at HR
    by_cases ht : 0 ≤ d.tail
    · rw [rowF_yes ⟨hk, ht⟩]
      have hb2 : Below W.heap.size W ((W.alloc (.cells #[.int .i64 0, .int .i64 0, .slice none 0 0, .slice none 0 0, .int .i64 0] 25)).alloc (.cells #[.int .i64 0, .int .i64 0, .slice none 0 0, .slice none 0 0, .int .i64 0] 25)) := hb1.alloc hb1.size _
      obtain ⟨c0, c1, c2, c3, c4⟩ := hAt.lower hb1
      obtain ⟨y0, y1, y2, y3, y4⟩ := hAt.lower hb2
      have q1 := (hP.below hb1).q1
      have u1 := (hP.below hb2).q1
      have hlk := LM.look ((hP.below hb1).l2.below (below_drew1 _)) hwf
      have hlk2 := LM.look ((hP.below hb2).l2.below (below_drew1 _)) hwf
      have qt : ¬ d.tail < 0 := by omega
      have HB1 := Lib.hid (And.intro hb1 (And.intro hs1 hr1))
      obtain ⟨xf, hxf⟩ : ∃ xf, (G d.tail).getD Lf.zero = xf := ⟨_, rfl⟩
      rw [hxf] at hlk hlk2 ⊢
      obtain ⟨bs, hbs⟩ : ∃ bs, (G d.tail).isSome = bs := ⟨_, rfl⟩
      rw [hbs] at hlk hlk2 ⊢
      clear hxf hbs hb1 hb2 hs1 hr1 hk hP hAt hwf ht
      go_enter Tryd.func31, Tryd.ntmps31
      go_wp2_with fail
      refine HR.out.mono ?_
      rintro e w1 ⟨rfl, hw1⟩
      rw [hw1]
      clear hw1 w1
      go_upto_region 3 with fail
      go_cut [6, 7] from 19 to 30 (fun v6 v7 wx => v6 = .pointer (some ⟨W.heap.size + 1, 0, none⟩) ∧ v7 = .bool bs ∧ wx = ((W.alloc (.cells #[.int .i64 0, .int .i64 0, .slice none 0 0, .slice none 0 0, .int .i64 0] 25)).alloc (.cells xf.arr 25)).drew)
      case first =>
        go_region
        all_goals
          go_wp2_with fail
          go_meet
          exact ⟨rfl, rfl, rfl⟩
      case rest =>
      obtain ⟨rfl, rfl, rfl⟩ := hcut
      clear c0 c1 c2 c3 c4 y0 y1 y2 y3 y4 q1 u1 hlk hlk2
      have HX := Lib.hid (show Below W.heap.size W ((W.alloc (.cells #[.int .i64 0, .int .i64 0, .slice none 0 0, .slice none 0 0, .int .i64 0] 25)).alloc (.cells xf.arr 25)).drew ∧ ((W.alloc (.cells #[.int .i64 0, .int .i64 0, .slice none 0 0, .slice none 0 0, .int .i64 0] 25)).alloc (.cells xf.arr 25)).drew.heap[W.heap.size]? = some (.cells #[.int .i64 0, .int .i64 0, .slice none 0 0, .slice none 0 0, .int .i64 0] 25) ∧ ((W.alloc (.cells #[.int .i64 0, .int .i64 0, .slice none 0 0, .slice none 0 0, .int .i64 0] 25)).alloc (.cells xf.arr 25)).drew.heap[W.heap.size + 1]? = some (.cells xf.arr 25) from ⟨Below.drew (HB1.out.1.alloc HB1.out.1.size _), (Below.heap_alloc _ _ _ (by rw [HB1.out.2.1]; omega)).trans HB1.out.2.2, by
        have h := heap_alloc_new (W.alloc (.cells #[.int .i64 0, .int .i64 0, .slice none 0 0, .slice none 0 0, .int .i64 0] 25)) (.cells xf.arr 25)
        rw [HB1.out.2.1] at h
        exact h⟩)
      generalize ((W.alloc (.cells #[.int .i64 0, .int .i64 0, .slice none 0 0, .slice none 0 0, .int .i64 0] 25)).alloc (.cells xf.arr 25)).drew = w2 at *
      obtain ⟨t0, t1, t2, t3, t4⟩ := cells5 HX.out.2.2
      obtain ⟨r0, r1, r2, r3, r4⟩ := cells5 HX.out.2.1
      obtain ⟨z0, z1, z2, z3, z4⟩ := frozen5 HX.out.2.1
      have hf := box5 w2 W.heap.size HX.out.2.1 (.int .i64 xf.k) (.int .i64 xf.n) (.slice xf.pA 0 xf.pc) (.slice xf.lA 0 xf.lc) (.int .i64 xf.t)
      have HF := Lib.hid hf
      have HBE := Lib.hid (show Below W.heap.size W (((((w2.setCell ⟨W.heap.size, 0, none⟩ (.int .i64 xf.k)).setCell ⟨W.heap.size, 1, none⟩ (.int .i64 xf.n)).setCell ⟨W.heap.size, 2, none⟩ (.slice xf.pA 0 xf.pc)).setCell ⟨W.heap.size, 3, none⟩ (.slice xf.lA 0 xf.lc)).setCell ⟨W.heap.size, 4, none⟩ (.int .i64 xf.t)) from Below.setCell (p := ⟨W.heap.size, 4, none⟩) (Below.setCell (p := ⟨W.heap.size, 3, none⟩) (Below.setCell (p := ⟨W.heap.size, 2, none⟩) (Below.setCell (p := ⟨W.heap.size, 1, none⟩) (Below.setCell (p := ⟨W.heap.size, 0, none⟩) HX.out.1 (Nat.le_refl _) _) (Nat.le_refl _) _) (Nat.le_refl _) _) (Nat.le_refl _) _) (Nat.le_refl _) _)
      clear hf
      go_wp2_with fail
      clear t0 t1 t2 t3 t4 r0 r1 r2 r3 r4 z0 z1 z2 z3 z4
      generalize (((((w2.setCell ⟨W.heap.size, 0, none⟩ (.int .i64 xf.k)).setCell ⟨W.heap.size, 1, none⟩ (.int .i64 xf.n)).setCell ⟨W.heap.size, 2, none⟩ (.slice xf.pA 0 xf.pc)).setCell ⟨W.heap.size, 3, none⟩ (.slice xf.lA 0 xf.lc)).setCell ⟨W.heap.size, 4, none⟩ (.int .i64 xf.t)) = w7 at *
      obtain ⟨e0, e1, e2, e3, e4⟩ := cells5 HF.out
      refine bodyPost_ret (by simp [results, Tryd.results31, go_sem, e0, e1, e2, e3, e4]; try rfl) rfl ?_
      exact ⟨rfl, HBE.out⟩
    · rw [rowF_no (fun h => ht h.2)]
      obtain ⟨c0, c1, c2, c3, c4⟩ := hAt.lower hb1
      have qt : d.tail < 0 := by omega
      have HB1 := Lib.hid hb1
      clear hb1 hs1 hr1 hk hP hAt hwf ht
      go_enter Tryd.func31, Tryd.ntmps31
      go_wp2_with fail
      refine HR.out.mono ?_
      rintro e w1 ⟨rfl, hw1⟩
      rw [hw1]
      clear hw1 w1
      go_wp2_with fail
      go_returns
      exact ⟨rfl, HB1.out⟩
  · rw [rowF_no (fun h => hk h.1)]
    exact prow_no p d b o W hAt hk
end Go.Proofs.YtklandpagieapaaDoor

namespace Go.Proofs.YtklandpagieapaaDoor
open Go.ChangeShapes Go.WideShapes Go.ChangeAt Go.RowKit
set_option linter.unusedVariables false

theorem ms_len (l : List Str) : (l.mergeSort fun x y => decide (x ≤ y)).length = l.length := by simp

theorem row_len {w : World} {base : Nat} {e : TypeId} {v : Value} {n : Nat} {l : List Str} (h : w.ownsRow base e 1 v n (strs l)) : n = l.length := by
  have := h.1; rw [strs_length] at this; omega

theorem sort_own (w : World) (base : Nat) (v : Value) (l : List Str) (h : w.ownsRow base 9 1 v l.length (strs l)) (hB : base ≤ w.heap.size) (hm : l.length ≤ 8000000) :
    Calls Tryd.prog 60 #[v] w fun e w' => e = .returned (.tuple #[]) ∧ w'.ownsRow base 9 1 v l.length (strs (l.mergeSort fun x y => decide (x ≤ y))) ∧ Below base w w' := by
  rcases h.2 with ⟨rfl, h0⟩ | ⟨g, cap, cur, rfl, hbase, hb, h1, h2, h3, h4⟩
  · have hl : l = [] := List.eq_nil_of_length_eq_zero h0
    subst hl
    refine (Tryd.slices_Sort_string_none none 0 w).mono ?_
    rintro e w' ⟨rfl, rfl⟩
    exact ⟨rfl, by simpa [strs] using h, Below.refl _ _⟩
  · refine (Tryd.slices_Sort_string g 0 cap l w (holds_of_block hb (by rw [Nat.mul_one] at h4; exact h4)) (Array.getElem?_eq_some_iff.1 hb).1 (by omega)).mono ?_
    rintro e w' ⟨rfl, n, os, rfl⟩
    refine ⟨rfl, ownsRow_sorted (ms_len l) hbase hb h1 h2 h3, ?_⟩
    exact (Below.refl _ _).grown (grownBy_sorted _) hB (by intro k hk; injection hk with hk; omega)

theorem compact_own (w : World) (base : Nat) (v : Value) (l : List Str) (h : w.ownsRow base 9 1 v l.length (strs l)) (hB : base ≤ w.heap.size) (hm : l.length ≤ 8000000) :
    Calls Tryd.prog 61 #[v] w fun e w' => ∃ v', e = .returned v' ∧ w'.ownsRow base 9 1 v' (Lib.compact l).length (strs (Lib.compact l)) ∧ Below base w w' := by
  rcases h.2 with ⟨rfl, h0⟩ | ⟨g, cap, cur, rfl, hbase, hb, h1, h2, h3, h4⟩
  · have hl : l = [] := List.eq_nil_of_length_eq_zero h0
    subst hl
    refine (Tryd.slices_Compact_string_empty none 0 w).mono ?_
    rintro e w' ⟨rfl, rfl⟩
    exact ⟨_, rfl, by simpa [strs, Lib.compact, Lib.compactUpTo] using h, Below.refl _ _⟩
  · refine (Tryd.slices_Compact_string g 0 cap l w (holds_of_block hb (by rw [Nat.mul_one] at h4; exact h4)) (by omega) h1).mono ?_
    rintro e w' ⟨rfl, q, rfl⟩
    have hlen : (Lib.compact l).length ≤ l.length := by
      unfold Lib.compact Lib.compactUpTo
      rw [List.length_map]
      refine Nat.le_trans (List.length_filter_le _ _) ?_
      simp
    have hl2 : (Lib.compact l ++ List.replicate (l.length - (Lib.compact l).length) []).length = l.length := by simp; omega
    have hrow := ownsRow_sorted (n := q) (os := #[]) hl2 hbase hb h1 h2 h3
    rw [Sort.grow_empty] at hrow
    refine ⟨_, rfl, ?_, ?_⟩
    · rcases hrow.2 with ⟨hx, _⟩ | ⟨g', cap', cur', hv, hbase', hb', h1', h2', h3', h4'⟩
      · cases hx
      · injection hv with hg hn hc
        injection hg with hg
        injection hg with hg
        subst hg
        subst hc
        refine ⟨by simp [strs], .inr ⟨g, cap, cur', rfl, hbase', hb', by omega, h2', h3', ?_⟩⟩
        have e := congrArg (List.take (Lib.compact l).length) h4'
        rw [List.take_take, Nat.mul_one, Nat.min_eq_left hlen, List.map_append, List.take_append_of_le_length (by simp), List.take_of_length_le (l := List.map _ _) (by simp)] at e
        rw [Nat.mul_one, e]; rfl
    · have hg := grownBy_sorted (w := w) (g := g) (n := q) (os := #[]) (Lib.compact l ++ List.replicate (l.length - (Lib.compact l).length) []).toArray
      rw [Sort.grow_empty] at hg
      exact (Below.refl _ _).grown hg hB (by intro k hk; injection hk with hk; omega)

theorem clone_own (A : Option Addr) (l : List Str) (n c : Nat) (w : World) (hr : Rd w 1 A n (strs l)) (hm : n ≤ 8000000) :
    Calls Tryd.prog 24 #[.slice A n c] w fun e w' => ∃ v, e = .returned v ∧ w'.ownsRow w.heap.size 9 1 v l.length (strs l) ∧ Below w.heap.size w w' := by
  have hl := rd_len hr
  subst hl
  rcases Nat.eq_zero_or_pos l.length with h0 | h0
  · have hl : l = [] := List.eq_nil_of_length_eq_zero h0
    subst hl
    cases A with
    | none =>
      refine (Tryd.slices_Clone_string_nil 0 c w).mono ?_
      rintro e w' ⟨rfl, rfl⟩
      exact ⟨_, rfl, World.ownsRow_nil _ _ _ _, Below.refl _ _⟩
    | some a =>
      refine (Tryd.slices_Clone_string_zero a c w).mono ?_
      rintro e w' ⟨v, rfl, hrow, _, hb⟩
      exact ⟨_, rfl, hrow, hb⟩
  · obtain ⟨b, o, rfl, hc⟩ := hr.str (k := 0) h0
    refine (Tryd.slices_Clone_string b o l.length c (l.map bstr) w (by simp) (by omega) (fun j hj => by
      have hj' : j < l.length := by simpa using hj
      rw [hc j hj']; simp [hj'])).mono ?_
    rintro e w' ⟨v, rfl, hrow, _, hb⟩
    refine ⟨v, rfl, ?_, hb⟩
    have e : ((l.map bstr).take l.length).map Value.string = strs l := by rw [List.take_of_length_le (by simp)]; simp [strs]
    rw [e] at hrow
    exact hrow

theorem of_any (A : Option Addr) (l : List Str) (n c : Nat) (w : World) (hr : Rd w 1 A n (strs l)) (hm : n ≤ 8000000) :
    Calls Tryd.prog 53 #[.slice A n c] w fun e w' => ∃ v, e = .returned v ∧ w'.ownsRow w.heap.size 9 1 v (setOf l).length (strs (setOf l)) ∧ Below w.heap.size w w' := by
  have hl := rd_len hr
  go_enter Tryd.func53, Tryd.ntmps53
  go_wp2_with fail
  refine (clone_own A l n c _ hr hm).mono ?_
  rintro e w1 ⟨v1, rfl, hrow1, hb1⟩
  go_wp2_with fail
  refine (sort_own _ _ v1 l hrow1 hb1.size (by omega)).mono ?_
  rintro e w2 ⟨rfl, hrow2, hb2⟩
  have hB := hb1.trans hb2
  go_wp2_with fail
  refine (compact_own _ _ v1 _ (by rw [ms_len]; exact hrow2) hB.size (by rw [ms_len]; omega)).mono ?_
  rintro e w3 ⟨v3, rfl, hrow3, hb3⟩
  go_wp2_with fail
  go_returns
  exact ⟨_, rfl, hrow3, hB.trans hb3⟩
theorem own_mono {w : World} {base B : Nat} {e : TypeId} {size n : Nat} {v : Value} {xs : List Value} (h : w.ownsRow base e size v n xs) (hB : B ≤ base) : w.ownsRow B e size v n xs := by
  refine ⟨h.1, ?_⟩
  rcases h.2 with hn | ⟨g, cap, cur, rfl, hb, rest⟩
  · exact .inl hn
  · exact .inr ⟨g, cap, cur, rfl, by omega, rest⟩

set_option maxRecDepth 100000 in
theorem grow_any (n : Nat) (w : World) (hm : n ≤ 8000000) :
    Calls Tryd.prog 62 #[.slice none 0 0, .int .i64 n] w fun e w' => ∃ v, e = .returned v ∧ w'.ownsRow w.heap.size 9 1 v 0 [] ∧ Below w.heap.size w w' := by
  obtain ⟨i, hi, hz, hs, hb⟩ := info_parts elStr.info
  rcases Nat.eq_zero_or_pos n with rfl | h0
  · go_enter Tryd.func62, Tryd.ntmps62
    go_wp2_with fail
    go_returns
    exact ⟨_, rfl, World.ownsRow_nil _ _ _ _, Below.refl _ _⟩
  · have hrun := Lib.run_append_nil_zeros (P := Tryd.prog) w 23 3 23 9 i _ .i64 .i64 Tryd.underlying23 Tryd.underlying3 hi hz n h0 (by omega) (by omega) (by rw [hb]; omega)
    have HR := Lib.hid hrun
    clear hrun
    go_enter Tryd.func62, Tryd.ntmps62
    go_wp2_with (at_builtin; refine Lib.wpList_append_run _ rfl _ _ _ _ rfl _ _ rfl rfl _ _ HR.out ?_)
    go_returns
    have hge := grownCap_ge w n 0 9
    refine ⟨_, rfl, ?_, by go_grown⟩
    refine World.ownsRow.drew ⟨rfl, .inr ⟨w.heap.size, grownCap w n 0 9, _, rfl, Nat.le_refl _, heap_alloc_new w _, Nat.zero_le _, grownCap_le_maxLen w n 0 _ (by unfold maxLen; omega), ?_, by simp⟩⟩
    rw [Array.size_append, size_zeroCells, size_zeroCells]
    simp only [List.size_toArray, List.length_cons, List.length_nil, Nat.zero_add, Nat.mul_one]
    omega

/-- The first k of two lists. -/
def twoTo (a b : List Str) (k : Nat) : List Str := (if 1 ≤ k then a else []) ++ (if 2 ≤ k then b else [])

set_option maxRecDepth 100000 in
set_option maxHeartbeats 1000000 in
theorem concat_any (A B : Option Addr) (a b : List Str) (n c m d : Nat) (g o k : Nat) (w : World) (hr : Rd w 1 A n (strs a)) (hs : Rd w 1 B m (strs b)) (hm : n ≤ 4000000) (hm2 : m ≤ 4000000)
    (h0 : w.cell? ⟨g, o, none⟩ = some (.slice A n c)) (h1 : w.cell? ⟨g, o + 1, none⟩ = some (.slice B m d)) :
    Calls Tryd.prog 54 #[.slice (some ⟨g, o, none⟩) 2 k] w fun e w' => ∃ v, e = .returned v ∧ w'.ownsRow w.heap.size 9 1 v (a ++ b).length (strs (a ++ b)) ∧ Below w.heap.size w w' := by
  have hl := rd_len hr
  have hl2 := rd_len hs
  subst hl
  subst hl2
  go_enter Tryd.func54, Tryd.ntmps54
  go_wp2_with fail
  go_loopw [3, 11] (fun z i wr => ∃ j q : Nat, z = .int .i64 q ∧ i = .int .i64 j ∧ j ≤ 2 ∧ q = (twoTo a b j).length ∧ Below w.heap.size w wr) (fun _ i _ => 2 - (intOf i).toNat)
  case atStart => exact ⟨0, 0, rfl, rfl, by omega, rfl, Below.refl _ _⟩
  case round =>
    obtain ⟨j, q, rfl, rfl, hj, hq, hb⟩ := hrel
    have c0 := cell_below hb h0
    have c1 := cell_below hb h1
    match j, hj with
    | 0, _ =>
      obtain rfl : q = 0 := hq
      go_wp2_with fail
      go_roundw
      case rel => exact ⟨1, a.length, by go_num, rfl, by omega, by simp [twoTo], hb⟩
      case measure => simp [intOf]
    | 1, _ =>
      obtain rfl : q = a.length := by simpa [twoTo] using hq
      go_wp2_with fail
      go_roundw
      case rel => exact ⟨2, a.length + b.length, by go_num, rfl, by omega, by simp [twoTo], hb⟩
      case measure => simp [intOf]
    | 2, _ =>
      obtain rfl : q = a.length + b.length := by simpa [twoTo] using hq
      clear hq
      go_wp2_with fail
      refine (grow_any (a.length + b.length) _ (by omega)).mono ?_
      rintro e w1 ⟨v1, rfl, hown1, hb1⟩
      have hb1' := hb.trans (hb1.mono hb.size)
      have hown1 := own_mono hown1 hb.size
      clear hb1 c0 c1 hb
      go_wp2_with fail
      go_loopw [6, 27] (fun z i wr => ∃ j : Nat, i = .int .i64 j ∧ j ≤ 2 ∧ wr.ownsRow w.heap.size 9 1 z (twoTo a b j).length (strs (twoTo a b j)) ∧ Below w.heap.size w wr) (fun _ i _ => 2 - (intOf i).toNat)
      case atStart => exact ⟨0, rfl, by omega, hown1, hb1'⟩
      case round =>
        clear hown1 hb1'
        obtain ⟨j, rfl, hj, hown, hb⟩ := hrel
        have c0 := cell_below hb h0
        have c1 := cell_below hb h1
        match j, hj with
        | 0, _ =>
          go_wp2_with (at_builtin; refine wpList_app elStr _ rfl (.tmp 31) (.tmp 32) rfl w.heap.size u6 0 [] rfl hown A a.length c (strs a) rfl (hr.below hb) (strs_one _) (by omega) hb.size ?_; intro v4 w4 hown4 hb4 _ _)
          go_roundw
          case rel => exact ⟨1, rfl, by omega, by simpa [twoTo] using hown4, hb.trans hb4⟩
          case measure => simp [intOf]
        | 1, _ =>
          have et : twoTo a b 1 = a := by simp [twoTo]
          rw [et] at hown
          go_wp2_with (at_builtin; refine wpList_app elStr _ rfl (.tmp 31) (.tmp 32) rfl w.heap.size u6 a.length (strs a) rfl hown B b.length d (strs b) rfl (hs.below hb) (strs_one _) (by omega) hb.size ?_; intro v4 w4 hown4 hb4 _ _)
          go_roundw
          case rel => exact ⟨2, rfl, by omega, by simpa [twoTo, strs_append] using hown4, hb.trans hb4⟩
          case measure => simp [intOf]
        | 2, _ =>
          have et : twoTo a b 2 = a ++ b := by simp [twoTo]
          rw [et] at hown
          go_wp2_with fail
          go_returns
          exact ⟨_, rfl, hown, hb⟩

theorem join_any (A B : Option Addr) (a b : List Str) (n c m d : Nat) (w : World) (hr : Rd w 1 A n (strs a)) (hs : Rd w 1 B m (strs b)) (hm : n ≤ 4000000) (hm2 : m ≤ 4000000) :
    Calls Tryd.prog 47 #[.slice A n c, .slice B m d] w fun e w' => ∃ v, e = .returned v ∧ w'.ownsRow w.heap.size 9 1 v (setOf (a ++ b)).length (strs (setOf (a ++ b))) ∧ Below w.heap.size w w' := by
  have hl := rd_len hr
  have hl2 := rd_len hs
  go_enter Tryd.func47, Tryd.ntmps47
  go_wp2_with fail
  have hp0 : (w.alloc (.cells #[.slice A n c, .slice B m d] 23)).cell? ⟨w.heap.size, 0, none⟩ = some (.slice A n c) := cell_new w _ _ 0 rfl
  have hp1 : (w.alloc (.cells #[.slice A n c, .slice B m d] 23)).cell? ⟨w.heap.size, 0 + 1, none⟩ = some (.slice B m d) := cell_new w _ _ 1 rfl
  refine (concat_any A B a b n c m d w.heap.size 0 2 _ (hr.alloc _) (hs.alloc _) hm hm2 hp0 hp1).mono ?_
  rintro e w1 ⟨v1, rfl, hown1, hb1⟩
  have hb0 : Below w.heap.size w w1 := below_then ((Below.refl _ _).alloc (Nat.le_refl _) _) hb1
  have hN : (a ++ b).length ≤ 8000000 := by rw [List.length_append]; omega
  generalize (a ++ b).length = N at hown1 hN
  obtain ⟨A1, c1, rfl, hle1, _, _⟩ := own_cap hown1
  go_wp2_with fail
  refine (of_any A1 (a ++ b) N c1 _ (Rd.of_own hown1) (by omega)).mono ?_
  rintro e w2 ⟨v2, rfl, hown2, hb2⟩
  go_wp2_with fail
  go_returns
  exact ⟨_, rfl, own_mono hown2 hb0.size, below_then hb0 hb2⟩
end Go.Proofs.YtklandpagieapaaDoor

namespace Go.Proofs.YtklandpagieapaaDoor
open Go.ChangeShapes Go.WideShapes Go.ChangeAt Go.RowKit Go.Sort Go.Maps
set_option linter.unusedVariables false
set_option linter.unusedSimpArgs false
attribute [local irreducible] Go.wpQuiet

mutual
/-- A type, with what stands for its variables and its rows' variables. -/
def subR (F G : Int → Option Lf) : Ty → Ty
  | .mk d l => if d.kind = 7 ∧ (F d.n).isSome = true then ((F d.n).getD Lf.zero).ty else .mk { d with tail := if (rowF G d).isSome = true then ((rowF G d).getD Lf.zero).t else d.tail } (subRL F G l)
def subRL (F G : Int → Option Lf) : List Ty → List Ty
  | [] => []
  | x :: l => subR F G x :: subRL F G l
end
theorem subRL_len (F G : Int → Option Lf) : ∀ l : List Ty, (subRL F G l).length = l.length
  | [] => rfl
  | x :: l => by simp [subRL, subRL_len F G l]
theorem subRL_at (F G : Int → Option Lf) : ∀ (l : List Ty) (k : Nat) (h : k < l.length), (subRL F G l)[k]'(by rw [subRL_len]; exact h) = subR F G l[k]
  | x :: l, 0, _ => rfl
  | x :: l, k + 1, h => by simp only [subRL, List.getElem_cons_succ]; exact subRL_at F G l k (by simpa using h)
theorem row_good {d : TyD} (hk : d.kind = 4 ∨ d.kind = 5) (hf : d.fieldsB = true) : d.n = 0 ∧ -1 ≤ d.tail ∧ d.pn = d.ln ∧ inOrder d.labels := by
  unfold TyD.fieldsB at hf
  rw [if_pos hk] at hf
  simp only [Bool.and_eq_true, decide_eq_true_eq] at hf
  exact ⟨hf.1.1.1.1, hf.1.1.1.2, hf.1.1.2, (isB_order _).1 hf.1.2⟩
/-- Where a label of a set stands. -/
theorem offs_at {l : List Str} (h : inOrder l) (k : Nat) (hk : k < l.length) : offs l l[k] = k :=
  offs_unique l l[k] k (by omega) (fun j hj => List.pairwise_iff_getElem.1 h j k (by omega) hk hj) (fun j hj hkj => by
    rcases Nat.lt_or_eq_of_le hkj with q | q
    · have := List.pairwise_iff_getElem.1 h k j hk hj q
      cases hs : slt l[j] l[k] with
      | false => rfl
      | true => have := slt_trans this hs; rw [slt_irrefl] at this; cases this
    · subst q; exact slt_irrefl _)

/-- The parts of a row under way: its own cells in block g, its parts and its labels in others; the result's block is the first of W's new ones. -/
structure PiR (W : World) (g : Nat) (kd nn : Int) (A : Option Addr) (n c : Nat) (ls : List Str) (tl : Int) (v : Value) (k : Nat) (ys l : List Ty) (wr : World) : Prop where
  own : wr.ownsRow (g + 1) 25 5 v k (ys.flatMap Ty.cells)
  len : ys.length = k
  eqv : tyL ys (l.take k)
  inn : ∀ y ∈ ys, y.In wr
  bl : ∀ y ∈ ys, y.Bl (fun b => g + 1 ≤ b ∧ some b ≠ v.ownBlock)
  hd : wr.heap[g]? = some (.cells #[.int .i64 kd, .int .i64 nn, v, .slice A n c, .int .i64 tl] 25)
  rs : wr.heap[W.heap.size]? = some (.cells #[.int .i64 0, .int .i64 0, .slice none 0 0, .slice none 0 0, .int .i64 0] 25)
  b : Below W.heap.size W wr
  hg : W.heap.size < g
  lab : Rd wr 1 A n (strs ls)
  lb : 0 < n → ∀ a, A = some a → W.heap.size < a.block ∧ a.block ≠ g ∧ some a.block ≠ v.ownBlock
theorem Rd.lt_ {w : World} {n : Nat} {A : Option Addr} {cs : List Value} (h : Rd w 1 A n cs) (h0 : 0 < n) {a : Addr} (ha : A = some a) : a.block < w.heap.size := by
  obtain ⟨a', e, hb, _⟩ := h.addr (by rw [h.1]; omega)
  rw [ha] at e; cases e
  exact hb
theorem PiR.step {W wr w1 w2 w6 : World} {g k n c : Nat} {A : Option Addr} {ls : List Str} {kd nn tl : Int} {v v6 : Value} {ys l : List Ty} {y x : Ty} (h : PiR W g kd nn A n c ls tl v k ys l wr)
    (hb : Below wr.heap.size wr w1) (hin : y.In w1) (hbl : y.Bl (fun b => wr.heap.size ≤ b)) (he : y.eqv x) (htk : l.take (k + 1) = l.take k ++ [x]) (hw2 : Below w1.heap.size w1 w2)
    (hown : w6.ownsRow (g + 1) 25 5 v6 (k + 1) (ys.flatMap Ty.cells ++ y.cells)) (hgr : w2.grownBy w6 v.ownBlock) (hat : v6.ownBlock = v.ownBlock ∨ v6.ownBlock = some w2.heap.size) :
    PiR W g kd nn A n c ls tl v6 (k + 1) (ys ++ [y]) l (w6.setCell ⟨g, 2, none⟩ v6) := by
  have hvl : ∀ b, v.ownBlock = some b → g + 1 ≤ b ∧ b < wr.heap.size := fun b hb' => h.own.lt b hb'
  have hgw : g < wr.heap.size := lt_of_heap h.hd
  have hg1 := h.hg
  have hs1 := hb.size
  have hs2 := hw2.size
  have hall : ∀ b, b < w1.heap.size → some b ≠ v.ownBlock → w6.heap[b]? = w1.heap[b]? := fun b h1 h2 =>
    (hgr.block b (Nat.lt_of_lt_of_le h1 hw2.size) h2).trans (hw2.block b h1)
  have hgv : some g ≠ v.ownBlock := fun e => by have := hvl g e.symm; omega
  have hrv : some W.heap.size ≠ v.ownBlock := fun e => by have := hvl _ e.symm; omega
  have hyb : y.Bl (fun b => g + 1 ≤ b ∧ some b ≠ v.ownBlock) := hbl.imp hin (fun b h1 _ => ⟨by omega, fun e => by have := hvl b e.symm; omega⟩)
  have hz : ∀ z ∈ ys ++ [y], z.In w1 ∧ z.Bl (fun b => g + 1 ≤ b ∧ some b ≠ v.ownBlock) := fun z hz => by
    rcases List.mem_append.1 hz with hz | hz
    · exact ⟨(h.inn z hz).lower hb, h.bl z hz⟩
    · rw [List.mem_singleton] at hz; subst hz; exact ⟨hin, hyb⟩
  have h6 : ∀ z ∈ ys ++ [y], z.In w6 := fun z hzm => (hz z hzm).1.keepP (hz z hzm).2 (fun b hb' hl => hall b hl hb'.2)
  have hg6 : w6.heap[g]? = some (.cells #[.int .i64 kd, .int .i64 nn, v, .slice A n c, .int .i64 tl] 25) := (hall g (Nat.lt_of_lt_of_le hgw hb.size) hgv).trans ((hb.block g hgw).trans h.hd)
  have hno : ∀ b, b < w1.heap.size → some b ≠ v.ownBlock → some b ≠ v6.ownBlock := fun b h1 h2 => by
    rcases hat with q | q
    · rw [q]; exact h2
    · rw [q]; intro e; injection e with e; omega
  refine ⟨?_, by rw [List.length_append, h.len]; rfl, by rw [htk]; exact tyL_snoc h.eqv he, fun z hzm => (h6 z hzm).keepP (hz z hzm).2 (fun b hb' _ => Below.heap_setCell w6 _ _ b (by show b ≠ g; omega)), fun z hzm => ?_, ?_, ?_, ?_, h.hg, ?_, fun hn a ha => ?_⟩
  · rw [List.flatMap_append, List.flatMap_cons, List.flatMap_nil, List.append_nil]
    exact ownsRow_setCell_below hown (by show g < _; omega) _
  · exact (hz z hzm).2.imp (hz z hzm).1 (fun b hb' hl => ⟨hb'.1, hno b hl hb'.2⟩)
  · simp [World.setCell, Array.getElem?_modify, hg6]
  · rw [show (w6.setCell ⟨g, 2, none⟩ v6).heap[W.heap.size]? = w6.heap[W.heap.size]? from Below.heap_setCell w6 _ _ _ (by show W.heap.size ≠ g; omega)]
    exact (hall _ (by omega) hrv).trans ((hb.block _ (by omega)).trans h.rs)
  · have h1 : Below W.heap.size W w2 := below_then (below_then h.b hb) hw2
    exact (h1.grown hgr h1.size (fun q hq => by have := hvl q hq; omega)).setCell (p := ⟨g, 2, none⟩) (by show W.heap.size ≤ g; omega) _
  · refine rd_keepP (P := fun b => b ≠ g ∧ some b ≠ v.ownBlock ∧ b < w1.heap.size) (h.lab.below hb) (fun hn a ha => ⟨(h.lb hn a ha).2.1, (h.lb hn a ha).2.2, (h.lab.below hb).lt_ hn ha⟩) (fun b hb' hl => ?_)
    rw [show (w6.setCell ⟨g, 2, none⟩ v6).heap[b]? = w6.heap[b]? from Below.heap_setCell w6 _ _ _ (by show b ≠ g; exact hb'.1)]
    exact hall b hl hb'.2.1
  · exact ⟨(h.lb hn a ha).1, (h.lb hn a ha).2.1, hno _ ((h.lab.below hb).lt_ hn ha) (h.lb hn a ha).2.2⟩
theorem PiR.lower {W wr w1 : World} {g k n c : Nat} {A : Option Addr} {ls : List Str} {kd nn tl : Int} {v : Value} {ys l : List Ty} (h : PiR W g kd nn A n c ls tl v k ys l wr) (hb : Below wr.heap.size wr w1) : PiR W g kd nn A n c ls tl v k ys l w1 :=
  ⟨own_below h.own hb, h.len, h.eqv, fun y hy => (h.inn y hy).lower hb, h.bl, (hb.block g (lt_of_heap h.hd)).trans h.hd, (hb.block _ (lt_of_heap h.rs)).trans h.rs, below_then h.b hb, h.hg, h.lab.below hb, h.lb⟩
end Go.Proofs.YtklandpagieapaaDoor

namespace Go.Proofs.YtklandpagieapaaDoor
open Go.ChangeShapes Go.WideShapes Go.ChangeAt Go.RowKit Go.Sort
set_option linter.unusedVariables false
set_option linter.unusedSimpArgs false

theorem kdL_eqv : ∀ (l m : List Ty), tyL l m → kdL l = kdL m
  | [], [], _ => rfl
  | .mk d a :: l, .mk e b :: m, h => by
    unfold tyL at h
    have h1 : d.kind = e.kind := by have h2 := h.1; unfold Ty.eqv at h2; exact h2.1
    show d.kind :: kdL l = e.kind :: kdL m
    rw [h1, kdL_eqv l m h.2]
  | [], _ :: _, h => by simp [tyL] at h
  | _ :: _, [], h => by simp [tyL] at h
theorem txB_eqv {d e : TyD} (h1 : d.kind = e.kind) (h2 : d.n = e.n) (h3 : d.tail = e.tail) (h4 : d.labels = e.labels) (T R : List Int) (ps : List Str) (ks : List Int) : d.txB T R ps ks = e.txB T R ps ks := by
  unfold TyD.txB TyD.rowTx TyD.tailTx
  rw [h1, h2, h3, h4]
mutual
theorem tx_eqv (T R : List Int) : ∀ (x y : Ty), x.eqv y → x.tx T R = y.tx T R
  | .mk d l, .mk e m, h => by
    unfold Ty.eqv at h
    unfold Ty.tx
    rw [txL_eqv T R l m h.2.2.2.2, kdL_eqv l m h.2.2.2.2, txB_eqv h.1 h.2.1 h.2.2.1 h.2.2.2.1]
theorem txL_eqv (T R : List Int) : ∀ (l m : List Ty), tyL l m → txL T R l = txL T R m
  | [], [], _ => rfl
  | x :: l, y :: m, h => by
    unfold tyL at h
    simp only [txL]
    rw [tx_eqv T R x y h.1, txL_eqv T R l m h.2]
  | [], _ :: _, h => by simp [tyL] at h
  | _ :: _, [], h => by simp [tyL] at h
end
mutual
theorem meetT_eqv : ∀ (x y : Ty) (T R : List Int), x.eqv y → meetT x T R = meetT y T R
  | .mk d l, .mk e m, T, R, h => by
    unfold Ty.eqv at h
    unfold meetT
    rw [h.1, h.2.1, h.2.2.1, meetTs_eqv l m _ R h.2.2.2.2]
theorem meetTs_eqv : ∀ (l m : List Ty) (T R : List Int), tyL l m → meetTs l T R = meetTs m T R
  | [], [], _, _, _ => rfl
  | x :: l, y :: m, T, R, h => by
    unfold tyL at h
    unfold meetTs
    rw [meetT_eqv x y T R h.1, meetTs_eqv l m _ _ h.2]
  | [], _ :: _, _, _, h => by simp [tyL] at h
  | _ :: _, [], _, _, h => by simp [tyL] at h
end
theorem text_eqv {x y : Ty} (h : x.eqv y) : x.text = y.text := by
  unfold Ty.text
  rw [meetT_eqv x y [] [] h, tx_eqv _ _ x y h]
/-- How long a type's lists are, is what its parts and labels tell. -/
inductive Ty.Ln : Ty → Prop
  | mk (d : TyD) (l : List Ty) (hp : l.length = d.pn) (hl : d.labels.length = d.ln) (sub : ∀ x ∈ l, Ty.Ln x) : Ty.Ln (.mk d l)
theorem Ty.In.ln {w : World} {t : Ty} (h : t.In w) : t.Ln := by
  induction h with
  | mk d l lab par cap sub ih => exact .mk d l (Ty.In.mk d l lab par cap sub).len (Ty.In.mk d l lab par cap sub).labLen ih
theorem fieldsB_eqv {d e : TyD} (h1 : d.kind = e.kind) (h2 : d.n = e.n) (h3 : d.tail = e.tail) (h4 : d.labels = e.labels) (h5 : d.pn = e.pn) (h6 : d.ln = e.ln) : d.fieldsB = e.fieldsB := by
  unfold TyD.fieldsB TyD.bareB
  rw [h1, h2, h3, h4, h5, h6]
theorem mayF_eqv {x : Ty} (hx : x.Ln) : ∀ {y : Ty}, y.Ln → x.eqv y → ∀ k, mayF x k = mayF y k := by
  induction hx with
  | mk d l hp hl sub ih =>
  intro y hy he k
  cases hy with
  | mk e m hp' hl' sub' =>
  unfold Ty.eqv at he
  have hL : ∀ (l' m' : List Ty), (∀ x ∈ l', x ∈ l) → (∀ y ∈ m', y ∈ m) → tyL l' m' → ∀ k, mayL l' k = mayL m' k := by
    intro l'
    induction l' with
    | nil =>
      intro m' _ _ h k
      cases m' with
      | nil => rfl
      | cons _ _ => simp [tyL] at h
    | cons a l' ih' =>
      intro m' h1 h2 h k
      cases m' with
      | nil => simp [tyL] at h
      | cons b m' =>
        unfold tyL at h
        unfold mayL
        rw [ih a (h1 a (by simp)) (sub' b (h2 b (by simp))) h.1 k]
        cases mayF b k with
        | none => rfl
        | some j => exact ih' m' (fun x hx => h1 x (by simp [hx])) (fun x hx => h2 x (by simp [hx])) h.2 j
  unfold mayF
  rw [fieldsB_eqv he.1 he.2.1 he.2.2.1 he.2.2.2.1 (by rw [← hp, ← hp', tyL_len he.2.2.2.2]) (by rw [← hl, ← hl', he.2.2.2.1]), hL l m (fun x h => h) (fun x h => h) he.2.2.2.2]
mutual
theorem nodes_eqv : ∀ (x y : Ty), x.eqv y → x.nodes = y.nodes
  | .mk d l, .mk e m, h => by
    unfold Ty.eqv at h
    unfold Ty.nodes
    rw [nodesL_eqv l m h.2.2.2.2]
theorem nodesL_eqv : ∀ (l m : List Ty), tyL l m → nodesL l = nodesL m
  | [], [], _ => rfl
  | x :: l, y :: m, h => by
    unfold tyL at h
    simp only [nodesL]
    rw [nodes_eqv x y h.1, nodesL_eqv l m h.2]
  | [], _ :: _, h => by simp [tyL] at h
  | _ :: _, [], h => by simp [tyL] at h
end
mutual
theorem wt_eqv : ∀ (x y : Ty), x.eqv y → x.wt = y.wt
  | .mk d l, .mk e m, h => by
    unfold Ty.eqv at h
    unfold Ty.wt
    rw [wtL_eqv l m h.2.2.2.2, h.2.2.2.1]
theorem wtL_eqv : ∀ (l m : List Ty), tyL l m → wtL l = wtL m
  | [], [], _ => rfl
  | x :: l, y :: m, h => by
    unfold tyL at h
    simp only [wtL]
    rw [wt_eqv x y h.1, wtL_eqv l m h.2]
  | [], _ :: _, h => by simp [tyL] at h
  | _ :: _, [], h => by simp [tyL] at h
end
mutual
theorem rg_eqvM : ∀ (x y : Ty), x.eqv y → y.Rg → x.Rg
  | .mk d l, .mk e m, h, hy => by
    unfold Ty.eqv at h
    cases hy with
    | mk _ _ hn ht sub => exact .mk d l (by rw [h.2.1]; exact hn) (by rw [h.2.2.1]; exact ht) (rgL_eqvM l m h.2.2.2.2 sub)
theorem rgL_eqvM : ∀ (l m : List Ty), tyL l m → (∀ y ∈ m, y.Rg) → ∀ x ∈ l, x.Rg
  | [], _, _, _ => fun x hx => by cases hx
  | x :: l, y :: m, h, hy => by
    unfold tyL at h
    intro z hz
    rcases List.mem_cons.1 hz with rfl | hz
    · exact rg_eqvM z y h.1 (hy y (by simp))
    · exact rgL_eqvM l m h.2 (fun w hw => hy w (by simp [hw])) z hz
  | _ :: _, [], h, _ => by simp [tyL] at h
end
end Go.Proofs.YtklandpagieapaaDoor

namespace Go.Proofs.YtklandpagieapaaDoor
open Go.ChangeShapes Go.WideShapes Go.ChangeAt Go.RowKit Go.Sort Go.Maps
set_option linter.unusedVariables false
set_option linter.unusedSimpArgs false

/-- What stands for a variable of a list; for a row's variable of a list. -/
def vF (far : Int) (T : List Int) (n : Int) : Option Lf := if n ∈ T then some ⟨7, n + far, -1, none, 0, none, 0⟩ else none
def rF (far : Int) (R : List Int) (n : Int) : Option Lf := if n ∈ R then some ⟨4, 0, n + far, none, 0, none, 0⟩ else none
theorem bare7 {d : TyD} (hk : d.kind = 7) (hf : d.fieldsB = true) : 0 ≤ d.n ∧ d.pn = 0 ∧ d.ln = 0 ∧ d.tail = -1 := by
  unfold TyD.fieldsB at hf
  rw [if_neg (by omega), if_pos hk] at hf
  simp only [TyD.bareB, Bool.and_eq_true, decide_eq_true_eq] at hf
  exact ⟨hf.1, by have := hf.2.1.1; omega, hf.2.1.2, hf.2.2⟩
theorem Ty.Ln.inv {d : TyD} {l : List Ty} (h : (Ty.mk d l).Ln) : l.length = d.pn ∧ d.labels.length = d.ln ∧ ∀ x ∈ l, x.Ln := by
  cases h
  exact ⟨by assumption, by assumption, by assumption⟩
mutual
theorem subR_ren (far : Int) (T R : List Int) : ∀ t : Ty, t.fb → t.vin T R → t.Ln → (subR (vF far T) (rF far R) t).eqv (renT (fun n => n + far) (fun n => n + far) t)
  | .mk d l, hf, hv, hl => by
    unfold Ty.fb at hf
    unfold Ty.vin at hv
    obtain ⟨lp, ll, ls⟩ := hl.inv
    by_cases k7 : d.kind = 7
    · obtain ⟨h0, hp, hln, ht⟩ := bare7 k7 hf.1
      have e1 : l = [] := List.eq_nil_of_length_eq_zero (by omega)
      have e2 : d.labels = [] := List.eq_nil_of_length_eq_zero (by omega)
      have hF : vF far T d.n = some ⟨7, d.n + far, -1, none, 0, none, 0⟩ := if_pos (hv.1 k7)
      unfold subR renT
      rw [if_pos ⟨k7, by rw [hF]; rfl⟩, hF, e1]
      refine ⟨k7.symm, (if_pos k7).symm, ?_, e2.symm, trivial⟩
      show (-1 : Int) = (if (d.kind = 4 ∨ d.kind = 5) ∧ 0 ≤ d.tail then d.tail + far else d.tail)
      rw [if_neg (by omega), ht]
    · unfold subR renT
      rw [if_neg (fun h => k7 h.1)]
      refine ⟨rfl, (if_neg k7).symm, ?_, rfl, subRL_ren far T R l hf.2 hv.2.2 ls⟩
      show (if (rowF (rF far R) d).isSome = true then ((rowF (rF far R) d).getD Lf.zero).t else d.tail) = (if (d.kind = 4 ∨ d.kind = 5) ∧ 0 ≤ d.tail then d.tail + far else d.tail)
      by_cases h : (d.kind = 4 ∨ d.kind = 5) ∧ 0 ≤ d.tail
      · have hG : rowF (rF far R) d = some ⟨4, 0, d.tail + far, none, 0, none, 0⟩ := by rw [rowF_yes h]; exact if_pos (hv.2.1 h.1 h.2)
        rw [hG, if_pos h]
        rfl
      · rw [rowF_no h, if_neg h]
        rfl
theorem subRL_ren (far : Int) (T R : List Int) : ∀ l : List Ty, fbL l → vinL T R l → (∀ x ∈ l, x.Ln) → tyL (subRL (vF far T) (rF far R) l) (renL (fun n => n + far) (fun n => n + far) l)
  | [], _, _, _ => trivial
  | x :: l, hf, hv, hl => by
    unfold fbL at hf
    unfold vinL at hv
    exact ⟨subR_ren far T R x hf.1 hv.1 (hl x (by simp)), subRL_ren far T R l hf.2 hv.2 (fun y hy => hl y (by simp [hy]))⟩
end
theorem rowF_none (d : TyD) : rowF (fun _ => none) d = none := by
  unfold rowF
  split <;> rfl
mutual
theorem subR_none : ∀ t : Ty, subR (fun _ => none) (fun _ => none) t = t
  | .mk d l => by
    unfold subR
    rw [if_neg (by simp), subRL_none l, rowF_none]
    rfl
theorem subRL_none : ∀ l : List Ty, subRL (fun _ => none) (fun _ => none) l = l
  | [] => rfl
  | x :: l => by
    unfold subRL
    rw [subR_none x, subRL_none l]
end
/-- With rows' variables too, and no type put in anew for a row: what a type without rows becomes. -/
theorem okF_vF {far : Int} {T : List Int} (h0 : 0 ≤ far) (hT : ∀ n ∈ T, 0 ≤ n) : OkF (vF far T) := by
  intro n x h
  unfold vF at h
  split at h
  · rename_i hn
    cases h
    have := hT n hn
    refine ⟨?_, Nat.zero_le _, Nat.zero_le _⟩
    show (⟨7, n + far, none, 0, 0, none, 0, 0, [], -1⟩ : TyD).fieldsB = true
    unfold TyD.fieldsB
    rw [if_neg (by simp), if_pos rfl]
    simp [TyD.bareB]
    omega
  · cases h
theorem okF_rF {far : Int} {R : List Int} (h0 : 0 ≤ far) (hR : ∀ n ∈ R, 0 ≤ n) : OkF (rF far R) := by
  intro n x h
  unfold rF at h
  split at h
  · rename_i hn
    cases h
    have := hR n hn
    refine ⟨?_, Nat.zero_le _, Nat.zero_le _⟩
    show (⟨4, 0, none, 0, 0, none, 0, 0, [], n + far⟩ : TyD).fieldsB = true
    unfold TyD.fieldsB
    rw [if_pos (.inl rfl)]
    simp [isB]
    omega
  · cases h
theorem rF_4 {far : Int} {R : List Int} : ∀ n x, rF far R n = some x → x.k = 4 := by
  intro n x h
  unfold rF at h
  split at h
  · cases h; rfl
  · cases h
theorem rF_t {far : Int} {R : List Int} : ∀ n x, rF far R n = some x → x.t = n + far := by
  intro n x h
  unfold rF at h
  split at h
  · cases h; rfl
  · cases h
mutual
/-- The variables of what may be are no negative numbers. -/
theorem meetT_nn : ∀ (t : Ty), t.fb → ∀ (T R : List Int), (∀ n ∈ T, 0 ≤ n) → (∀ n ∈ R, 0 ≤ n) → (∀ n ∈ (meetT t T R).1, 0 ≤ n) ∧ (∀ n ∈ (meetT t T R).2, 0 ≤ n)
  | .mk d l, hf, T, R, hT, hR => by
    unfold Ty.fb at hf
    have add : ∀ {l : List Int} {n : Int}, (∀ m ∈ l, 0 ≤ m) → 0 ≤ n → ∀ m ∈ addI l n, 0 ≤ m := by
      intro l n h hn m hm
      unfold addI at hm
      split at hm
      · exact h m hm
      · rcases List.mem_append.1 hm with q | q
        · exact h m q
        · rw [List.mem_singleton] at q; subst q; exact hn
    have hT' : ∀ n ∈ (if d.kind = 7 then addI T d.n else T), 0 ≤ n := by
      split
      · rename_i k; exact add hT (bare7 k hf.1).1
      · exact hT
    obtain ⟨h1, h2⟩ := meetTs_nn l hf.2 _ R hT' hR
    unfold meetT
    simp only
    split
    · rename_i k; exact ⟨h1, add h2 k.2⟩
    · exact ⟨h1, h2⟩
theorem meetTs_nn : ∀ (l : List Ty), fbL l → ∀ (T R : List Int), (∀ n ∈ T, 0 ≤ n) → (∀ n ∈ R, 0 ≤ n) → (∀ n ∈ (meetTs l T R).1, 0 ≤ n) ∧ (∀ n ∈ (meetTs l T R).2, 0 ≤ n)
  | [], _, T, R, hT, hR => ⟨hT, hR⟩
  | x :: l, hf, T, R, hT, hR => by
    unfold fbL at hf
    unfold meetTs
    obtain ⟨h1, h2⟩ := meetT_nn x hf.1 T R hT hR
    exact meetTs_nn l hf.2 _ _ h1 h2
end
theorem fieldsB_ren {g h : Int → Int} (hg : ∀ a, 0 ≤ a → 0 ≤ g a) (hh : ∀ a, 0 ≤ a → 0 ≤ h a) {d : TyD} (hf : d.fieldsB = true) : (d.ren g h).fieldsB = true := by
  by_cases k7 : d.kind = 7
  · obtain ⟨h0, hp, hln, ht⟩ := bare7 k7 hf
    unfold TyD.fieldsB
    rw [if_neg (show ¬ ((d.ren g h).kind = 4 ∨ (d.ren g h).kind = 5) by show ¬ (d.kind = 4 ∨ d.kind = 5); omega), if_pos (show (d.ren g h).kind = 7 from k7)]
    have e1 : (d.ren g h).n = g d.n := if_pos k7
    have e2 : (d.ren g h).tail = d.tail := if_neg (by omega)
    simp only [TyD.bareB, Bool.and_eq_true, decide_eq_true_eq, e1, e2]
    exact ⟨hg _ h0, ⟨by show (d.pn : Int) = 0; omega, hln⟩, ht⟩
  · have e1 : (d.ren g h).n = d.n := if_neg k7
    by_cases k : (d.kind = 4 ∨ d.kind = 5) ∧ 0 ≤ d.tail
    · have e2 : (d.ren g h).tail = h d.tail := if_pos k
      unfold TyD.fieldsB at hf ⊢
      rw [if_pos k.1] at hf
      rw [if_pos (show ((d.ren g h).kind = 4 ∨ (d.ren g h).kind = 5) from k.1), e1, e2]
      simp only [Bool.and_eq_true, decide_eq_true_eq] at hf ⊢
      exact ⟨⟨⟨⟨hf.1.1.1.1, by have := hh _ k.2; omega⟩, hf.1.1.2⟩, hf.1.2⟩, hf.2⟩
    · have e2 : (d.ren g h).tail = d.tail := if_neg k
      have e : d.ren g h = d := by
        cases d
        simp only [TyD.ren] at e1 e2 ⊢
        simp only [TyD.mk.injEq, true_and]
        exact ⟨e1, e2⟩
      rw [e]
      exact hf
mutual
theorem fine_ren {g h : Int → Int} (hg : ∀ a, 0 ≤ a → 0 ≤ g a) (hh : ∀ a, 0 ≤ a → 0 ≤ h a) : ∀ t : Ty, t.fine = true → (renT g h t).fine = true
  | .mk d l, hf => by
    unfold Ty.fine at hf
    rw [Bool.and_eq_true] at hf
    unfold renT Ty.fine
    rw [fieldsB_ren hg hh hf.1, fineL_ren hg hh l hf.2]
    rfl
theorem fineL_ren {g h : Int → Int} (hg : ∀ a, 0 ≤ a → 0 ≤ g a) (hh : ∀ a, 0 ≤ a → 0 ≤ h a) : ∀ l : List Ty, fineL0 l = true → fineL0 (renL g h l) = true
  | [], _ => rfl
  | x :: l, hf => by
    unfold fineL0 at hf
    rw [Bool.and_eq_true] at hf
    unfold renL fineL0
    rw [fine_ren hg hh x hf.1, fineL_ren hg hh l hf.2]
    rfl
end
mutual
theorem nodes_ren (g h : Int → Int) : ∀ t : Ty, (renT g h t).nodes = t.nodes
  | .mk d l => by
    unfold renT Ty.nodes
    rw [nodesL_ren g h l]
theorem nodesL_ren (g h : Int → Int) : ∀ l : List Ty, nodesL (renL g h l) = nodesL l
  | [] => rfl
  | x :: l => by
    unfold renL nodesL
    rw [nodes_ren g h x, nodesL_ren g h l]
end
mutual
theorem wt_ren (g h : Int → Int) : ∀ t : Ty, (renT g h t).wt = t.wt
  | .mk d l => by
    unfold renT Ty.wt
    rw [wtL_ren g h l]
    rfl
theorem wtL_ren (g h : Int → Int) : ∀ l : List Ty, wtL (renL g h l) = wtL l
  | [] => rfl
  | x :: l => by
    simp only [renL, wtL]
    rw [wt_ren g h x, wtL_ren g h l]
end
mutual
theorem renL_len (g h : Int → Int) : ∀ l : List Ty, (renL g h l).length = l.length
  | [] => rfl
  | x :: l => by simp [renL, renL_len g h l]
end
theorem ln_ren (g h : Int → Int) {t : Ty} (ht : t.Ln) : (renT g h t).Ln := by
  induction ht with
  | mk d l hp hl sub ih =>
  unfold renT
  refine .mk _ _ (by rw [renL_len]; exact hp) hl ?_
  have key : ∀ l' : List Ty, (∀ x ∈ l', x ∈ l) → ∀ y ∈ renL g h l', y.Ln := by
    intro l'
    induction l' with
    | nil => intro _ y hy; cases hy
    | cons x l' ih' =>
      intro hs y hy
      unfold renL at hy
      rcases List.mem_cons.1 hy with rfl | hy
      · exact ih x (hs x (by simp))
      · exact ih' (fun z hz => hs z (by simp [hz])) y hy
  exact key l (fun x hx => hx)
theorem may_ren {g h : Int → Int} (hg : ∀ a, 0 ≤ a → 0 ≤ g a) (hh : ∀ a, 0 ≤ a → 0 ≤ h a) {t : Ty} (hm : (mayF t 0).isSome = true) : (mayF (renT g h t) 0).isSome = true := by
  rw [mayF_nodes] at hm ⊢
  split at hm
  · rename_i hc
    rw [if_pos ⟨fine_ren hg hh t hc.1, by rw [nodes_ren]; exact hc.2⟩]
    rfl
  · cases hm
theorem wf_small {n : Int} (h1 : -1000000000 ≤ n) (h2 : n ≤ 1000000000) : (Lit.int .i64 n).wf = true := by
  simp [Lit.wf, IntKind.min, IntKind.max, IntKind.signed, IntKind.bits]
  omega
theorem rg_ren {g h : Int → Int} {T R : List Int} (hg : ∀ n ∈ T, (Lit.int .i64 (g n)).wf = true) (hh : ∀ n ∈ R, (Lit.int .i64 (h n)).wf = true) {t : Ty} (ht : t.Rg) : t.vin T R → (renT g h t).Rg := by
  induction ht with
  | mk d l hn ht sub ih =>
  intro hv
  unfold Ty.vin at hv
  unfold renT
  refine .mk _ _ ?_ ?_ ?_
  · show (Lit.int .i64 (if d.kind = 7 then g d.n else d.n)).wf = true
    split
    · rename_i k; exact hg _ (hv.1 k)
    · exact hn
  · show (Lit.int .i64 (if (d.kind = 4 ∨ d.kind = 5) ∧ 0 ≤ d.tail then h d.tail else d.tail)).wf = true
    split
    · rename_i k; exact hh _ (hv.2.1 k.1 k.2)
    · exact ht
  · have key : ∀ l' : List Ty, (∀ x ∈ l', x ∈ l) → vinL T R l' → ∀ y ∈ renL g h l', y.Rg := by
      intro l'
      induction l' with
      | nil => intro _ _ y hy; cases hy
      | cons x l' ih' =>
        intro hs hv y hy
        unfold renL at hy
        unfold vinL at hv
        rcases List.mem_cons.1 hy with rfl | hy
        · exact ih x (hs x (by simp)) hv.1
        · exact ih' (fun z hz => hs z (by simp [hz])) hv.2 y hy
    exact key l (fun x hx => hx) hv.2.2
theorem kd7_of : ∀ {t : Ty}, t.Ln → t.fb → t.kd7 := by
  intro t ht
  induction ht with
  | mk d l hp hl sub ih =>
  intro hf
  unfold Ty.fb at hf
  refine .mk d l ?_ (fun x hx => ih x hx (fbL_mem l x hx hf.2))
  have h := hf.1
  unfold TyD.fieldsB at h
  split at h
  · omega
  split at h
  · omega
  split at h
  · omega
  split at h
  · omega
  split at h
  · omega
  · cases h
end Go.Proofs.YtklandpagieapaaDoor

namespace Go.Proofs.YtklandpagieapaaDoor
open Go.ChangeShapes Go.WideShapes Go.ChangeAt Go.RowKit Go.Sort Go.Maps
set_option linter.unusedVariables false
set_option linter.unusedSimpArgs false

/-- What a map has that was filled by a list. -/
def inF (mk : Int → Lf) (l : List Int) (n : Int) : Option Lf := if n ∈ l then some (mk n) else none
theorem mapIs_nil (mk : Int → Lf) : MapIs (inF mk []) 0 (.map []) :=
  ⟨fun n _ => rfl, fun n _ x h => (by cases h), rfl⟩
theorem mapIs_step {mk : Int → Lf} {w : World} {bk n k : Nat} {D : DataW Lf} {l : List Int} {x : Int} (h : OM w bk n D) (hD : MapIs (inF mk l) k D) (hx : x ∉ l) (hwf : (Lit.int .i64 x).wf = true) :
    MapIs (inF mk (l ++ [x])) (k + 1) (D.put (.int .i64 x) (.held (mk x))) := by
  have hkey : WideAt.IsKeyLit (.int .i64 x) := lawInt.key (keyOf_int_mk Tryd.underlying3 hwf)
  have hno : Maps.has D (.int .i64 x) = false := by
    rw [hD.has x hwf]
    unfold inF
    rw [if_neg hx]
    rfl
  refine ⟨fun n hn => ?_, fun n hn y hy zd => ?_, ?_⟩
  · by_cases e : n = x
    · subst e
      rw [has_put_same h.isMap hkey]
      unfold inF
      rw [if_pos (by simp)]
      rfl
    · rw [has_put_other (by intro h'; injection h' with _ h'; exact e h'), hD.has n hn]
      unfold inF
      by_cases hm : n ∈ l
      · rw [if_pos hm, if_pos (by simp [hm])]
      · rw [if_neg hm, if_neg (by simp [hm, e])]
  · by_cases e : n = x
    · subst e
      have hy' : y = mk n := by
        unfold inF at hy
        rw [if_pos (by simp)] at hy
        injection hy with hy
        exact hy.symm
      rw [hy']
      exact atKey_put_same h.isMap hkey _ _
    · rw [atKey_put_other (by intro h'; injection h' with _ h'; exact e h')]
      refine hD.val n hn y ?_ zd
      unfold inF at hy ⊢
      by_cases hm : n ∈ l
      · rw [if_pos (by simp [hm])] at hy
        rw [if_pos hm]
        exact hy
      · rw [if_neg (by simp [hm, e])] at hy
        cases hy
  · rw [size_put (h.tidy lawInt), hno]
    show Maps.size D + 1 = k + 1
    rw [hD.size]
def mkV (far n : Int) : Lf := ⟨7, n + far, -1, none, 0, none, 0⟩
def mkR (far n : Int) : Lf := ⟨4, 0, n + far, none, 0, none, 0⟩
theorem vF_in (far : Int) (T : List Int) : vF far T = inF (mkV far) T := rfl
theorem rF_in (far : Int) (R : List Int) : rF far R = inF (mkR far) R := rfl

set_option maxRecDepth 100000 in
set_option maxHeartbeats 1000000 in
theorem copies_nil (W : World) : Calls Tryd.prog 23 #[.slice none 0 0] W fun e w' => e = .returned (.slice none 0 0) ∧ Below W.heap.size W w' := by
  go_enter Tryd.func23, Tryd.ntmps23
  go_wp2_with fail
  refine wp_loop_rounds 1 ?_
  rw [rounds_succ]
  go_wp2_with fail
  go_returns
  exact ⟨rfl, Below.refl _ _⟩

set_option maxRecDepth 100000 in
set_option maxHeartbeats 1000000 in
theorem typRow_nil (n : Int) (W : World) : Calls Tryd.prog 10 #[.int .i64 4, .slice none 0 0, .slice none 0 0, .int .i64 n] W fun e w' => e = .returned (.agg #[.int .i64 4, .int .i64 0, .slice none 0 0, .slice none 0 0, .int .i64 n]) ∧ Below W.heap.size W w' := by
  have hbz : Below W.heap.size W (W.alloc (.cells #[.int .i64 0, .int .i64 0, .slice none 0 0, .slice none 0 0, .int .i64 0] 25)) := (Below.refl _ _).alloc (Nat.le_refl _) _
  have HG := Lib.hid (heap_alloc_new W (.cells #[.int .i64 0, .int .i64 0, .slice none 0 0, .slice none 0 0, .int .i64 0] 25))
  have HBZ := Lib.hid hbz
  clear hbz
  go_enter Tryd.func10, Tryd.ntmps10
  go_wp2_with fail
  generalize (W.alloc (.cells #[.int .i64 0, .int .i64 0, .slice none 0 0, .slice none 0 0, .int .i64 0] 25)) = w1 at *
  refine (copies_nil w1).mono ?_
  rintro e w2 ⟨rfl, hb2⟩
  have H2 := Lib.hid hb2
  clear hb2
  go_wp2_with fail
  refine (Tryd.slices_Clone_string_nil 0 0 w2).mono ?_
  rintro e w3 ⟨rfl, hw3⟩
  rw [hw3]
  clear hw3 w3
  have hq := (H2.out.block W.heap.size (lt_of_heap HG.out)).trans HG.out
  have HBE := Lib.hid (show Below W.heap.size W w2 from below_then HBZ.out H2.out)
  obtain ⟨r0, r1, r2, r3, r4⟩ := cells5 hq
  obtain ⟨z0, z1, z2, z3, z4⟩ := frozen5 hq
  have HF := Lib.hid (box5 w2 W.heap.size hq (.int .i64 4) (.int .i64 0) (.slice none 0 0) (.slice none 0 0) (.int .i64 n))
  have HB7 := Lib.hid (show Below W.heap.size W (((((w2.setCell ⟨W.heap.size, 0, none⟩ (.int .i64 4)).setCell ⟨W.heap.size, 1, none⟩ (.int .i64 0)).setCell ⟨W.heap.size, 2, none⟩ (.slice none 0 0)).setCell ⟨W.heap.size, 3, none⟩ (.slice none 0 0)).setCell ⟨W.heap.size, 4, none⟩ (.int .i64 n)) from Below.setCell (p := ⟨W.heap.size, 4, none⟩) (Below.setCell (p := ⟨W.heap.size, 3, none⟩) (Below.setCell (p := ⟨W.heap.size, 2, none⟩) (Below.setCell (p := ⟨W.heap.size, 1, none⟩) (Below.setCell (p := ⟨W.heap.size, 0, none⟩) HBE.out (Nat.le_refl _) _) (Nat.le_refl _) _) (Nat.le_refl _) _) (Nat.le_refl _) _) (Nat.le_refl _) _)
  clear hq
  go_wp2_with fail
  clear r0 r1 r2 r3 r4 z0 z1 z2 z3 z4
  generalize (((((w2.setCell ⟨W.heap.size, 0, none⟩ (.int .i64 4)).setCell ⟨W.heap.size, 1, none⟩ (.int .i64 0)).setCell ⟨W.heap.size, 2, none⟩ (.slice none 0 0)).setCell ⟨W.heap.size, 3, none⟩ (.slice none 0 0)).setCell ⟨W.heap.size, 4, none⟩ (.int .i64 n)) = w7 at *
  obtain ⟨e0, e1, e2, e3, e4⟩ := cells5 HF.out
  refine bodyPost_ret (by simp [results, Tryd.results10, go_sem, e0, e1, e2, e3, e4]; try rfl) rfl ?_
  exact ⟨rfl, HB7.out⟩
end Go.Proofs.YtklandpagieapaaDoor
