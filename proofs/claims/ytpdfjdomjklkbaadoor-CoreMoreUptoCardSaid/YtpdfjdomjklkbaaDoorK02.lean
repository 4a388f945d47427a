/-
  The machine: a function is called.
  The machine: a line is read.
  The machine: tuples of new memory.
  What operators make of integers and texts.
-/
import Derived.Test.YtpdfjdomjklkbaaDoorK01
import Derived.Deep.CutBlock
import Derived.Deep.DeepCutAuto
import Derived.IntWalk
namespace Go.Proofs.YtpdfjdomjklkbaaDoor
open Go.ChangeShapes Go.WideShapes Go.ChangeAt Go.RowKit Go.Sort
set_option linter.unusedVariables false
set_option linter.unusedSimpArgs false

theorem cells5 {w : World} {g : Nat} {x0 x1 x2 x3 x4 : Value} {T : TypeId} {fr : Nat × Nat} (h : w.heap[g]? = some (.cells #[x0, x1, x2, x3, x4] T fr)) :
    w.cell? ⟨g, 0, none⟩ = some x0 ∧ w.cell? ⟨g, 1, none⟩ = some x1 ∧ w.cell? ⟨g, 2, none⟩ = some x2 ∧ w.cell? ⟨g, 3, none⟩ = some x3 ∧ w.cell? ⟨g, 4, none⟩ = some x4 := by
  refine ⟨?_, ?_, ?_, ?_, ?_⟩ <;> (rw [Lib.cell_of_heap h]; rfl)
def St.call (s : St) (z y : Val) : St := if z.sort = 3 then (match z.f with
  | some (.mk self isRec x part env) => { s with next := some (part, (x, y) :: (if isRec then (self, z) :: env else env)) }
  | none => s) else { s with err := 11 }
theorem VR.fn {w0 w : World} {P : Nat → Prop} {z : Val} {A : Option Addr} {c : Nat} {p : Option Addr} (h : VR w0 w P z [.int .i64 z.sort, .int .i64 z.n, .string (bstr z.s), .slice none 0 0, .slice A z.l.length c, .pointer p]) : FR w0 w P z.f (.pointer p) := by
  cases h with
  | mk sort n s l f A c css u len rd bl cap sub fn => exact fn
section
variable {w0 w : World} {B mb : Nat} {s : St} {t i r v f nx nm : Value} {rcs vcs fcs : List (List Value)}
set_option maxHeartbeats 4000000 in
theorem call_any (h : Rep w0 B mb s w t i r v f nx nm rcs vcs fcs) (z y : Val) (A : Option Addr) (c : Nat) (p : Option Addr) (A6 : Option Addr) (k6 : Nat) (q6 : Option Addr) (hf : z.sort = 3 → z.f ≠ none)
    (hz : VR w0 w (Mv mb t r v f) z [.int .i64 z.sort, .int .i64 z.n, .string (bstr z.s), .slice none 0 0, .slice A z.l.length c, .pointer p])
    (hy : VR w0 w (Mv mb t r v f) y [.int .i64 y.sort, .int .i64 y.n, .string (bstr y.s), .slice none 0 0, .slice A6 y.l.length k6, .pointer q6]) :
    Calls Tryd.prog 37 #[.pointer (some ⟨mb, 0, none⟩), .agg #[.int .i64 z.sort, .int .i64 z.n, .string (bstr z.s), .slice none 0 0, .slice A z.l.length c, .pointer p], .agg #[.int .i64 y.sort, .int .i64 y.n, .string (bstr y.s), .slice none 0 0, .slice A6 y.l.length k6, .pointer q6]] w fun e w' => e = .returned (.tuple #[]) ∧ Post w0 B mb (Mv mb t r v f) w (s.call z y) w' := by
  have HBM := Lib.hid (fun (wr : World) (hb : Below w.heap.size w wr) => And.intro (Tr.below (P := Mv mb t r v f) hb) (hb.mono (Nat.le_of_lt (Nat.lt_of_le_of_lt h.base.2 h.lt))))
  by_cases hs : z.sort = 3
  · obtain ⟨fn, hfn⟩ : ∃ fn, z.f = some fn := Option.ne_none_iff_exists'.1 (hf hs)
    have hfr := hz.fn
    rw [hfn] at hfr
    cases hfr with
    | some self isRec x part pb po env fb u hcb bl hp he =>
      obtain ⟨u, rfl⟩ := he.ptr
      have hb1 : Below w.heap.size w (w.alloc (.cells #[.int .i64 3, .int .i64 z.n, .string (bstr z.s), .slice none 0 0, .slice A z.l.length c, .pointer (some ⟨fb, 0, none⟩)] 50)) := (Below.refl _ _).alloc (Nat.le_refl _) _
      have hb2 : Below w.heap.size w ((w.alloc (.cells #[.int .i64 3, .int .i64 z.n, .string (bstr z.s), .slice none 0 0, .slice A z.l.length c, .pointer (some ⟨fb, 0, none⟩)] 50)).alloc (.cells #[.int .i64 y.sort, .int .i64 y.n, .string (bstr y.s), .slice none 0 0, .slice A6 y.l.length k6, .pointer q6] 50)) := hb1.alloc (by rw [World.size_alloc]; omega) _
      have hb3 : Below w.heap.size w (((w.alloc (.cells #[.int .i64 3, .int .i64 z.n, .string (bstr z.s), .slice none 0 0, .slice A z.l.length c, .pointer (some ⟨fb, 0, none⟩)] 50)).alloc (.cells #[.int .i64 y.sort, .int .i64 y.n, .string (bstr y.s), .slice none 0 0, .slice A6 y.l.length k6, .pointer q6] 50)).alloc (.cells #[.string (bstr self), .int .i64 3, .int .i64 z.n, .string (bstr z.s), .slice none 0 0, .slice A z.l.length c, .pointer (some ⟨fb, 0, none⟩), .pointer u] 77)) := hb2.alloc (by rw [World.size_alloc, World.size_alloc]; omega) _
      obtain ⟨a0, a1, a2, a3, a4, a5⟩ := cells6 ((Below.heap_alloc _ (.cells #[.int .i64 y.sort, .int .i64 y.n, .string (bstr y.s), .slice none 0 0, .slice A6 y.l.length k6, .pointer q6] 50) _ (by rw [World.size_alloc]; omega)).trans (heap_new (w := w) (o := (.cells #[.int .i64 3, .int .i64 z.n, .string (bstr z.s), .slice none 0 0, .slice A z.l.length c, .pointer (some ⟨fb, 0, none⟩)] 50)) rfl))
      obtain ⟨d0, d1, d2, d3, d4, d5⟩ := cells6 (heap_new (w := w.alloc (.cells #[.int .i64 3, .int .i64 z.n, .string (bstr z.s), .slice none 0 0, .slice A z.l.length c, .pointer (some ⟨fb, 0, none⟩)] 50)) (o := (.cells #[.int .i64 y.sort, .int .i64 y.n, .string (bstr y.s), .slice none 0 0, .slice A6 y.l.length k6, .pointer q6] 50)) (World.size_alloc _ _))
      obtain ⟨x0, x1, x2, x3, x4⟩ := cells5 ((hb2.block fb (lt_of_heap hcb)).trans hcb)
      rw [hs] at hz ⊢
      cases isRec with
      | false =>
        have e : s.call z y = { s with next := some (part, (x, y) :: env) } := by unfold St.call; rw [if_pos hs, hfn]; rfl
        rw [e]
        have HC := Lib.hid (fun (wr : World) (hb : Below w.heap.size w wr) => bind_any (h.below hb) part env pb po u ⟨hp, he.keep (Tr.below hb)⟩ x y _ _ _ _ _ _ (hy.keep (Tr.below hb)))
        have HB2 := Lib.hid hb2
        clear e h hz hy hf hs hfn hb1 hb2 hb3 hcb bl hp he
        go_enter Tryd.func37, Tryd.ntmps37
        go_upto_region 6 with fail
        go_region_law (go_simp; go_at_call 26; (with_reducible refine (HC.out _ (Below.drew HB2.out)).mono ?_); rintro e1 w1 ⟨rfl, hp⟩; have HP := Lib.hid hp; clear hp)
        all_goals
          go_wp2_with fail
          go_returns
          with_reducible exact ⟨rfl, HP.out.mono (HBM.out _ (Below.drew HB2.out)).1 (HBM.out _ (Below.drew HB2.out)).2⟩
      | true =>
        have e : s.call z y = { s with next := some (part, (x, y) :: (self, z) :: env) } := by unfold St.call; rw [if_pos hs, hfn]; rfl
        rw [e]
        have hsz : ((w.alloc (.cells #[.int .i64 3, .int .i64 z.n, .string (bstr z.s), .slice none 0 0, .slice A z.l.length c, .pointer (some ⟨fb, 0, none⟩)] 50)).alloc (.cells #[.int .i64 y.sort, .int .i64 y.n, .string (bstr y.s), .slice none 0 0, .slice A6 y.l.length k6, .pointer q6] 50)).heap.size = w.heap.size + 2 := by rw [World.size_alloc, World.size_alloc]
        have hnm : (((w.alloc (.cells #[.int .i64 3, .int .i64 z.n, .string (bstr z.s), .slice none 0 0, .slice A z.l.length c, .pointer (some ⟨fb, 0, none⟩)] 50)).alloc (.cells #[.int .i64 y.sort, .int .i64 y.n, .string (bstr y.s), .slice none 0 0, .slice A6 y.l.length k6, .pointer q6] 50)).alloc (.cells #[.string (bstr self), .int .i64 3, .int .i64 z.n, .string (bstr z.s), .slice none 0 0, .slice A z.l.length c, .pointer (some ⟨fb, 0, none⟩), .pointer u] 77)).heap[w.heap.size + 2]? = some (.cells #[.string (bstr self), .int .i64 3, .int .i64 z.n, .string (bstr z.s), .slice none 0 0, .slice A z.l.length c, .pointer (some ⟨fb, 0, none⟩), .pointer u] 77) := heap_new hsz
        have hbb : Below (((w.alloc (.cells #[.int .i64 3, .int .i64 z.n, .string (bstr z.s), .slice none 0 0, .slice A z.l.length c, .pointer (some ⟨fb, 0, none⟩)] 50)).alloc (.cells #[.int .i64 y.sort, .int .i64 y.n, .string (bstr y.s), .slice none 0 0, .slice A6 y.l.length k6, .pointer q6] 50)).alloc (.cells #[.string (bstr self), .int .i64 3, .int .i64 z.n, .string (bstr z.s), .slice none 0 0, .slice A z.l.length c, .pointer (some ⟨fb, 0, none⟩), .pointer u] 77)).heap.size (((w.alloc (.cells #[.int .i64 3, .int .i64 z.n, .string (bstr z.s), .slice none 0 0, .slice A z.l.length c, .pointer (some ⟨fb, 0, none⟩)] 50)).alloc (.cells #[.int .i64 y.sort, .int .i64 y.n, .string (bstr y.s), .slice none 0 0, .slice A6 y.l.length k6, .pointer q6] 50)).alloc (.cells #[.string (bstr self), .int .i64 3, .int .i64 z.n, .string (bstr z.s), .slice none 0 0, .slice A z.l.length c, .pointer (some ⟨fb, 0, none⟩), .pointer u] 77)) (((w.alloc (.cells #[.int .i64 3, .int .i64 z.n, .string (bstr z.s), .slice none 0 0, .slice A z.l.length c, .pointer (some ⟨fb, 0, none⟩)] 50)).alloc (.cells #[.int .i64 y.sort, .int .i64 y.n, .string (bstr y.s), .slice none 0 0, .slice A6 y.l.length k6, .pointer q6] 50)).alloc (.cells #[.string (bstr self), .int .i64 3, .int .i64 z.n, .string (bstr z.s), .slice none 0 0, .slice A z.l.length c, .pointer (some ⟨fb, 0, none⟩), .pointer u] 77)) := Below.refl _ _
        have HER := Lib.hid (fun (wr : World) (hb : Below (((w.alloc (.cells #[.int .i64 3, .int .i64 z.n, .string (bstr z.s), .slice none 0 0, .slice A z.l.length c, .pointer (some ⟨fb, 0, none⟩)] 50)).alloc (.cells #[.int .i64 y.sort, .int .i64 y.n, .string (bstr y.s), .slice none 0 0, .slice A6 y.l.length k6, .pointer q6] 50)).alloc (.cells #[.string (bstr self), .int .i64 3, .int .i64 z.n, .string (bstr z.s), .slice none 0 0, .slice A z.l.length c, .pointer (some ⟨fb, 0, none⟩), .pointer u] 77)).heap.size (((w.alloc (.cells #[.int .i64 3, .int .i64 z.n, .string (bstr z.s), .slice none 0 0, .slice A z.l.length c, .pointer (some ⟨fb, 0, none⟩)] 50)).alloc (.cells #[.int .i64 y.sort, .int .i64 y.n, .string (bstr y.s), .slice none 0 0, .slice A6 y.l.length k6, .pointer q6] 50)).alloc (.cells #[.string (bstr self), .int .i64 3, .int .i64 z.n, .string (bstr z.s), .slice none 0 0, .slice A z.l.length c, .pointer (some ⟨fb, 0, none⟩), .pointer u] 77)) wr) => show ER w0 wr (Mv mb t r v f) ((self, z) :: env) (.pointer (some ⟨w.heap.size + 2, 0, none⟩)) from
          .cons self z env (w.heap.size + 2) _ _ _ _ _ _ (.pointer u) ((hb.block _ (lt_of_heap hnm)).trans hnm) (h.mvNew _ (by omega)) (hz.keep (Tr.below (below_then hb3 hb))) (he.keep (Tr.below (below_then hb3 hb))))
        have HC := Lib.hid (fun (wr : World) (hb : Below (((w.alloc (.cells #[.int .i64 3, .int .i64 z.n, .string (bstr z.s), .slice none 0 0, .slice A z.l.length c, .pointer (some ⟨fb, 0, none⟩)] 50)).alloc (.cells #[.int .i64 y.sort, .int .i64 y.n, .string (bstr y.s), .slice none 0 0, .slice A6 y.l.length k6, .pointer q6] 50)).alloc (.cells #[.string (bstr self), .int .i64 3, .int .i64 z.n, .string (bstr z.s), .slice none 0 0, .slice A z.l.length c, .pointer (some ⟨fb, 0, none⟩), .pointer u] 77)).heap.size (((w.alloc (.cells #[.int .i64 3, .int .i64 z.n, .string (bstr z.s), .slice none 0 0, .slice A z.l.length c, .pointer (some ⟨fb, 0, none⟩)] 50)).alloc (.cells #[.int .i64 y.sort, .int .i64 y.n, .string (bstr y.s), .slice none 0 0, .slice A6 y.l.length k6, .pointer q6] 50)).alloc (.cells #[.string (bstr self), .int .i64 3, .int .i64 z.n, .string (bstr z.s), .slice none 0 0, .slice A z.l.length c, .pointer (some ⟨fb, 0, none⟩), .pointer u] 77)) wr) => bind_any (h.below (below_then hb3 hb)) part ((self, z) :: env) pb po (some ⟨w.heap.size + 2, 0, none⟩) ⟨hp, HER.out wr hb⟩ x y _ _ _ _ _ _ (hy.keep (Tr.below (below_then hb3 hb))))
        have HB3 := Lib.hid hb3
        have HX0 := Lib.hid (show (((w.alloc (.cells #[.int .i64 3, .int .i64 z.n, .string (bstr z.s), .slice none 0 0, .slice A z.l.length c, .pointer (some ⟨fb, 0, none⟩)] 50)).alloc (.cells #[.int .i64 y.sort, .int .i64 y.n, .string (bstr y.s), .slice none 0 0, .slice A6 y.l.length k6, .pointer q6] 50)).alloc (.cells #[.string (bstr self), .int .i64 3, .int .i64 z.n, .string (bstr z.s), .slice none 0 0, .slice A z.l.length c, .pointer (some ⟨fb, 0, none⟩), .pointer u] 77)).heap[w.heap.size]? = some (.cells #[.int .i64 3, .int .i64 z.n, .string (bstr z.s), .slice none 0 0, .slice A z.l.length c, .pointer (some ⟨fb, 0, none⟩)] 50) from (Below.heap_alloc _ _ _ (by rw [hsz]; omega)).trans ((Below.heap_alloc _ (.cells #[.int .i64 y.sort, .int .i64 y.n, .string (bstr y.s), .slice none 0 0, .slice A6 y.l.length k6, .pointer q6] 50) _ (by rw [World.size_alloc]; omega)).trans (heap_new (w := w) (o := (.cells #[.int .i64 3, .int .i64 z.n, .string (bstr z.s), .slice none 0 0, .slice A z.l.length c, .pointer (some ⟨fb, 0, none⟩)] 50)) rfl)))
        have HX1 := Lib.hid (show (((w.alloc (.cells #[.int .i64 3, .int .i64 z.n, .string (bstr z.s), .slice none 0 0, .slice A z.l.length c, .pointer (some ⟨fb, 0, none⟩)] 50)).alloc (.cells #[.int .i64 y.sort, .int .i64 y.n, .string (bstr y.s), .slice none 0 0, .slice A6 y.l.length k6, .pointer q6] 50)).alloc (.cells #[.string (bstr self), .int .i64 3, .int .i64 z.n, .string (bstr z.s), .slice none 0 0, .slice A z.l.length c, .pointer (some ⟨fb, 0, none⟩), .pointer u] 77)).heap[w.heap.size + 1]? = some (.cells #[.int .i64 y.sort, .int .i64 y.n, .string (bstr y.s), .slice none 0 0, .slice A6 y.l.length k6, .pointer q6] 50) from (Below.heap_alloc _ _ _ (by rw [hsz]; omega)).trans (heap_new (w := w.alloc (.cells #[.int .i64 3, .int .i64 z.n, .string (bstr z.s), .slice none 0 0, .slice A z.l.length c, .pointer (some ⟨fb, 0, none⟩)] 50)) (o := (.cells #[.int .i64 y.sort, .int .i64 y.n, .string (bstr y.s), .slice none 0 0, .slice A6 y.l.length k6, .pointer q6] 50)) (World.size_alloc _ _)))
        have HXF := Lib.hid ((hb3.block fb (lt_of_heap hcb)).trans hcb)
        clear e h hz hy hf hs hfn hb1 hb2 hb3 hcb bl hp he hbb hnm
        go_enter Tryd.func37, Tryd.ntmps37
        go_upto_region 5 with fail
        go_cut [6] (fun x6 wx => x6 = .pointer (some ⟨w.heap.size + 2, 0, none⟩) ∧ wx = (((w.alloc (.cells #[.int .i64 3, .int .i64 z.n, .string (bstr z.s), .slice none 0 0, .slice A z.l.length c, .pointer (some ⟨fb, 0, none⟩)] 50)).alloc (.cells #[.int .i64 y.sort, .int .i64 y.n, .string (bstr y.s), .slice none 0 0, .slice A6 y.l.length k6, .pointer q6] 50)).alloc (.cells #[.string (bstr self), .int .i64 3, .int .i64 z.n, .string (bstr z.s), .slice none 0 0, .slice A z.l.length c, .pointer (some ⟨fb, 0, none⟩), .pointer u] 77)).drew)
        case first =>
          go_region_law fail
          all_goals
            go_wp2_with fail
            go_meet
            exact ⟨rfl, rfl⟩
        case rest =>
          obtain ⟨rfl, rfl⟩ := hcut
          have hbx : Below (((w.alloc (.cells #[.int .i64 3, .int .i64 z.n, .string (bstr z.s), .slice none 0 0, .slice A z.l.length c, .pointer (some ⟨fb, 0, none⟩)] 50)).alloc (.cells #[.int .i64 y.sort, .int .i64 y.n, .string (bstr y.s), .slice none 0 0, .slice A6 y.l.length k6, .pointer q6] 50)).alloc (.cells #[.string (bstr self), .int .i64 3, .int .i64 z.n, .string (bstr z.s), .slice none 0 0, .slice A z.l.length c, .pointer (some ⟨fb, 0, none⟩), .pointer u] 77)).heap.size (((w.alloc (.cells #[.int .i64 3, .int .i64 z.n, .string (bstr z.s), .slice none 0 0, .slice A z.l.length c, .pointer (some ⟨fb, 0, none⟩)] 50)).alloc (.cells #[.int .i64 y.sort, .int .i64 y.n, .string (bstr y.s), .slice none 0 0, .slice A6 y.l.length k6, .pointer q6] 50)).alloc (.cells #[.string (bstr self), .int .i64 3, .int .i64 z.n, .string (bstr z.s), .slice none 0 0, .slice A z.l.length c, .pointer (some ⟨fb, 0, none⟩), .pointer u] 77)) (((w.alloc (.cells #[.int .i64 3, .int .i64 z.n, .string (bstr z.s), .slice none 0 0, .slice A z.l.length c, .pointer (some ⟨fb, 0, none⟩)] 50)).alloc (.cells #[.int .i64 y.sort, .int .i64 y.n, .string (bstr y.s), .slice none 0 0, .slice A6 y.l.length k6, .pointer q6] 50)).alloc (.cells #[.string (bstr self), .int .i64 3, .int .i64 z.n, .string (bstr z.s), .slice none 0 0, .slice A z.l.length c, .pointer (some ⟨fb, 0, none⟩), .pointer u] 77)).drew := below_drew1 _
          clear a0 a1 a2 a3 a4 a5 d0 d1 d2 d3 d4 d5 x0 x1 x2 x3 x4
          obtain ⟨a0, a1, a2, a3, a4, a5⟩ := cells6 ((hbx.block _ (lt_of_heap HX0.out)).trans HX0.out)
          obtain ⟨d0, d1, d2, d3, d4, d5⟩ := cells6 ((hbx.block _ (lt_of_heap HX1.out)).trans HX1.out)
          obtain ⟨x0, x1, x2, x3, x4⟩ := cells5 ((hbx.block _ (lt_of_heap HXF.out)).trans HXF.out)
          clear hbx
          go_upto_region 6 with fail
          go_region_law (go_simp; go_at_call 26; (with_reducible refine (HC.out _ (Below.drew (Below.drew (Below.refl _ _)))).mono ?_); rintro e1 w1 ⟨rfl, hp⟩; have HP := Lib.hid hp; clear hp)
          all_goals
            go_wp2_with fail
            go_returns
            with_reducible exact ⟨rfl, HP.out.mono (HBM.out _ (Below.drew (Below.drew HB3.out))).1 (HBM.out _ (Below.drew (Below.drew HB3.out))).2⟩
  · have e : s.call z y = { s with err := 11 } := by unfold St.call; rw [if_neg hs]
    rw [e]
    have hb1 : Below w.heap.size w (w.alloc (.cells #[.int .i64 z.sort, .int .i64 z.n, .string (bstr z.s), .slice none 0 0, .slice A z.l.length c, .pointer p] 50)) := (Below.refl _ _).alloc (Nat.le_refl _) _
    have hb : Below w.heap.size w ((w.alloc (.cells #[.int .i64 z.sort, .int .i64 z.n, .string (bstr z.s), .slice none 0 0, .slice A z.l.length c, .pointer p] 50)).alloc (.cells #[.int .i64 y.sort, .int .i64 y.n, .string (bstr y.s), .slice none 0 0, .slice A6 y.l.length k6, .pointer q6] 50)) := hb1.alloc (by rw [World.size_alloc]; omega) _
    have HC := Lib.hid (stuck_any (h.below hb))
    have HB := Lib.hid hb
    obtain ⟨b0, b1, b2, b3, b4, b5⟩ := cells6 ((Below.heap_alloc _ (.cells #[.int .i64 y.sort, .int .i64 y.n, .string (bstr y.s), .slice none 0 0, .slice A6 y.l.length k6, .pointer q6] 50) _ (by rw [World.size_alloc]; omega)).trans (heap_new (w := w) (o := (.cells #[.int .i64 z.sort, .int .i64 z.n, .string (bstr z.s), .slice none 0 0, .slice A z.l.length c, .pointer p] 50)) rfl))
    clear e h hb hb1 hz hy hf
    go_enter Tryd.func37, Tryd.ntmps37
    go_wp2_with (go_at_call 22; (with_reducible refine HC.out.mono ?_); rintro e1 w1 ⟨rfl, hp⟩; have HP := Lib.hid hp; clear hp HC)
    go_returns
    with_reducible exact ⟨rfl, HP.out.mono (HBM.out _ HB.out).1 (HBM.out _ HB.out).2⟩
end
end Go.Proofs.YtpdfjdomjklkbaaDoor

namespace Go.Proofs.YtpdfjdomjklkbaaDoor
open Go.ChangeShapes Go.WideShapes Go.ChangeAt Go.RowKit Go.Sort
set_option linter.unusedVariables false
set_option linter.unusedSimpArgs false

def lineOf : List Str → Str × List Str × Int
  | [] => ([], [], 3)
  | x :: l => if 2000 < x.length then ([], [], 2) else (x, l, 0)
/-- A row of texts that stands, below B. -/
def InR (w : World) (B : Nat) (l : List Str) (i : Value) : Prop := ∃ A c, i = .slice A l.length c ∧ (l.length ≤ c ∧ c ≤ maxLen) ∧ Rd w 1 A l.length (strs l) ∧ (0 < l.length → ∀ a, A = some a → a.block < B)
theorem InR.nil (w : World) (B : Nat) : InR w B [] (.slice none 0 0) := ⟨none, 0, rfl, ⟨Nat.le_refl 0, by decide⟩, Rd.nil w 1 none, fun h => absurd h (Nat.lt_irrefl 0)⟩
theorem InR.below {w w' : World} {B : Nat} {l : List Str} {i : Value} (h : InR w B l i) (hb : Below w.heap.size w w') : InR w' B l i := by
  obtain ⟨A, c, h1, h2, h3, h4⟩ := h
  exact ⟨A, c, h1, h2, h3.below hb, h4⟩
set_option maxHeartbeats 2000000 in
theorem line_any (w : World) (B : Nat) (l : List Str) (i : Value) (h : InR w B l i) (hl : l.length ≤ 100000000000) : Calls Tryd.prog 34 #[i] w fun e w' => ∃ i', e = .returned (.tuple #[.string (bstr (lineOf l).1), i', .int .i64 (lineOf l).2.2]) ∧ InR w B (lineOf l).2.1 i' ∧ Below w.heap.size w w' := by
  obtain ⟨A, c, rfl, hc, hr, hb⟩ := h
  cases l with
  | nil =>
    have HI := Lib.hid (InR.nil w B)
    clear hr hb
    go_enter Tryd.func34, Tryd.ntmps34
    go_wp2_with fail
    go_returns
    exact ⟨_, rfl, HI.out, Below.refl _ _⟩
  | cons x l =>
    obtain ⟨b, o, rfl, hbl, hcell⟩ := hr.base (by rw [strs_length]; exact Nat.succ_pos _)
    have c0 := hcell 0 _ (strs_at (x :: l) 0 (Nat.succ_pos _))
    rw [Nat.add_zero] at c0
    simp only [List.getElem_cons_zero] at c0
    have n0 : ¬ ((l.length : Int) + 1 = 0) := by omega
    have n1 : (0 : Int) < (l.length : Int) + 1 := by omega
    have n2 : (1 : Int) ≤ (l.length : Int) + 1 := by omega
    have hrr := hr.from_ (lo := 1) (by simp only [List.length_cons]; omega) hc.1 (k := 1) rfl
    rw [strs_drop] at hrr
    have hin : InR w B l (.slice (if c = 1 then some ⟨b, o, none⟩ else some ⟨b, o + 1, none⟩) l.length (c - 1)) := by
      refine ⟨_, _, rfl, ⟨by have := hc.1; simp only [List.length_cons] at this; omega, by have := hc.2; omega⟩, ?_, fun _ a ha => ?_⟩
      · simpa [Addr.add_lit] using hrr
      · have hB := hb (by simp only [List.length_cons]; omega) _ rfl
        split at ha <;> (cases ha; exact hB)
    by_cases hx : 2000 < x.length
    · have HI := Lib.hid (InR.nil w B)
      have hE : lineOf (x :: l) = ([], [], 2) := by show (if 2000 < x.length then _ else _) = _; rw [if_pos hx]
      rw [hE]
      have hx1 : (2000 : Int) < ((bstr x).size : Int) := by rw [bstr_size]; omega
      clear hr hb hcell hE hrr hin
      go_enter Tryd.func34, Tryd.ntmps34
      go_wp2_with fail
      go_returns
      exact ⟨_, rfl, HI.out, Below.refl _ _⟩
    · have hE : lineOf (x :: l) = (x, l, 0) := by show (if 2000 < x.length then _ else _) = _; rw [if_neg hx]
      rw [hE]
      have hx1 : ¬ (2000 : Int) < ((bstr x).size : Int) := by rw [bstr_size]; omega
      by_cases hc1 : c = 1
      · rw [if_pos hc1] at hin
        subst hc1
        have HI := Lib.hid hin
        clear hr hb hcell hE hrr hin
        go_enter Tryd.func34, Tryd.ntmps34
        go_upto_region 5 with fail
        go_region_law fail
        all_goals
          go_wp2_with fail
          go_returns
          exact ⟨_, rfl, HI.out, (Below.refl _ _).drew⟩
      · rw [if_neg hc1] at hin
        have HI := Lib.hid hin
        clear hr hb hcell hE hrr hin
        go_enter Tryd.func34, Tryd.ntmps34
        go_upto_region 5 with fail
        go_region_law fail
        all_goals
          go_wp2_with fail
          go_returns
          exact ⟨_, rfl, HI.out, (Below.refl _ _).drew⟩
section
variable {w0 w : World} {B mb : Nat} {s : St} {t i r v f nx nm : Value} {rcs vcs fcs : List (List Value)}
def St.read (s : St) : St := St.tell { s with input := (lineOf s.input).2.1 } (.mk 2 0 (lineOf s.input).1 [] none) (lineOf s.input).2.2 true
set_option maxHeartbeats 2000000 in
theorem read_any (h : Rep w0 B mb s w t i r v f nx nm rcs vcs fcs) (hv : s.vals.length ≤ 100000000000) (hl : s.input.length ≤ 100000000000) :
    Calls Tryd.prog 28 #[.pointer (some ⟨mb, 0, none⟩)] w fun e w' => e = .returned (.tuple #[]) ∧ Post w0 B mb (Mv mb t r v f) w s.read w' := by
  have HC := Lib.hid (line_any w B s.input i h.inp hl)
  have c4 := (cells11 h.hd).2.2.2.2.1
  have HH := Lib.hid h
  have HV := Lib.hid hv
  have HBM := Lib.hid (fun (wr : World) (hb : Below w.heap.size w wr) => And.intro (Tr.below (P := Mv mb t r v f) hb) (hb.mono (Nat.le_of_lt (Nat.lt_of_le_of_lt h.base.2 h.lt))))
  clear h hl hv
  go_enter Tryd.func28, Tryd.ntmps28
  go_wp2_with (first
    | (go_at_call 34; (with_reducible refine HC.out.mono ?_); rintro e1 w1 ⟨i', rfl, hi0, hb1⟩; obtain ⟨A9, c9, rfl, hq1, hq2, hq3⟩ := hi0; have hi' := InR.below ⟨A9, c9, rfl, hq1, hq2, hq3⟩ hb1; have HB := Lib.hid hb1; have HS := Lib.hid ((HH.out.below hb1).set1 (s' := { s with input := (lineOf s.input).2.1 }) 4 (.slice A9 (lineOf s.input).2.1.length c9) rfl ⟨rfl, rfl, rfl, rfl⟩ hi' (HH.out.nxt.keep (Tr.below hb1))); have d4 := (cells11 (HH.out.below hb1).hd).2.2.2.2.1; have e4 := frozenN (HH.out.below hb1).hd 4; have HT := Lib.hid (tellF_any HS.out.1 HV.out (.mk 2 0 (lineOf s.input).1 [] none) none 0 none (lineOf s.input).2.2 true (fun _ _ => plain_vr w0 _ _ 2 0 (lineOf s.input).1)); clear hi' hq1 hq2 hq3 hb1)
    | (go_at_call 35; (refine HT.out.mono ?_); rintro e1 w2 ⟨rfl, hp⟩; have HP := Lib.hid hp; clear hp HT))
  go_returns
  exact ⟨rfl, (HP.out.mono HS.out.2.1 HS.out.2.2).mono (HBM.out _ HB.out).1 (HBM.out _ HB.out).2⟩
end
end Go.Proofs.YtpdfjdomjklkbaaDoor

namespace Go.Proofs.YtpdfjdomjklkbaaDoor
open Go.ChangeShapes Go.WideShapes Go.ChangeAt Go.RowKit Go.Sort
set_option linter.unusedVariables false
set_option linter.unusedSimpArgs false

theorem VR.ones {w0 w : World} {P : Nat → Prop} {z : Val} {cs : List Value} (h : VR w0 w P z cs) : ∀ u ∈ cs, u.oneCell' = true := by
  obtain ⟨A, c, q, rfl⟩ := h.six
  intro u hu
  simp at hu
  rcases hu with rfl | rfl | rfl | rfl | rfl | rfl <;> rfl
theorem vrs_ones {w0 w : World} {P : Nat → Prop} {l : List Val} {css : List (List Value)} (h : LR (VR w0 w P) l css) : ∀ u ∈ css.flatten, u.oneCell' = true := by
  intro u hu
  obtain ⟨c, hc, hu⟩ := List.mem_flatten.1 hu
  obtain ⟨j, hj, e⟩ := List.getElem_of_mem hc
  exact (h.at_ j _ c (List.getElem?_eq_getElem (by rw [← h.len]; exact hj)) (by rw [List.getElem?_eq_getElem hj, e])).ones u hu
theorem vnil_yes (n c : Nat) (w : World) : (binOp .eql 47 (.slice none n c) (.slice none 0 0)).run Tryd.prog w = .ok (.bool true) w := by kernel_rfl
theorem vnil_no (a : Addr) (n c : Nat) (w : World) : (binOp .eql 47 (.slice (some a) n c) (.slice none 0 0)).run Tryd.prog w = .ok (.bool false) w := by kernel_rfl
/-- Values side by side, anywhere. -/
structure Vs (w0 w : World) (P : Nat → Prop) (l : List Val) (A : Option Addr) (css : List (List Value)) : Prop where
  rd : Rd w 6 A l.length css.flatten
  lr : LR (VR w0 w P) l css
theorem Vs.below {w0 w w' : World} {P : Nat → Prop} {l : List Val} {A : Option Addr} {css : List (List Value)} (h : Vs w0 w P l A css) (hb : Below w.heap.size w w') : Vs w0 w' P l A css := ⟨h.rd.below hb, h.lr.imp (fun a c => VR.keep (Tr.below hb))⟩
/-- A tuple of values that stand. -/
theorem Vs.vr {w0 w : World} {P : Nat → Prop} {l : List Val} {A : Option Addr} {css : List (List Value)} (h : Vs w0 w P l A css) (hP : 0 < l.length → ∀ a, A = some a → P a.block) {c : Nat} (hc : l.length ≤ c ∧ c ≤ maxLen) (sort n : Int) (s : Str) :
    VR w0 w P (.mk sort n s l none) [.int .i64 sort, .int .i64 n, .string (bstr s), .slice none 0 0, .slice A l.length c, .pointer none] :=
  .mk sort n s l none A c css _ h.lr.len h.rd hP hc (fun i v cs h1 h2 => h.lr.at_ i v cs h1 h2) .none
set_option maxRecDepth 100000 in
set_option maxHeartbeats 1000000 in
theorem vclone_any (w0 w : World) (P : Nat → Prop) (A : Option Addr) (l : List Val) (css : List (List Value)) (c : Nat) (h : Vs w0 w P l A css) (hm : l.length ≤ 100000000000) :
    Calls Tryd.prog 45 #[.slice A l.length c] w fun e w' => ∃ A' c', e = .returned (.slice A' l.length c') ∧ Vs w0 w' P l A' css ∧ (0 < l.length → ∀ a, A' = some a → w.heap.size ≤ a.block) ∧ (l.length ≤ c' ∧ c' ≤ maxLen) ∧ Below w.heap.size w w' := by
  have HR := Lib.hid h
  have HM := Lib.hid hm
  have q1 := vnil_yes
  have q2 := vnil_no
  cases A with
  | none =>
    have hn : l.length = 0 := by
      rcases Nat.eq_zero_or_pos l.length with q | q
      · exact q
      · obtain ⟨a, e, _⟩ := h.rd.addr (by rw [h.rd.1]; omega)
        cases e
    clear h hm
    go_enter Tryd.func45, Tryd.ntmps45
    go_wp2_with fail
    go_returns
    exact ⟨none, 0, by rw [hn]; rfl, HR.out, fun h => absurd h (by omega), ⟨by omega, by simp [maxLen]⟩, Below.refl _ _⟩
  | some a =>
    clear h hm
    have HO := Lib.hid (vrs_ones HR.out.lr)
    have HRD := Lib.hid (HR.out.rd.alloc (.cells #[] 50))
    go_enter Tryd.func45, Tryd.ntmps45
    have HOW := Lib.hid (World.ownsRow_made (base := w.heap.size) (e := 50) (size := 6) w #[] 0 (Nat.le_refl _) (by simp [maxLen]) rfl)
    go_wp2_with (at_builtin; refine wpList_app elVal _ rfl (.tmp 5) (.tmp 6) rfl w.heap.size (.slice (some ⟨w.heap.size, 0, none⟩) 0 0) 0 [] rfl HOW.out (some a) l.length c _ rfl HRD.out HO.out (by have := HM.out; omega) (by simp) ?_; intro v6 w6 hown6 hb6 hg6 hat6; rw [Nat.zero_add] at hown6; rw [List.nil_append] at hown6; obtain ⟨A6, c6, hv6, hnc6, hcm6, _⟩ := own_cap hown6; rw [hv6] at hown6 hat6 ⊢; clear hv6)
    go_returns
    have hbb : Below w.heap.size w w6 := ((Below.refl w.heap.size w).alloc (Nat.le_refl _) _).trans hb6
    refine ⟨A6, c6, rfl, ⟨Rd.of_own hown6, HR.out.lr.imp (fun a c => VR.keep (Tr.below hbb))⟩, ?_, ⟨by assumption, by assumption⟩, hbb⟩
    intro _ a' ha'
    subst ha'
    exact (hown6.lt a'.block rfl).1
/-- Six cells of a block of its own, written. -/
theorem own_block6 {w w1 : World} {g : Nat} {x0 x1 x2 x3 x4 x5 : Value} {T : TypeId} (h : w1.heap[g]? = some (.cells #[x0, x1, x2, x3, x4, x5] T)) (a0 a1 a2 a3 a4 a5 : Value) (hb : Below w.heap.size w w1) (hg : w.heap.size ≤ g) :
    ((((((w1.setCell ⟨g, 0, none⟩ a0).setCell ⟨g, 1, none⟩ a1).setCell ⟨g, 2, none⟩ a2).setCell ⟨g, 3, none⟩ a3).setCell ⟨g, 4, none⟩ a4).setCell ⟨g, 5, none⟩ a5).heap[g]? = some (.cells #[a0, a1, a2, a3, a4, a5] T) ∧
    Below w.heap.size w ((((((w1.setCell ⟨g, 0, none⟩ a0).setCell ⟨g, 1, none⟩ a1).setCell ⟨g, 2, none⟩ a2).setCell ⟨g, 3, none⟩ a3).setCell ⟨g, 4, none⟩ a4).setCell ⟨g, 5, none⟩ a5) ∧
    ∀ b, b ≠ g → ((((((w1.setCell ⟨g, 0, none⟩ a0).setCell ⟨g, 1, none⟩ a1).setCell ⟨g, 2, none⟩ a2).setCell ⟨g, 3, none⟩ a3).setCell ⟨g, 4, none⟩ a4).setCell ⟨g, 5, none⟩ a5).heap[b]? = w1.heap[b]? :=
  ⟨set_cells (set_cells (set_cells (set_cells (set_cells (set_cells h 0 a0) 1 a1) 2 a2) 3 a3) 4 a4) 5 a5,
    ((((((hb.setCell (p := ⟨g, 0, none⟩) hg a0).setCell (p := ⟨g, 1, none⟩) hg a1).setCell (p := ⟨g, 2, none⟩) hg a2).setCell (p := ⟨g, 3, none⟩) hg a3).setCell (p := ⟨g, 4, none⟩) hg a4).setCell (p := ⟨g, 5, none⟩) hg a5),
    fun b h => by rw [set_other _ _ _ _ h, set_other _ _ _ _ h, set_other _ _ _ _ h, set_other _ _ _ _ h, set_other _ _ _ _ h, set_other _ _ _ _ h]⟩
/-- What is read of them. -/
theorem reads_block6 {w1 : World} {g : Nat} {x0 x1 x2 x3 x4 x5 : Value} {T : TypeId} (h : w1.heap[g]? = some (.cells #[x0, x1, x2, x3, x4, x5] T)) (a0 a1 a2 a3 a4 a5 : Value) :
    (w1.setCell ⟨g, 0, none⟩ a0).cell? ⟨g, 0, none⟩ = some a0 ∧ ((w1.setCell ⟨g, 0, none⟩ a0).setCell ⟨g, 1, none⟩ a1).cell? ⟨g, 1, none⟩ = some a1 ∧ (((w1.setCell ⟨g, 0, none⟩ a0).setCell ⟨g, 1, none⟩ a1).setCell ⟨g, 2, none⟩ a2).cell? ⟨g, 2, none⟩ = some a2 ∧ ((((w1.setCell ⟨g, 0, none⟩ a0).setCell ⟨g, 1, none⟩ a1).setCell ⟨g, 2, none⟩ a2).setCell ⟨g, 3, none⟩ a3).cell? ⟨g, 3, none⟩ = some a3 ∧ (((((w1.setCell ⟨g, 0, none⟩ a0).setCell ⟨g, 1, none⟩ a1).setCell ⟨g, 2, none⟩ a2).setCell ⟨g, 3, none⟩ a3).setCell ⟨g, 4, none⟩ a4).cell? ⟨g, 4, none⟩ = some a4 ∧ ((((((w1.setCell ⟨g, 0, none⟩ a0).setCell ⟨g, 1, none⟩ a1).setCell ⟨g, 2, none⟩ a2).setCell ⟨g, 3, none⟩ a3).setCell ⟨g, 4, none⟩ a4).setCell ⟨g, 5, none⟩ a5).cell? ⟨g, 5, none⟩ = some a5 :=
  ⟨by rw [Lib.cell_of_heap (set_cells h 0 a0)]; rfl, by rw [Lib.cell_of_heap (set_cells (set_cells h 0 a0) 1 a1)]; rfl, by rw [Lib.cell_of_heap (set_cells (set_cells (set_cells h 0 a0) 1 a1) 2 a2)]; rfl, by rw [Lib.cell_of_heap (set_cells (set_cells (set_cells (set_cells h 0 a0) 1 a1) 2 a2) 3 a3)]; rfl, by rw [Lib.cell_of_heap (set_cells (set_cells (set_cells (set_cells (set_cells h 0 a0) 1 a1) 2 a2) 3 a3) 4 a4)]; rfl, by rw [Lib.cell_of_heap (set_cells (set_cells (set_cells (set_cells (set_cells (set_cells h 0 a0) 1 a1) 2 a2) 3 a3) 4 a4) 5 a5)]; rfl⟩
theorem tuple_ret {R : Ending → World → Prop} (W : World) (g : Nat) (x0 x1 x2 x3 x4 x5 u0 u1 u3 u4 u5 : Value) (h : W.heap[g]? = some (.cells #[x0, x1, x2, x3, x4, x5] 50)) (hR : R (.returned (.agg #[x0, x1, x2, x3, x4, x5])) W) :
    bodyPost Tryd.prog Tryd.f36 R Exit.ret ⟨#[u0, u1, .pointer (some ⟨g, 0, none⟩), u3, u4, u5], []⟩ W := by
  obtain ⟨b0, b1, b2, b3, b4, b5⟩ := cells6 h
  refine bodyPost_ret (by simp [results, Tryd.results36, go_sem, b0, b1, b2, b3, b4, b5]; try rfl) rfl ?_
  exact hR
set_option maxHeartbeats 1000000 in
theorem tuple_any (w0 w : World) (P : Nat → Prop) (hP : ∀ b, w.heap.size ≤ b → P b) (A : Option Addr) (l : List Val) (css : List (List Value)) (c : Nat) (h : Vs w0 w P l A css) (hm : l.length ≤ 100000000000) :
    Calls Tryd.prog 36 #[.slice A l.length c] w fun e w' => ∃ A' c', e = .returned (.agg #[.int .i64 4, .int .i64 0, .string ⟨#[]⟩, .slice none 0 0, .slice A' l.length c', .pointer none]) ∧ VR w0 w' P (.mk 4 0 [] l none) [.int .i64 4, .int .i64 0, .string (bstr []), .slice none 0 0, .slice A' l.length c', .pointer none] ∧ Below w.heap.size w w' := by
  have hb1 : Below w.heap.size w (w.alloc (.cells #[.int .i64 0, .int .i64 0, .string ⟨#[]⟩, .slice none 0 0, .slice none 0 0, .pointer none] 50)) := (Below.refl _ _).alloc (Nat.le_refl _) _
  have HC := Lib.hid (vclone_any w0 _ P A l css c (h.below hb1) hm)
  have HB := Lib.hid hb1
  have HP := Lib.hid hP
  have hx := heap_new (w := w) (o := .cells #[.int .i64 0, .int .i64 0, .string ⟨#[]⟩, .slice none 0 0, .slice none 0 0, .pointer none] 50) rfl
  have HX := Lib.hid hx
  have HL := Lib.hid h.lr
  clear h hm hb1 hP hx
  go_enter Tryd.func36, Tryd.ntmps36
  go_wp2_with (go_at_call 45; (with_reducible refine HC.out.mono ?_); rintro e1 w1 ⟨A', c', rfl, hv1, ha1, hc1, hb1⟩; have hx1 := (hb1.block _ (lt_of_heap HX.out)).trans HX.out; obtain ⟨a0, a1, a2, a3, a4, a5⟩ := cells6 hx1; have z0 := frozenN hx1 0; have z1 := frozenN hx1 1; have z2 := frozenN hx1 2; have z3 := frozenN hx1 3; have z4 := frozenN hx1 4; have z5 := frozenN hx1 5; obtain ⟨y1, y2, y3⟩ := own_block6 hx1 (.int .i64 4) (.int .i64 0) (.string ⟨#[]⟩) (.slice none 0 0) (.slice A' l.length c') (.pointer none) (below_then HB.out hb1) (Nat.le_refl _); have H2 := Lib.hid (And.intro y1 (And.intro y2 y3)); clear y1 y2 y3; have H1 := Lib.hid (And.intro hv1 (And.intro ha1 (And.intro hc1 hb1))); clear hv1 ha1 hc1 hb1 hx1)
  with_reducible refine tuple_ret _ _ _ _ _ _ _ _ _ _ _ _ _ H2.out.1 ?_
  refine ⟨A', c', rfl, ?_, H2.out.2.1⟩
  obtain ⟨hv1, ha1, hc1, hb1⟩ := H1.out
  have hrd := rd_keepP (P := fun b => w.heap.size + 1 ≤ b) hv1.rd (fun hn a ha => by have := ha1 hn a ha; rw [World.size_alloc] at this; exact this) (fun b hb _ => H2.out.2.2 b (by omega))
  refine Vs.vr ⟨hrd, HL.out.imp (fun a c => VR.keep (Tr.below H2.out.2.1))⟩ (fun hn a ha => HP.out _ ?_) hc1 4 0 []
  have := ha1 hn a ha
  rw [World.size_alloc] at this
  omega
end Go.Proofs.YtpdfjdomjklkbaaDoor

namespace Go.Proofs.YtpdfjdomjklkbaaDoor
open Go.ChangeShapes Go.WideShapes Go.ChangeAt Go.RowKit Go.Sort
set_option linter.unusedVariables false
set_option linter.unusedSimpArgs false

theorem bstr_app (a b : Str) : bstr a ++ bstr b = bstr (a ++ b) := by
  apply ByteArray.ext
  simp [bstr]
theorem bstr_get (a : Str) (k : Nat) (h : k < a.length) (h' : k < (bstr a).size) : (bstr a)[k] = a[k] := by
  show (bstr a).data[k] = _
  simp [bstr]
  rfl
theorem truth_any (w : World) (x : Bool) : Calls Tryd.prog 54 #[.bool x] w fun e w' => e = .returned (.int .i64 (if x = true then 1 else 0)) ∧ Below w.heap.size w w' := by
  cases x with
  | true =>
    go_enter Tryd.func54, Tryd.ntmps54
    go_wp2_with fail
    go_returns
    exact ⟨rfl, Below.refl _ _⟩
  | false =>
    go_enter Tryd.func54, Tryd.ntmps54
    go_wp2_with fail
    go_returns
    exact ⟨rfl, Below.refl _ _⟩
def joinOf (a b : Str) : Str × Int := if 2000 < a.length + b.length then ([], 2) else (a ++ b, 0)
set_option maxHeartbeats 1000000 in
theorem join_any (w : World) (a b : Str) (ha : a.length ≤ 4000000) (hb : b.length ≤ 4000000) : Calls Tryd.prog 48 #[.string (bstr a), .string (bstr b)] w fun e w' => e = .returned (.tuple #[.string (bstr (joinOf a b).1), .int .i64 (joinOf a b).2]) ∧ Below w.heap.size w w' := by
  have h1 : ((bstr a).size : Int) ≤ 4000000 := by rw [bstr_size]; omega
  have h2 : ((bstr b).size : Int) ≤ 4000000 := by rw [bstr_size]; omega
  by_cases h : 2000 < a.length + b.length
  · have e : joinOf a b = ([], 2) := by unfold joinOf; rw [if_pos h]
    have h3 : (2000 : Int) < ((bstr a).size : Int) + ((bstr b).size : Int) := by rw [bstr_size, bstr_size]; omega
    rw [e]
    clear e h
    go_enter Tryd.func48, Tryd.ntmps48
    go_wp2_with fail
    go_returns
    exact ⟨rfl, Below.refl _ _⟩
  · have e : joinOf a b = (a ++ b, 0) := by unfold joinOf; rw [if_neg h]
    have h3 : ¬ (2000 : Int) < ((bstr a).size : Int) + ((bstr b).size : Int) := by rw [bstr_size, bstr_size]; omega
    have h4 : (bstr a).size + (bstr b).size ≤ 2000 := by rw [bstr_size, bstr_size]; omega
    rw [e]
    clear e h
    go_enter Tryd.func48, Tryd.ntmps48
    go_wp2_with fail
    go_returns
    exact ⟨by rw [← bstr_app]; rfl, Below.refl _ _⟩
def byteOf (a : Str) (n : Int) : Int × Int := if n < 0 ∨ (a.length : Int) ≤ n then (0, 2) else (((a[n.toNat]?.getD 0).toNat : Int), 0)
set_option maxHeartbeats 1000000 in
theorem byte_any (w : World) (a : Str) (n : Int) (ha : a.length ≤ 4000000) : Calls Tryd.prog 49 #[.string (bstr a), .int .i64 n] w fun e w' => e = .returned (.tuple #[.int .i64 (byteOf a n).1, .int .i64 (byteOf a n).2]) ∧ Below w.heap.size w w' := by
  have h1 : ((bstr a).size : Int) ≤ 4000000 := by rw [bstr_size]; omega
  by_cases h : n < 0
  · have e : byteOf a n = (0, 2) := by unfold byteOf; rw [if_pos (.inl h)]
    rw [e]
    clear e
    go_enter Tryd.func49, Tryd.ntmps49
    go_wp2_with fail
    go_returns
    exact ⟨rfl, Below.refl _ _⟩
  · by_cases h' : (a.length : Int) ≤ n
    · have e : byteOf a n = (0, 2) := by unfold byteOf; rw [if_pos (.inr h')]
      have h3 : ((bstr a).size : Int) ≤ n := by rw [bstr_size]; omega
      rw [e]
      clear e
      go_enter Tryd.func49, Tryd.ntmps49
      go_wp2_with fail
      go_returns
      exact ⟨rfl, Below.refl _ _⟩
    · have e : byteOf a n = (((a[n.toNat]?.getD 0).toNat : Int), 0) := by unfold byteOf; rw [if_neg (by intro h; rcases h with h | h <;> contradiction)]
      have h3 : ¬ ((bstr a).size : Int) ≤ n := by rw [bstr_size]; omega
      rw [e]
      clear e
      go_enter Tryd.func49, Tryd.ntmps49
      go_wp2_with fail
      go_returns
      refine ⟨?_, Below.refl _ _⟩
      have hk : n.toNat < a.length := by omega
      rw [bstr_get a _ hk, IntWalk.wrap64_in _ (by have := (a[n.toNat]).toNat_lt; omega), List.getElem?_eq_getElem hk]
      rfl
/-- What an operator makes of two integers: the number, the fault, whether there is such an operator. -/
def intsOf (s : Str) (a b : Int) : Int × Int × Bool :=
  if s = [43] then (wrap64 (a + b), 0, true)
  else if s = [45] then (wrap64 (a - b), 0, true)
  else if s = [42] then (wrap64 (a * b), 0, true)
  else if s = [47] then (if b = 0 then (0, 1, true) else (wrap64 (a.tdiv b), 0, true))
  else if s = [60] then ((if a < b then 1 else 0), 0, true)
  else if s = [61, 61] then ((if a = b then 1 else 0), 0, true)
  else (0, 0, false)
theorem eqStr (s t : Str) : ((bstr s).toList == (bstr t).toList) = decide (s = t) := by rw [bstr_toList, bstr_toList]; by_cases h : s = t <;> simp [h]
set_option maxHeartbeats 4000000 in
theorem ints_any (w : World) (s : Str) (a b : Int) (ha : -9223372036854775808 ≤ a ∧ a ≤ 9223372036854775807) (hb : -9223372036854775808 ≤ b ∧ b ≤ 9223372036854775807) : Calls Tryd.prog 50 #[.string (bstr s), .int .i64 a, .int .i64 b] w fun e w' => e = .returned (.tuple #[.int .i64 (intsOf s a b).1, .int .i64 (intsOf s a b).2.1, .bool (intsOf s a b).2.2]) ∧ Below w.heap.size w w' := by
  by_cases h0 : s = [43]
  · subst h0
    have e : intsOf [43] a b = (wrap64 (a + b), 0, true) := by rfl
    rw [e]
    clear e
    have f0 : ((bstr [43]).toList == [43]) = true := by rw [bstr_toList]; rfl
    have f1 : ((bstr [43]).toList == [45]) = false := by rw [bstr_toList]; rfl
    have f2 : ((bstr [43]).toList == [42]) = false := by rw [bstr_toList]; rfl
    have f3 : ((bstr [43]).toList == [47]) = false := by rw [bstr_toList]; rfl
    have f4 : ((bstr [43]).toList == [60]) = false := by rw [bstr_toList]; rfl
    have f5 : ((bstr [43]).toList == [61, 61]) = false := by rw [bstr_toList]; rfl
    go_enter Tryd.func50, Tryd.ntmps50
    go_wp2_with fail
    go_returns
    exact ⟨rfl, Below.refl _ _⟩
  by_cases h1 : s = [45]
  · subst h1
    have e : intsOf [45] a b = (wrap64 (a - b), 0, true) := by rfl
    rw [e]
    clear e
    have f0 : ((bstr [45]).toList == [43]) = false := by rw [bstr_toList]; rfl
    have f1 : ((bstr [45]).toList == [45]) = true := by rw [bstr_toList]; rfl
    have f2 : ((bstr [45]).toList == [42]) = false := by rw [bstr_toList]; rfl
    have f3 : ((bstr [45]).toList == [47]) = false := by rw [bstr_toList]; rfl
    have f4 : ((bstr [45]).toList == [60]) = false := by rw [bstr_toList]; rfl
    have f5 : ((bstr [45]).toList == [61, 61]) = false := by rw [bstr_toList]; rfl
    go_enter Tryd.func50, Tryd.ntmps50
    go_wp2_with fail
    go_returns
    exact ⟨rfl, Below.refl _ _⟩
  by_cases h2 : s = [42]
  · subst h2
    have e : intsOf [42] a b = (wrap64 (a * b), 0, true) := by rfl
    rw [e]
    clear e
    have f0 : ((bstr [42]).toList == [43]) = false := by rw [bstr_toList]; rfl
    have f1 : ((bstr [42]).toList == [45]) = false := by rw [bstr_toList]; rfl
    have f2 : ((bstr [42]).toList == [42]) = true := by rw [bstr_toList]; rfl
    have f3 : ((bstr [42]).toList == [47]) = false := by rw [bstr_toList]; rfl
    have f4 : ((bstr [42]).toList == [60]) = false := by rw [bstr_toList]; rfl
    have f5 : ((bstr [42]).toList == [61, 61]) = false := by rw [bstr_toList]; rfl
    go_enter Tryd.func50, Tryd.ntmps50
    go_wp2_with fail
    go_returns
    exact ⟨rfl, Below.refl _ _⟩
  by_cases h3 : s = [47]
  · subst h3
    by_cases hb0 : b = 0
    · subst hb0
      have e : intsOf [47] a 0 = (0, 1, true) := by rfl
      rw [e]
      clear e
      have f0 : ((bstr [47]).toList == [43]) = false := by rw [bstr_toList]; rfl
      have f1 : ((bstr [47]).toList == [45]) = false := by rw [bstr_toList]; rfl
      have f2 : ((bstr [47]).toList == [42]) = false := by rw [bstr_toList]; rfl
      have f3 : ((bstr [47]).toList == [47]) = true := by rw [bstr_toList]; rfl
      have f4 : ((bstr [47]).toList == [60]) = false := by rw [bstr_toList]; rfl
      have f5 : ((bstr [47]).toList == [61, 61]) = false := by rw [bstr_toList]; rfl
      go_enter Tryd.func50, Tryd.ntmps50
      go_wp2_with fail
      go_returns
      exact ⟨rfl, Below.refl _ _⟩
    · have e : intsOf [47] a b = (wrap64 (a.tdiv b), 0, true) := by show (if b = 0 then _ else _) = _; rw [if_neg hb0]
      rw [e]
      clear e
      have f0 : ((bstr [47]).toList == [43]) = false := by rw [bstr_toList]; rfl
      have f1 : ((bstr [47]).toList == [45]) = false := by rw [bstr_toList]; rfl
      have f2 : ((bstr [47]).toList == [42]) = false := by rw [bstr_toList]; rfl
      have f3 : ((bstr [47]).toList == [47]) = true := by rw [bstr_toList]; rfl
      have f4 : ((bstr [47]).toList == [60]) = false := by rw [bstr_toList]; rfl
      have f5 : ((bstr [47]).toList == [61, 61]) = false := by rw [bstr_toList]; rfl
      go_enter Tryd.func50, Tryd.ntmps50
      go_wp2_with fail
      go_returns
      exact ⟨rfl, Below.refl _ _⟩
  by_cases h4 : s = [60]
  · subst h4
    have e : intsOf [60] a b = ((if a < b then 1 else 0), 0, true) := by rfl
    rw [e]
    clear e
    have f0 : ((bstr [60]).toList == [43]) = false := by rw [bstr_toList]; rfl
    have f1 : ((bstr [60]).toList == [45]) = false := by rw [bstr_toList]; rfl
    have f2 : ((bstr [60]).toList == [42]) = false := by rw [bstr_toList]; rfl
    have f3 : ((bstr [60]).toList == [47]) = false := by rw [bstr_toList]; rfl
    have f4 : ((bstr [60]).toList == [60]) = true := by rw [bstr_toList]; rfl
    have f5 : ((bstr [60]).toList == [61, 61]) = false := by rw [bstr_toList]; rfl
    have HC := Lib.hid (fun (x : Bool) (w : World) => truth_any w x)
    go_enter Tryd.func50, Tryd.ntmps50
    go_wp2_with (go_at_call 54; (with_reducible refine (HC.out _ _).mono ?_); rintro e1 w1 ⟨rfl, hb1⟩; clear HC)
    all_goals
      go_returns
      exact ⟨by simp [*], hb1⟩
  by_cases h5 : s = [61, 61]
  · subst h5
    have e : intsOf [61, 61] a b = ((if a = b then 1 else 0), 0, true) := by rfl
    rw [e]
    clear e
    have f0 : ((bstr [61, 61]).toList == [43]) = false := by rw [bstr_toList]; rfl
    have f1 : ((bstr [61, 61]).toList == [45]) = false := by rw [bstr_toList]; rfl
    have f2 : ((bstr [61, 61]).toList == [42]) = false := by rw [bstr_toList]; rfl
    have f3 : ((bstr [61, 61]).toList == [47]) = false := by rw [bstr_toList]; rfl
    have f4 : ((bstr [61, 61]).toList == [60]) = false := by rw [bstr_toList]; rfl
    have f5 : ((bstr [61, 61]).toList == [61, 61]) = true := by rw [bstr_toList]; rfl
    have HC := Lib.hid (fun (x : Bool) (w : World) => truth_any w x)
    go_enter Tryd.func50, Tryd.ntmps50
    go_wp2_with (go_at_call 54; (with_reducible refine (HC.out _ _).mono ?_); rintro e1 w1 ⟨rfl, hb1⟩; clear HC)
    all_goals
      go_returns
      exact ⟨by simp [*], hb1⟩
  have e : intsOf s a b = (0, 0, false) := by unfold intsOf; rw [if_neg h0, if_neg h1, if_neg h2, if_neg h3, if_neg h4, if_neg h5]
  rw [e]
  clear e
  have f0 : ((bstr s).toList == [43]) = false := by rw [bstr_toList]; simpa using h0
  have f1 : ((bstr s).toList == [45]) = false := by rw [bstr_toList]; simpa using h1
  have f2 : ((bstr s).toList == [42]) = false := by rw [bstr_toList]; simpa using h2
  have f3 : ((bstr s).toList == [47]) = false := by rw [bstr_toList]; simpa using h3
  have f4 : ((bstr s).toList == [60]) = false := by rw [bstr_toList]; simpa using h4
  have f5 : ((bstr s).toList == [61, 61]) = false := by rw [bstr_toList]; simpa using h5
  go_enter Tryd.func50, Tryd.ntmps50
  go_wp2_with fail
  go_returns
  exact ⟨rfl, Below.refl _ _⟩
end Go.Proofs.YtpdfjdomjklkbaaDoor
