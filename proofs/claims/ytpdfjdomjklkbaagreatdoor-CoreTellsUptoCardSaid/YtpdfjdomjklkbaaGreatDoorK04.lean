/-
  The machine: a function is called.
-/
import Derived.Test.YtpdfjdomjklkbaaGreatDoorK03
import Derived.Deep.CutBlock
import Derived.Deep.DeepCutAuto
namespace Go.Proofs.YtpdfjdomjklkbaaGreatDoor
open Go.ChangeShapes Go.WideShapes Go.ChangeAt Go.RowKit Go.Sort
set_option linter.unusedVariables false
set_option linter.unusedSimpArgs false

theorem cells5 {w : World} {g : Nat} {x0 x1 x2 x3 x4 : Value} {T : TypeId} {fr : Nat × Nat} (h : w.heap[g]? = some (.cells #[x0, x1, x2, x3, x4] T fr)) :
    w.cell? ⟨g, 0, none⟩ = some x0 ∧ w.cell? ⟨g, 1, none⟩ = some x1 ∧ w.cell? ⟨g, 2, none⟩ = some x2 ∧ w.cell? ⟨g, 3, none⟩ = some x3 ∧ w.cell? ⟨g, 4, none⟩ = some x4 := by
  refine ⟨?_, ?_, ?_, ?_, ?_⟩ <;> (rw [Lib.cell_of_heap h]; rfl)
def St.call (s : St) (z y : Val) : St := if z.sort = 3 then (match z.f with
  | some (.mk self isRec x part env) => { s with next := some (part, (x, y) :: (if isRec then (self, z) :: env else env)) }
  | none => s) else { s with err := 11 }
theorem VR.fn {w0 w : World} {P : Nat → Prop} {z : Val} {A : Option Addr} {c : Nat} {p : Option Addr} (h : VR w0 w P z [.int .i64 z.sort, .int .i64 z.n, .string (bstr z.s), .slice none 0 0, .slice A z.l.length c, .pointer p]) : FR w0 w P z.f (.pointer p) := by
  cases h with
  | mk sort n s l f A c css u len rd bl cap sub fn => exact fn
section
variable {w0 w : World} {B mb : Nat} {s : St} {t i r v f nx nm : Value} {rcs vcs fcs : List (List Value)}
set_option maxHeartbeats 4000000 in
theorem call_any (h : Rep w0 B mb s w t i r v f nx nm rcs vcs fcs) (z y : Val) (A : Option Addr) (c : Nat) (p : Option Addr) (A6 : Option Addr) (k6 : Nat) (q6 : Option Addr) (hf : z.sort = 3 → z.f ≠ none)
    (hz : VR w0 w (Mv mb t r v f) z [.int .i64 z.sort, .int .i64 z.n, .string (bstr z.s), .slice none 0 0, .slice A z.l.length c, .pointer p])
    (hy : VR w0 w (Mv mb t r v f) y [.int .i64 y.sort, .int .i64 y.n, .string (bstr y.s), .slice none 0 0, .slice A6 y.l.length k6, .pointer q6]) :
    Calls Tryz.prog 60 #[.pointer (some ⟨mb, 0, none⟩), .agg #[.int .i64 z.sort, .int .i64 z.n, .string (bstr z.s), .slice none 0 0, .slice A z.l.length c, .pointer p], .agg #[.int .i64 y.sort, .int .i64 y.n, .string (bstr y.s), .slice none 0 0, .slice A6 y.l.length k6, .pointer q6]] w fun e w' => e = .returned (.tuple #[]) ∧ Post w0 B mb (Mv mb t r v f) w (s.call z y) w' := by
  have HBM := Lib.hid (fun (wr : World) (hb : Below w.heap.size w wr) => And.intro (Tr.below (P := Mv mb t r v f) hb) (hb.mono (Nat.le_of_lt (Nat.lt_of_le_of_lt h.base.2 h.lt))))
  by_cases hs : z.sort = 3
  · obtain ⟨fn, hfn⟩ : ∃ fn, z.f = some fn := Option.ne_none_iff_exists'.1 (hf hs)
    have hfr := hz.fn
    rw [hfn] at hfr
    cases hfr with
    | some self isRec x part pb po env fb u hcb bl hp he =>
      obtain ⟨u, rfl⟩ := he.ptr
      have hb1 : Below w.heap.size w (w.alloc (.cells #[.int .i64 3, .int .i64 z.n, .string (bstr z.s), .slice none 0 0, .slice A z.l.length c, .pointer (some ⟨fb, 0, none⟩)] 60)) := (Below.refl _ _).alloc (Nat.le_refl _) _
      have hb2 : Below w.heap.size w ((w.alloc (.cells #[.int .i64 3, .int .i64 z.n, .string (bstr z.s), .slice none 0 0, .slice A z.l.length c, .pointer (some ⟨fb, 0, none⟩)] 60)).alloc (.cells #[.int .i64 y.sort, .int .i64 y.n, .string (bstr y.s), .slice none 0 0, .slice A6 y.l.length k6, .pointer q6] 60)) := hb1.alloc (by rw [World.size_alloc]; omega) _
      have hb3 : Below w.heap.size w (((w.alloc (.cells #[.int .i64 3, .int .i64 z.n, .string (bstr z.s), .slice none 0 0, .slice A z.l.length c, .pointer (some ⟨fb, 0, none⟩)] 60)).alloc (.cells #[.int .i64 y.sort, .int .i64 y.n, .string (bstr y.s), .slice none 0 0, .slice A6 y.l.length k6, .pointer q6] 60)).alloc (.cells #[.string (bstr self), .int .i64 3, .int .i64 z.n, .string (bstr z.s), .slice none 0 0, .slice A z.l.length c, .pointer (some ⟨fb, 0, none⟩), .pointer u] 97)) := hb2.alloc (by rw [World.size_alloc, World.size_alloc]; omega) _
      obtain ⟨a0, a1, a2, a3, a4, a5⟩ := cells6 ((Below.heap_alloc _ (.cells #[.int .i64 y.sort, .int .i64 y.n, .string (bstr y.s), .slice none 0 0, .slice A6 y.l.length k6, .pointer q6] 60) _ (by rw [World.size_alloc]; omega)).trans (heap_new (w := w) (o := (.cells #[.int .i64 3, .int .i64 z.n, .string (bstr z.s), .slice none 0 0, .slice A z.l.length c, .pointer (some ⟨fb, 0, none⟩)] 60)) rfl))
      obtain ⟨d0, d1, d2, d3, d4, d5⟩ := cells6 (heap_new (w := w.alloc (.cells #[.int .i64 3, .int .i64 z.n, .string (bstr z.s), .slice none 0 0, .slice A z.l.length c, .pointer (some ⟨fb, 0, none⟩)] 60)) (o := (.cells #[.int .i64 y.sort, .int .i64 y.n, .string (bstr y.s), .slice none 0 0, .slice A6 y.l.length k6, .pointer q6] 60)) (World.size_alloc _ _))
      obtain ⟨x0, x1, x2, x3, x4⟩ := cells5 ((hb2.block fb (lt_of_heap hcb)).trans hcb)
      rw [hs] at hz ⊢
      cases isRec with
      | false =>
        have e : s.call z y = { s with next := some (part, (x, y) :: env) } := by unfold St.call; rw [if_pos hs, hfn]; rfl
        rw [e]
        have HC := Lib.hid (fun (wr : World) (hb : Below w.heap.size w wr) => bind_any (h.below hb) part env pb po u ⟨hp, he.keep (Tr.below hb)⟩ x y _ _ _ _ _ _ (hy.keep (Tr.below hb)))
        have HB2 := Lib.hid hb2
        clear e h hz hy hf hs hfn hb1 hb2 hb3 hcb bl hp he
        go_enter Tryz.func60, Tryz.ntmps60
        go_upto_region 6 with fail
        go_region_law (go_simp; go_at_call 44; (with_reducible refine (HC.out _ (Below.drew HB2.out)).mono ?_); rintro e1 w1 ⟨rfl, hp⟩; have HP := Lib.hid hp; clear hp)
        all_goals
          go_wp2_with fail
          go_returns
          with_reducible exact ⟨rfl, HP.out.mono (HBM.out _ (Below.drew HB2.out)).1 (HBM.out _ (Below.drew HB2.out)).2⟩
      | true =>
        have e : s.call z y = { s with next := some (part, (x, y) :: (self, z) :: env) } := by unfold St.call; rw [if_pos hs, hfn]; rfl
        rw [e]
        have hsz : ((w.alloc (.cells #[.int .i64 3, .int .i64 z.n, .string (bstr z.s), .slice none 0 0, .slice A z.l.length c, .pointer (some ⟨fb, 0, none⟩)] 60)).alloc (.cells #[.int .i64 y.sort, .int .i64 y.n, .string (bstr y.s), .slice none 0 0, .slice A6 y.l.length k6, .pointer q6] 60)).heap.size = w.heap.size + 2 := by rw [World.size_alloc, World.size_alloc]
        have hnm : (((w.alloc (.cells #[.int .i64 3, .int .i64 z.n, .string (bstr z.s), .slice none 0 0, .slice A z.l.length c, .pointer (some ⟨fb, 0, none⟩)] 60)).alloc (.cells #[.int .i64 y.sort, .int .i64 y.n, .string (bstr y.s), .slice none 0 0, .slice A6 y.l.length k6, .pointer q6] 60)).alloc (.cells #[.string (bstr self), .int .i64 3, .int .i64 z.n, .string (bstr z.s), .slice none 0 0, .slice A z.l.length c, .pointer (some ⟨fb, 0, none⟩), .pointer u] 97)).heap[w.heap.size + 2]? = some (.cells #[.string (bstr self), .int .i64 3, .int .i64 z.n, .string (bstr z.s), .slice none 0 0, .slice A z.l.length c, .pointer (some ⟨fb, 0, none⟩), .pointer u] 97) := heap_new hsz
        have hbb : Below (((w.alloc (.cells #[.int .i64 3, .int .i64 z.n, .string (bstr z.s), .slice none 0 0, .slice A z.l.length c, .pointer (some ⟨fb, 0, none⟩)] 60)).alloc (.cells #[.int .i64 y.sort, .int .i64 y.n, .string (bstr y.s), .slice none 0 0, .slice A6 y.l.length k6, .pointer q6] 60)).alloc (.cells #[.string (bstr self), .int .i64 3, .int .i64 z.n, .string (bstr z.s), .slice none 0 0, .slice A z.l.length c, .pointer (some ⟨fb, 0, none⟩), .pointer u] 97)).heap.size (((w.alloc (.cells #[.int .i64 3, .int .i64 z.n, .string (bstr z.s), .slice none 0 0, .slice A z.l.length c, .pointer (some ⟨fb, 0, none⟩)] 60)).alloc (.cells #[.int .i64 y.sort, .int .i64 y.n, .string (bstr y.s), .slice none 0 0, .slice A6 y.l.length k6, .pointer q6] 60)).alloc (.cells #[.string (bstr self), .int .i64 3, .int .i64 z.n, .string (bstr z.s), .slice none 0 0, .slice A z.l.length c, .pointer (some ⟨fb, 0, none⟩), .pointer u] 97)) (((w.alloc (.cells #[.int .i64 3, .int .i64 z.n, .string (bstr z.s), .slice none 0 0, .slice A z.l.length c, .pointer (some ⟨fb, 0, none⟩)] 60)).alloc (.cells #[.int .i64 y.sort, .int .i64 y.n, .string (bstr y.s), .slice none 0 0, .slice A6 y.l.length k6, .pointer q6] 60)).alloc (.cells #[.string (bstr self), .int .i64 3, .int .i64 z.n, .string (bstr z.s), .slice none 0 0, .slice A z.l.length c, .pointer (some ⟨fb, 0, none⟩), .pointer u] 97)) := Below.refl _ _
        have HER := Lib.hid (fun (wr : World) (hb : Below (((w.alloc (.cells #[.int .i64 3, .int .i64 z.n, .string (bstr z.s), .slice none 0 0, .slice A z.l.length c, .pointer (some ⟨fb, 0, none⟩)] 60)).alloc (.cells #[.int .i64 y.sort, .int .i64 y.n, .string (bstr y.s), .slice none 0 0, .slice A6 y.l.length k6, .pointer q6] 60)).alloc (.cells #[.string (bstr self), .int .i64 3, .int .i64 z.n, .string (bstr z.s), .slice none 0 0, .slice A z.l.length c, .pointer (some ⟨fb, 0, none⟩), .pointer u] 97)).heap.size (((w.alloc (.cells #[.int .i64 3, .int .i64 z.n, .string (bstr z.s), .slice none 0 0, .slice A z.l.length c, .pointer (some ⟨fb, 0, none⟩)] 60)).alloc (.cells #[.int .i64 y.sort, .int .i64 y.n, .string (bstr y.s), .slice none 0 0, .slice A6 y.l.length k6, .pointer q6] 60)).alloc (.cells #[.string (bstr self), .int .i64 3, .int .i64 z.n, .string (bstr z.s), .slice none 0 0, .slice A z.l.length c, .pointer (some ⟨fb, 0, none⟩), .pointer u] 97)) wr) => show ER w0 wr (Mv mb t r v f) ((self, z) :: env) (.pointer (some ⟨w.heap.size + 2, 0, none⟩)) from
          .cons self z env (w.heap.size + 2) _ _ _ _ _ _ (.pointer u) ((hb.block _ (lt_of_heap hnm)).trans hnm) (h.mvNew _ (by omega)) (hz.keep (Tr.below (below_then hb3 hb))) (he.keep (Tr.below (below_then hb3 hb))))
        have HC := Lib.hid (fun (wr : World) (hb : Below (((w.alloc (.cells #[.int .i64 3, .int .i64 z.n, .string (bstr z.s), .slice none 0 0, .slice A z.l.length c, .pointer (some ⟨fb, 0, none⟩)] 60)).alloc (.cells #[.int .i64 y.sort, .int .i64 y.n, .string (bstr y.s), .slice none 0 0, .slice A6 y.l.length k6, .pointer q6] 60)).alloc (.cells #[.string (bstr self), .int .i64 3, .int .i64 z.n, .string (bstr z.s), .slice none 0 0, .slice A z.l.length c, .pointer (some ⟨fb, 0, none⟩), .pointer u] 97)).heap.size (((w.alloc (.cells #[.int .i64 3, .int .i64 z.n, .string (bstr z.s), .slice none 0 0, .slice A z.l.length c, .pointer (some ⟨fb, 0, none⟩)] 60)).alloc (.cells #[.int .i64 y.sort, .int .i64 y.n, .string (bstr y.s), .slice none 0 0, .slice A6 y.l.length k6, .pointer q6] 60)).alloc (.cells #[.string (bstr self), .int .i64 3, .int .i64 z.n, .string (bstr z.s), .slice none 0 0, .slice A z.l.length c, .pointer (some ⟨fb, 0, none⟩), .pointer u] 97)) wr) => bind_any (h.below (below_then hb3 hb)) part ((self, z) :: env) pb po (some ⟨w.heap.size + 2, 0, none⟩) ⟨hp, HER.out wr hb⟩ x y _ _ _ _ _ _ (hy.keep (Tr.below (below_then hb3 hb))))
        have HB3 := Lib.hid hb3
        have HX0 := Lib.hid (show (((w.alloc (.cells #[.int .i64 3, .int .i64 z.n, .string (bstr z.s), .slice none 0 0, .slice A z.l.length c, .pointer (some ⟨fb, 0, none⟩)] 60)).alloc (.cells #[.int .i64 y.sort, .int .i64 y.n, .string (bstr y.s), .slice none 0 0, .slice A6 y.l.length k6, .pointer q6] 60)).alloc (.cells #[.string (bstr self), .int .i64 3, .int .i64 z.n, .string (bstr z.s), .slice none 0 0, .slice A z.l.length c, .pointer (some ⟨fb, 0, none⟩), .pointer u] 97)).heap[w.heap.size]? = some (.cells #[.int .i64 3, .int .i64 z.n, .string (bstr z.s), .slice none 0 0, .slice A z.l.length c, .pointer (some ⟨fb, 0, none⟩)] 60) from (Below.heap_alloc _ _ _ (by rw [hsz]; omega)).trans ((Below.heap_alloc _ (.cells #[.int .i64 y.sort, .int .i64 y.n, .string (bstr y.s), .slice none 0 0, .slice A6 y.l.length k6, .pointer q6] 60) _ (by rw [World.size_alloc]; omega)).trans (heap_new (w := w) (o := (.cells #[.int .i64 3, .int .i64 z.n, .string (bstr z.s), .slice none 0 0, .slice A z.l.length c, .pointer (some ⟨fb, 0, none⟩)] 60)) rfl)))
        have HX1 := Lib.hid (show (((w.alloc (.cells #[.int .i64 3, .int .i64 z.n, .string (bstr z.s), .slice none 0 0, .slice A z.l.length c, .pointer (some ⟨fb, 0, none⟩)] 60)).alloc (.cells #[.int .i64 y.sort, .int .i64 y.n, .string (bstr y.s), .slice none 0 0, .slice A6 y.l.length k6, .pointer q6] 60)).alloc (.cells #[.string (bstr self), .int .i64 3, .int .i64 z.n, .string (bstr z.s), .slice none 0 0, .slice A z.l.length c, .pointer (some ⟨fb, 0, none⟩), .pointer u] 97)).heap[w.heap.size + 1]? = some (.cells #[.int .i64 y.sort, .int .i64 y.n, .string (bstr y.s), .slice none 0 0, .slice A6 y.l.length k6, .pointer q6] 60) from (Below.heap_alloc _ _ _ (by rw [hsz]; omega)).trans (heap_new (w := w.alloc (.cells #[.int .i64 3, .int .i64 z.n, .string (bstr z.s), .slice none 0 0, .slice A z.l.length c, .pointer (some ⟨fb, 0, none⟩)] 60)) (o := (.cells #[.int .i64 y.sort, .int .i64 y.n, .string (bstr y.s), .slice none 0 0, .slice A6 y.l.length k6, .pointer q6] 60)) (World.size_alloc _ _)))
        have HXF := Lib.hid ((hb3.block fb (lt_of_heap hcb)).trans hcb)
        clear e h hz hy hf hs hfn hb1 hb2 hb3 hcb bl hp he hbb hnm
        go_enter Tryz.func60, Tryz.ntmps60
        go_upto_region 5 with fail
        go_cut [6] (fun x6 wx => x6 = .pointer (some ⟨w.heap.size + 2, 0, none⟩) ∧ wx = (((w.alloc (.cells #[.int .i64 3, .int .i64 z.n, .string (bstr z.s), .slice none 0 0, .slice A z.l.length c, .pointer (some ⟨fb, 0, none⟩)] 60)).alloc (.cells #[.int .i64 y.sort, .int .i64 y.n, .string (bstr y.s), .slice none 0 0, .slice A6 y.l.length k6, .pointer q6] 60)).alloc (.cells #[.string (bstr self), .int .i64 3, .int .i64 z.n, .string (bstr z.s), .slice none 0 0, .slice A z.l.length c, .pointer (some ⟨fb, 0, none⟩), .pointer u] 97)).drew)
        case first =>
          go_region_law fail
          all_goals
            go_wp2_with fail
            go_meet
            exact ⟨rfl, rfl⟩
        case rest =>
          obtain ⟨rfl, rfl⟩ := hcut
          have hbx : Below (((w.alloc (.cells #[.int .i64 3, .int .i64 z.n, .string (bstr z.s), .slice none 0 0, .slice A z.l.length c, .pointer (some ⟨fb, 0, none⟩)] 60)).alloc (.cells #[.int .i64 y.sort, .int .i64 y.n, .string (bstr y.s), .slice none 0 0, .slice A6 y.l.length k6, .pointer q6] 60)).alloc (.cells #[.string (bstr self), .int .i64 3, .int .i64 z.n, .string (bstr z.s), .slice none 0 0, .slice A z.l.length c, .pointer (some ⟨fb, 0, none⟩), .pointer u] 97)).heap.size (((w.alloc (.cells #[.int .i64 3, .int .i64 z.n, .string (bstr z.s), .slice none 0 0, .slice A z.l.length c, .pointer (some ⟨fb, 0, none⟩)] 60)).alloc (.cells #[.int .i64 y.sort, .int .i64 y.n, .string (bstr y.s), .slice none 0 0, .slice A6 y.l.length k6, .pointer q6] 60)).alloc (.cells #[.string (bstr self), .int .i64 3, .int .i64 z.n, .string (bstr z.s), .slice none 0 0, .slice A z.l.length c, .pointer (some ⟨fb, 0, none⟩), .pointer u] 97)) (((w.alloc (.cells #[.int .i64 3, .int .i64 z.n, .string (bstr z.s), .slice none 0 0, .slice A z.l.length c, .pointer (some ⟨fb, 0, none⟩)] 60)).alloc (.cells #[.int .i64 y.sort, .int .i64 y.n, .string (bstr y.s), .slice none 0 0, .slice A6 y.l.length k6, .pointer q6] 60)).alloc (.cells #[.string (bstr self), .int .i64 3, .int .i64 z.n, .string (bstr z.s), .slice none 0 0, .slice A z.l.length c, .pointer (some ⟨fb, 0, none⟩), .pointer u] 97)).drew := below_drew1 _
          clear a0 a1 a2 a3 a4 a5 d0 d1 d2 d3 d4 d5 x0 x1 x2 x3 x4
          obtain ⟨a0, a1, a2, a3, a4, a5⟩ := cells6 ((hbx.block _ (lt_of_heap HX0.out)).trans HX0.out)
          obtain ⟨d0, d1, d2, d3, d4, d5⟩ := cells6 ((hbx.block _ (lt_of_heap HX1.out)).trans HX1.out)
          obtain ⟨x0, x1, x2, x3, x4⟩ := cells5 ((hbx.block _ (lt_of_heap HXF.out)).trans HXF.out)
          clear hbx
          go_upto_region 6 with fail
          go_region_law (go_simp; go_at_call 44; (with_reducible refine (HC.out _ (Below.drew (Below.drew (Below.refl _ _)))).mono ?_); rintro e1 w1 ⟨rfl, hp⟩; have HP := Lib.hid hp; clear hp)
          all_goals
            go_wp2_with fail
            go_returns
            with_reducible exact ⟨rfl, HP.out.mono (HBM.out _ (Below.drew (Below.drew HB3.out))).1 (HBM.out _ (Below.drew (Below.drew HB3.out))).2⟩
  · have e : s.call z y = { s with err := 11 } := by unfold St.call; rw [if_neg hs]
    rw [e]
    have hb1 : Below w.heap.size w (w.alloc (.cells #[.int .i64 z.sort, .int .i64 z.n, .string (bstr z.s), .slice none 0 0, .slice A z.l.length c, .pointer p] 60)) := (Below.refl _ _).alloc (Nat.le_refl _) _
    have hb : Below w.heap.size w ((w.alloc (.cells #[.int .i64 z.sort, .int .i64 z.n, .string (bstr z.s), .slice none 0 0, .slice A z.l.length c, .pointer p] 60)).alloc (.cells #[.int .i64 y.sort, .int .i64 y.n, .string (bstr y.s), .slice none 0 0, .slice A6 y.l.length k6, .pointer q6] 60)) := hb1.alloc (by rw [World.size_alloc]; omega) _
    have HC := Lib.hid (stuck_any (h.below hb))
    have HB := Lib.hid hb
    obtain ⟨b0, b1, b2, b3, b4, b5⟩ := cells6 ((Below.heap_alloc _ (.cells #[.int .i64 y.sort, .int .i64 y.n, .string (bstr y.s), .slice none 0 0, .slice A6 y.l.length k6, .pointer q6] 60) _ (by rw [World.size_alloc]; omega)).trans (heap_new (w := w) (o := (.cells #[.int .i64 z.sort, .int .i64 z.n, .string (bstr z.s), .slice none 0 0, .slice A z.l.length c, .pointer p] 60)) rfl))
    clear e h hb hb1 hz hy hf
    go_enter Tryz.func60, Tryz.ntmps60
    go_wp2_with (go_at_call 40; (with_reducible refine HC.out.mono ?_); rintro e1 w1 ⟨rfl, hp⟩; have HP := Lib.hid hp; clear hp HC)
    go_returns
    with_reducible exact ⟨rfl, HP.out.mono (HBM.out _ HB.out).1 (HBM.out _ HB.out).2⟩
end
end Go.Proofs.YtpdfjdomjklkbaaGreatDoor
