/-
  The machine: a function is called.
  The machine: a line is read.
  The machine: tuples of new memory.
-/
import Derived.Test.YtjmgnohepoacbaaDoorK01
import Derived.Deep.CutBlock
import Derived.Deep.DeepCutAuto
namespace Go.Proofs.YtjmgnohepoacbaaDoor
open Go.ChangeShapes Go.WideShapes Go.ChangeAt Go.RowKit Go.Sort
set_option linter.unusedVariables false
set_option linter.unusedSimpArgs false

theorem cells5 {w : World} {g : Nat} {x0 x1 x2 x3 x4 : Value} {T : TypeId} {fr : Nat × Nat} (h : w.heap[g]? = some (.cells #[x0, x1, x2, x3, x4] T fr)) :
    w.cell? ⟨g, 0, none⟩ = some x0 ∧ w.cell? ⟨g, 1, none⟩ = some x1 ∧ w.cell? ⟨g, 2, none⟩ = some x2 ∧ w.cell? ⟨g, 3, none⟩ = some x3 ∧ w.cell? ⟨g, 4, none⟩ = some x4 := by
  refine ⟨?_, ?_, ?_, ?_, ?_⟩ <;> (rw [Lib.cell_of_heap h]; rfl)
def St.call (s : St) (z y : Val) : St := if z.sort = 3 then (match z.f with
  | some (.mk self isRec x part env) => { s with next := some (part, (x, y) :: (if isRec then (self, z) :: env else env)) }
  | none => s) else { s with err := 11 }
theorem VR.fn {w0 w : World} {P : Nat → Prop} {z : Val} {A : Option Addr} {c : Nat} {p : Option Addr} {LA : Option Addr} {lc : Nat} (h : VR w0 w P z [.int .i64 z.sort, .int .i64 z.n, .string (bstr z.s), .slice LA z.labels.length lc, .slice A z.l.length c, .pointer p]) : FR w0 w P z.f (.pointer p) := by
  cases h with
  | mk sort n s labels l f LA lc A c css u lrd lbl lcap len rd bl cap sub fn => exact fn
section
variable {w0 w : World} {B mb : Nat} {s : St} {t i r v f nx nm : Value} {rcs vcs fcs : List (List Value)}
set_option maxHeartbeats 4000000 in
theorem call_any (h : Rep w0 B mb s w t i r v f nx nm rcs vcs fcs) (z y : Val) (A : Option Addr) (c : Nat) (p : Option Addr) (LA : Option Addr) (lc : Nat) (A6 : Option Addr) (k6 : Nat) (q6 : Option Addr) (LA6 : Option Addr) (lk6 : Nat) (hf : z.sort = 3 → z.f ≠ none)
    (hz : VR w0 w (Mv mb t r v f) z [.int .i64 z.sort, .int .i64 z.n, .string (bstr z.s), .slice LA z.labels.length lc, .slice A z.l.length c, .pointer p])
    (hy : VR w0 w (Mv mb t r v f) y [.int .i64 y.sort, .int .i64 y.n, .string (bstr y.s), .slice LA6 y.labels.length lk6, .slice A6 y.l.length k6, .pointer q6]) :
    Calls Tryd.prog 36 #[.pointer (some ⟨mb, 0, none⟩), .agg #[.int .i64 z.sort, .int .i64 z.n, .string (bstr z.s), .slice LA z.labels.length lc, .slice A z.l.length c, .pointer p], .agg #[.int .i64 y.sort, .int .i64 y.n, .string (bstr y.s), .slice LA6 y.labels.length lk6, .slice A6 y.l.length k6, .pointer q6]] w fun e w' => e = .returned (.tuple #[]) ∧ Post w0 B mb (Mv mb t r v f) w (s.call z y) w' := by
  have HBM := Lib.hid (fun (wr : World) (hb : Below w.heap.size w wr) => And.intro (Tr.below (P := Mv mb t r v f) hb) (hb.mono (Nat.le_of_lt (Nat.lt_of_le_of_lt h.base.2 h.lt))))
  by_cases hs : z.sort = 3
  · obtain ⟨fn, hfn⟩ : ∃ fn, z.f = some fn := Option.ne_none_iff_exists'.1 (hf hs)
    have hfr := hz.fn
    rw [hfn] at hfr
    cases hfr with
    | some self isRec x part pb po env fb u hcb bl hp he =>
      obtain ⟨u, rfl⟩ := he.ptr
      have hb1 : Below w.heap.size w (w.alloc (.cells #[.int .i64 3, .int .i64 z.n, .string (bstr z.s), .slice LA z.labels.length lc, .slice A z.l.length c, .pointer (some ⟨fb, 0, none⟩)] 45)) := (Below.refl _ _).alloc (Nat.le_refl _) _
      have hb2 : Below w.heap.size w ((w.alloc (.cells #[.int .i64 3, .int .i64 z.n, .string (bstr z.s), .slice LA z.labels.length lc, .slice A z.l.length c, .pointer (some ⟨fb, 0, none⟩)] 45)).alloc (.cells #[.int .i64 y.sort, .int .i64 y.n, .string (bstr y.s), .slice LA6 y.labels.length lk6, .slice A6 y.l.length k6, .pointer q6] 45)) := hb1.alloc (by rw [World.size_alloc]; omega) _
      have hb3 : Below w.heap.size w (((w.alloc (.cells #[.int .i64 3, .int .i64 z.n, .string (bstr z.s), .slice LA z.labels.length lc, .slice A z.l.length c, .pointer (some ⟨fb, 0, none⟩)] 45)).alloc (.cells #[.int .i64 y.sort, .int .i64 y.n, .string (bstr y.s), .slice LA6 y.labels.length lk6, .slice A6 y.l.length k6, .pointer q6] 45)).alloc (.cells #[.string (bstr self), .int .i64 3, .int .i64 z.n, .string (bstr z.s), .slice LA z.labels.length lc, .slice A z.l.length c, .pointer (some ⟨fb, 0, none⟩), .pointer u] 73)) := hb2.alloc (by rw [World.size_alloc, World.size_alloc]; omega) _
      obtain ⟨a0, a1, a2, a3, a4, a5⟩ := cells6 ((Below.heap_alloc _ (.cells #[.int .i64 y.sort, .int .i64 y.n, .string (bstr y.s), .slice LA6 y.labels.length lk6, .slice A6 y.l.length k6, .pointer q6] 45) _ (by rw [World.size_alloc]; omega)).trans (heap_new (w := w) (o := (.cells #[.int .i64 3, .int .i64 z.n, .string (bstr z.s), .slice LA z.labels.length lc, .slice A z.l.length c, .pointer (some ⟨fb, 0, none⟩)] 45)) rfl))
      obtain ⟨d0, d1, d2, d3, d4, d5⟩ := cells6 (heap_new (w := w.alloc (.cells #[.int .i64 3, .int .i64 z.n, .string (bstr z.s), .slice LA z.labels.length lc, .slice A z.l.length c, .pointer (some ⟨fb, 0, none⟩)] 45)) (o := (.cells #[.int .i64 y.sort, .int .i64 y.n, .string (bstr y.s), .slice LA6 y.labels.length lk6, .slice A6 y.l.length k6, .pointer q6] 45)) (World.size_alloc _ _))
      obtain ⟨x0, x1, x2, x3, x4⟩ := cells5 ((hb2.block fb (lt_of_heap hcb)).trans hcb)
      rw [hs] at hz ⊢
      cases isRec with
      | false =>
        have e : s.call z y = { s with next := some (part, (x, y) :: env) } := by unfold St.call; rw [if_pos hs, hfn]; rfl
        rw [e]
        have HC := Lib.hid (fun (wr : World) (hb : Below w.heap.size w wr) => bind_any (h.below hb) part env pb po u ⟨hp, he.keep (Tr.below hb)⟩ x y _ _ _ _ _ _ (hy.keep (Tr.below hb)))
        have HB2 := Lib.hid hb2
        clear e h hz hy hf hs hfn hb1 hb2 hb3 hcb bl hp he
        go_enter Tryd.func36, Tryd.ntmps36
        go_upto_region 6 with fail
        go_region_law (go_simp; go_at_call 24; (with_reducible refine (HC.out _ (Below.drew HB2.out)).mono ?_); rintro e1 w1 ⟨rfl, hp⟩; have HP := Lib.hid hp; clear hp)
        all_goals
          go_wp2_with fail
          go_returns
          with_reducible exact ⟨rfl, HP.out.mono (HBM.out _ (Below.drew HB2.out)).1 (HBM.out _ (Below.drew HB2.out)).2⟩
      | true =>
        have e : s.call z y = { s with next := some (part, (x, y) :: (self, z) :: env) } := by unfold St.call; rw [if_pos hs, hfn]; rfl
        rw [e]
        have hsz : ((w.alloc (.cells #[.int .i64 3, .int .i64 z.n, .string (bstr z.s), .slice LA z.labels.length lc, .slice A z.l.length c, .pointer (some ⟨fb, 0, none⟩)] 45)).alloc (.cells #[.int .i64 y.sort, .int .i64 y.n, .string (bstr y.s), .slice LA6 y.labels.length lk6, .slice A6 y.l.length k6, .pointer q6] 45)).heap.size = w.heap.size + 2 := by rw [World.size_alloc, World.size_alloc]
        have hnm : (((w.alloc (.cells #[.int .i64 3, .int .i64 z.n, .string (bstr z.s), .slice LA z.labels.length lc, .slice A z.l.length c, .pointer (some ⟨fb, 0, none⟩)] 45)).alloc (.cells #[.int .i64 y.sort, .int .i64 y.n, .string (bstr y.s), .slice LA6 y.labels.length lk6, .slice A6 y.l.length k6, .pointer q6] 45)).alloc (.cells #[.string (bstr self), .int .i64 3, .int .i64 z.n, .string (bstr z.s), .slice LA z.labels.length lc, .slice A z.l.length c, .pointer (some ⟨fb, 0, none⟩), .pointer u] 73)).heap[w.heap.size + 2]? = some (.cells #[.string (bstr self), .int .i64 3, .int .i64 z.n, .string (bstr z.s), .slice LA z.labels.length lc, .slice A z.l.length c, .pointer (some ⟨fb, 0, none⟩), .pointer u] 73) := heap_new hsz
        have hbb : Below (((w.alloc (.cells #[.int .i64 3, .int .i64 z.n, .string (bstr z.s), .slice LA z.labels.length lc, .slice A z.l.length c, .pointer (some ⟨fb, 0, none⟩)] 45)).alloc (.cells #[.int .i64 y.sort, .int .i64 y.n, .string (bstr y.s), .slice LA6 y.labels.length lk6, .slice A6 y.l.length k6, .pointer q6] 45)).alloc (.cells #[.string (bstr self), .int .i64 3, .int .i64 z.n, .string (bstr z.s), .slice LA z.labels.length lc, .slice A z.l.length c, .pointer (some ⟨fb, 0, none⟩), .pointer u] 73)).heap.size (((w.alloc (.cells #[.int .i64 3, .int .i64 z.n, .string (bstr z.s), .slice LA z.labels.length lc, .slice A z.l.length c, .pointer (some ⟨fb, 0, none⟩)] 45)).alloc (.cells #[.int .i64 y.sort, .int .i64 y.n, .string (bstr y.s), .slice LA6 y.labels.length lk6, .slice A6 y.l.length k6, .pointer q6] 45)).alloc (.cells #[.string (bstr self), .int .i64 3, .int .i64 z.n, .string (bstr z.s), .slice LA z.labels.length lc, .slice A z.l.length c, .pointer (some ⟨fb, 0, none⟩), .pointer u] 73)) (((w.alloc (.cells #[.int .i64 3, .int .i64 z.n, .string (bstr z.s), .slice LA z.labels.length lc, .slice A z.l.length c, .pointer (some ⟨fb, 0, none⟩)] 45)).alloc (.cells #[.int .i64 y.sort, .int .i64 y.n, .string (bstr y.s), .slice LA6 y.labels.length lk6, .slice A6 y.l.length k6, .pointer q6] 45)).alloc (.cells #[.string (bstr self), .int .i64 3, .int .i64 z.n, .string (bstr z.s), .slice LA z.labels.length lc, .slice A z.l.length c, .pointer (some ⟨fb, 0, none⟩), .pointer u] 73)) := Below.refl _ _
        have HER := Lib.hid (fun (wr : World) (hb : Below (((w.alloc (.cells #[.int .i64 3, .int .i64 z.n, .string (bstr z.s), .slice LA z.labels.length lc, .slice A z.l.length c, .pointer (some ⟨fb, 0, none⟩)] 45)).alloc (.cells #[.int .i64 y.sort, .int .i64 y.n, .string (bstr y.s), .slice LA6 y.labels.length lk6, .slice A6 y.l.length k6, .pointer q6] 45)).alloc (.cells #[.string (bstr self), .int .i64 3, .int .i64 z.n, .string (bstr z.s), .slice LA z.labels.length lc, .slice A z.l.length c, .pointer (some ⟨fb, 0, none⟩), .pointer u] 73)).heap.size (((w.alloc (.cells #[.int .i64 3, .int .i64 z.n, .string (bstr z.s), .slice LA z.labels.length lc, .slice A z.l.length c, .pointer (some ⟨fb, 0, none⟩)] 45)).alloc (.cells #[.int .i64 y.sort, .int .i64 y.n, .string (bstr y.s), .slice LA6 y.labels.length lk6, .slice A6 y.l.length k6, .pointer q6] 45)).alloc (.cells #[.string (bstr self), .int .i64 3, .int .i64 z.n, .string (bstr z.s), .slice LA z.labels.length lc, .slice A z.l.length c, .pointer (some ⟨fb, 0, none⟩), .pointer u] 73)) wr) => show ER w0 wr (Mv mb t r v f) ((self, z) :: env) (.pointer (some ⟨w.heap.size + 2, 0, none⟩)) from
          .cons self z env (w.heap.size + 2) _ _ _ _ _ _ (.pointer u) ((hb.block _ (lt_of_heap hnm)).trans hnm) (h.mvNew _ (by omega)) (hz.keep (Tr.below (below_then hb3 hb))) (he.keep (Tr.below (below_then hb3 hb))))
        have HC := Lib.hid (fun (wr : World) (hb : Below (((w.alloc (.cells #[.int .i64 3, .int .i64 z.n, .string (bstr z.s), .slice LA z.labels.length lc, .slice A z.l.length c, .pointer (some ⟨fb, 0, none⟩)] 45)).alloc (.cells #[.int .i64 y.sort, .int .i64 y.n, .string (bstr y.s), .slice LA6 y.labels.length lk6, .slice A6 y.l.length k6, .pointer q6] 45)).alloc (.cells #[.string (bstr self), .int .i64 3, .int .i64 z.n, .string (bstr z.s), .slice LA z.labels.length lc, .slice A z.l.length c, .pointer (some ⟨fb, 0, none⟩), .pointer u] 73)).heap.size (((w.alloc (.cells #[.int .i64 3, .int .i64 z.n, .string (bstr z.s), .slice LA z.labels.length lc, .slice A z.l.length c, .pointer (some ⟨fb, 0, none⟩)] 45)).alloc (.cells #[.int .i64 y.sort, .int .i64 y.n, .string (bstr y.s), .slice LA6 y.labels.length lk6, .slice A6 y.l.length k6, .pointer q6] 45)).alloc (.cells #[.string (bstr self), .int .i64 3, .int .i64 z.n, .string (bstr z.s), .slice LA z.labels.length lc, .slice A z.l.length c, .pointer (some ⟨fb, 0, none⟩), .pointer u] 73)) wr) => bind_any (h.below (below_then hb3 hb)) part ((self, z) :: env) pb po (some ⟨w.heap.size + 2, 0, none⟩) ⟨hp, HER.out wr hb⟩ x y _ _ _ _ _ _ (hy.keep (Tr.below (below_then hb3 hb))))
        have HB3 := Lib.hid hb3
        have HX0 := Lib.hid (show (((w.alloc (.cells #[.int .i64 3, .int .i64 z.n, .string (bstr z.s), .slice LA z.labels.length lc, .slice A z.l.length c, .pointer (some ⟨fb, 0, none⟩)] 45)).alloc (.cells #[.int .i64 y.sort, .int .i64 y.n, .string (bstr y.s), .slice LA6 y.labels.length lk6, .slice A6 y.l.length k6, .pointer q6] 45)).alloc (.cells #[.string (bstr self), .int .i64 3, .int .i64 z.n, .string (bstr z.s), .slice LA z.labels.length lc, .slice A z.l.length c, .pointer (some ⟨fb, 0, none⟩), .pointer u] 73)).heap[w.heap.size]? = some (.cells #[.int .i64 3, .int .i64 z.n, .string (bstr z.s), .slice LA z.labels.length lc, .slice A z.l.length c, .pointer (some ⟨fb, 0, none⟩)] 45) from (Below.heap_alloc _ _ _ (by rw [hsz]; omega)).trans ((Below.heap_alloc _ (.cells #[.int .i64 y.sort, .int .i64 y.n, .string (bstr y.s), .slice LA6 y.labels.length lk6, .slice A6 y.l.length k6, .pointer q6] 45) _ (by rw [World.size_alloc]; omega)).trans (heap_new (w := w) (o := (.cells #[.int .i64 3, .int .i64 z.n, .string (bstr z.s), .slice LA z.labels.length lc, .slice A z.l.length c, .pointer (some ⟨fb, 0, none⟩)] 45)) rfl)))
        have HX1 := Lib.hid (show (((w.alloc (.cells #[.int .i64 3, .int .i64 z.n, .string (bstr z.s), .slice LA z.labels.length lc, .slice A z.l.length c, .pointer (some ⟨fb, 0, none⟩)] 45)).alloc (.cells #[.int .i64 y.sort, .int .i64 y.n, .string (bstr y.s), .slice LA6 y.labels.length lk6, .slice A6 y.l.length k6, .pointer q6] 45)).alloc (.cells #[.string (bstr self), .int .i64 3, .int .i64 z.n, .string (bstr z.s), .slice LA z.labels.length lc, .slice A z.l.length c, .pointer (some ⟨fb, 0, none⟩), .pointer u] 73)).heap[w.heap.size + 1]? = some (.cells #[.int .i64 y.sort, .int .i64 y.n, .string (bstr y.s), .slice LA6 y.labels.length lk6, .slice A6 y.l.length k6, .pointer q6] 45) from (Below.heap_alloc _ _ _ (by rw [hsz]; omega)).trans (heap_new (w := w.alloc (.cells #[.int .i64 3, .int .i64 z.n, .string (bstr z.s), .slice LA z.labels.length lc, .slice A z.l.length c, .pointer (some ⟨fb, 0, none⟩)] 45)) (o := (.cells #[.int .i64 y.sort, .int .i64 y.n, .string (bstr y.s), .slice LA6 y.labels.length lk6, .slice A6 y.l.length k6, .pointer q6] 45)) (World.size_alloc _ _)))
        have HXF := Lib.hid ((hb3.block fb (lt_of_heap hcb)).trans hcb)
        clear e h hz hy hf hs hfn hb1 hb2 hb3 hcb bl hp he hbb hnm
        go_enter Tryd.func36, Tryd.ntmps36
        go_upto_region 5 with fail
        go_cut [6] (fun x6 wx => x6 = .pointer (some ⟨w.heap.size + 2, 0, none⟩) ∧ wx = (((w.alloc (.cells #[.int .i64 3, .int .i64 z.n, .string (bstr z.s), .slice LA z.labels.length lc, .slice A z.l.length c, .pointer (some ⟨fb, 0, none⟩)] 45)).alloc (.cells #[.int .i64 y.sort, .int .i64 y.n, .string (bstr y.s), .slice LA6 y.labels.length lk6, .slice A6 y.l.length k6, .pointer q6] 45)).alloc (.cells #[.string (bstr self), .int .i64 3, .int .i64 z.n, .string (bstr z.s), .slice LA z.labels.length lc, .slice A z.l.length c, .pointer (some ⟨fb, 0, none⟩), .pointer u] 73)).drew)
        case first =>
          go_region_law fail
          all_goals
            go_wp2_with fail
            go_meet
            exact ⟨rfl, rfl⟩
        case rest =>
          obtain ⟨rfl, rfl⟩ := hcut
          have hbx : Below (((w.alloc (.cells #[.int .i64 3, .int .i64 z.n, .string (bstr z.s), .slice LA z.labels.length lc, .slice A z.l.length c, .pointer (some ⟨fb, 0, none⟩)] 45)).alloc (.cells #[.int .i64 y.sort, .int .i64 y.n, .string (bstr y.s), .slice LA6 y.labels.length lk6, .slice A6 y.l.length k6, .pointer q6] 45)).alloc (.cells #[.string (bstr self), .int .i64 3, .int .i64 z.n, .string (bstr z.s), .slice LA z.labels.length lc, .slice A z.l.length c, .pointer (some ⟨fb, 0, none⟩), .pointer u] 73)).heap.size (((w.alloc (.cells #[.int .i64 3, .int .i64 z.n, .string (bstr z.s), .slice LA z.labels.length lc, .slice A z.l.length c, .pointer (some ⟨fb, 0, none⟩)] 45)).alloc (.cells #[.int .i64 y.sort, .int .i64 y.n, .string (bstr y.s), .slice LA6 y.labels.length lk6, .slice A6 y.l.length k6, .pointer q6] 45)).alloc (.cells #[.string (bstr self), .int .i64 3, .int .i64 z.n, .string (bstr z.s), .slice LA z.labels.length lc, .slice A z.l.length c, .pointer (some ⟨fb, 0, none⟩), .pointer u] 73)) (((w.alloc (.cells #[.int .i64 3, .int .i64 z.n, .string (bstr z.s), .slice LA z.labels.length lc, .slice A z.l.length c, .pointer (some ⟨fb, 0, none⟩)] 45)).alloc (.cells #[.int .i64 y.sort, .int .i64 y.n, .string (bstr y.s), .slice LA6 y.labels.length lk6, .slice A6 y.l.length k6, .pointer q6] 45)).alloc (.cells #[.string (bstr self), .int .i64 3, .int .i64 z.n, .string (bstr z.s), .slice LA z.labels.length lc, .slice A z.l.length c, .pointer (some ⟨fb, 0, none⟩), .pointer u] 73)).drew := below_drew1 _
          clear a0 a1 a2 a3 a4 a5 d0 d1 d2 d3 d4 d5 x0 x1 x2 x3 x4
          obtain ⟨a0, a1, a2, a3, a4, a5⟩ := cells6 ((hbx.block _ (lt_of_heap HX0.out)).trans HX0.out)
          obtain ⟨d0, d1, d2, d3, d4, d5⟩ := cells6 ((hbx.block _ (lt_of_heap HX1.out)).trans HX1.out)
          obtain ⟨x0, x1, x2, x3, x4⟩ := cells5 ((hbx.block _ (lt_of_heap HXF.out)).trans HXF.out)
          clear hbx
          go_upto_region 6 with fail
          go_region_law (go_simp; go_at_call 24; (with_reducible refine (HC.out _ (Below.drew (Below.drew (Below.refl _ _)))).mono ?_); rintro e1 w1 ⟨rfl, hp⟩; have HP := Lib.hid hp; clear hp)
          all_goals
            go_wp2_with fail
            go_returns
            with_reducible exact ⟨rfl, HP.out.mono (HBM.out _ (Below.drew (Below.drew HB3.out))).1 (HBM.out _ (Below.drew (Below.drew HB3.out))).2⟩
  · have e : s.call z y = { s with err := 11 } := by unfold St.call; rw [if_neg hs]
    rw [e]
    have hb1 : Below w.heap.size w (w.alloc (.cells #[.int .i64 z.sort, .int .i64 z.n, .string (bstr z.s), .slice LA z.labels.length lc, .slice A z.l.length c, .pointer p] 45)) := (Below.refl _ _).alloc (Nat.le_refl _) _
    have hb : Below w.heap.size w ((w.alloc (.cells #[.int .i64 z.sort, .int .i64 z.n, .string (bstr z.s), .slice LA z.labels.length lc, .slice A z.l.length c, .pointer p] 45)).alloc (.cells #[.int .i64 y.sort, .int .i64 y.n, .string (bstr y.s), .slice LA6 y.labels.length lk6, .slice A6 y.l.length k6, .pointer q6] 45)) := hb1.alloc (by rw [World.size_alloc]; omega) _
    have HC := Lib.hid (stuck_any (h.below hb))
    have HB := Lib.hid hb
    obtain ⟨b0, b1, b2, b3, b4, b5⟩ := cells6 ((Below.heap_alloc _ (.cells #[.int .i64 y.sort, .int .i64 y.n, .string (bstr y.s), .slice LA6 y.labels.length lk6, .slice A6 y.l.length k6, .pointer q6] 45) _ (by rw [World.size_alloc]; omega)).trans (heap_new (w := w) (o := (.cells #[.int .i64 z.sort, .int .i64 z.n, .string (bstr z.s), .slice LA z.labels.length lc, .slice A z.l.length c, .pointer p] 45)) rfl))
    clear e h hb hb1 hz hy hf
    go_enter Tryd.func36, Tryd.ntmps36
    go_wp2_with (go_at_call 20; (with_reducible refine HC.out.mono ?_); rintro e1 w1 ⟨rfl, hp⟩; have HP := Lib.hid hp; clear hp HC)
    go_returns
    with_reducible exact ⟨rfl, HP.out.mono (HBM.out _ HB.out).1 (HBM.out _ HB.out).2⟩
end
end Go.Proofs.YtjmgnohepoacbaaDoor

namespace Go.Proofs.YtjmgnohepoacbaaDoor
open Go.ChangeShapes Go.WideShapes Go.ChangeAt Go.RowKit Go.Sort
set_option linter.unusedVariables false
set_option linter.unusedSimpArgs false

def lineOf : List Str → Str × List Str × Int
  | [] => ([], [], 3)
  | x :: l => if 2000 < x.length then ([], [], 2) else (x, l, 0)
/-- A row of texts that stands, below B. -/
def InR (w : World) (B : Nat) (l : List Str) (i : Value) : Prop := ∃ A c, i = .slice A l.length c ∧ (l.length ≤ c ∧ c ≤ maxLen) ∧ Rd w 1 A l.length (strs l) ∧ (0 < l.length → ∀ a, A = some a → a.block < B)
theorem InR.nil (w : World) (B : Nat) : InR w B [] (.slice none 0 0) := ⟨none, 0, rfl, ⟨Nat.le_refl 0, by decide⟩, Rd.nil w 1 none, fun h => absurd h (Nat.lt_irrefl 0)⟩
theorem InR.below {w w' : World} {B : Nat} {l : List Str} {i : Value} (h : InR w B l i) (hb : Below w.heap.size w w') : InR w' B l i := by
  obtain ⟨A, c, h1, h2, h3, h4⟩ := h
  exact ⟨A, c, h1, h2, h3.below hb, h4⟩
set_option maxHeartbeats 2000000 in
theorem line_any (w : World) (B : Nat) (l : List Str) (i : Value) (h : InR w B l i) (hl : l.length ≤ 100000000000) : Calls Tryd.prog 34 #[i] w fun e w' => ∃ i', e = .returned (.tuple #[.string (bstr (lineOf l).1), i', .int .i64 (lineOf l).2.2]) ∧ InR w B (lineOf l).2.1 i' ∧ Below w.heap.size w w' := by
  obtain ⟨A, c, rfl, hc, hr, hb⟩ := h
  cases l with
  | nil =>
    have HI := Lib.hid (InR.nil w B)
    clear hr hb
    go_enter Tryd.func34, Tryd.ntmps34
    go_wp2_with fail
    go_returns
    exact ⟨_, rfl, HI.out, Below.refl _ _⟩
  | cons x l =>
    obtain ⟨b, o, rfl, hbl, hcell⟩ := hr.base (by rw [strs_length]; exact Nat.succ_pos _)
    have c0 := hcell 0 _ (strs_at (x :: l) 0 (Nat.succ_pos _))
    rw [Nat.add_zero] at c0
    simp only [List.getElem_cons_zero] at c0
    have n0 : ¬ ((l.length : Int) + 1 = 0) := by omega
    have n1 : (0 : Int) < (l.length : Int) + 1 := by omega
    have n2 : (1 : Int) ≤ (l.length : Int) + 1 := by omega
    have hrr := hr.from_ (lo := 1) (by simp only [List.length_cons]; omega) hc.1 (k := 1) rfl
    rw [strs_drop] at hrr
    have hin : InR w B l (.slice (if c = 1 then some ⟨b, o, none⟩ else some ⟨b, o + 1, none⟩) l.length (c - 1)) := by
      refine ⟨_, _, rfl, ⟨by have := hc.1; simp only [List.length_cons] at this; omega, by have := hc.2; omega⟩, ?_, fun _ a ha => ?_⟩
      · simpa [Addr.add_lit] using hrr
      · have hB := hb (by simp only [List.length_cons]; omega) _ rfl
        split at ha <;> (cases ha; exact hB)
    by_cases hx : 2000 < x.length
    · have HI := Lib.hid (InR.nil w B)
      have hE : lineOf (x :: l) = ([], [], 2) := by show (if 2000 < x.length then _ else _) = _; rw [if_pos hx]
      rw [hE]
      have hx1 : (2000 : Int) < ((bstr x).size : Int) := by rw [bstr_size]; omega
      clear hr hb hcell hE hrr hin
      go_enter Tryd.func34, Tryd.ntmps34
      go_wp2_with fail
      go_returns
      exact ⟨_, rfl, HI.out, Below.refl _ _⟩
    · have hE : lineOf (x :: l) = (x, l, 0) := by show (if 2000 < x.length then _ else _) = _; rw [if_neg hx]
      rw [hE]
      have hx1 : ¬ (2000 : Int) < ((bstr x).size : Int) := by rw [bstr_size]; omega
      by_cases hc1 : c = 1
      · rw [if_pos hc1] at hin
        subst hc1
        have HI := Lib.hid hin
        clear hr hb hcell hE hrr hin
        go_enter Tryd.func34, Tryd.ntmps34
        go_upto_region 5 with fail
        go_region_law fail
        all_goals
          go_wp2_with fail
          go_returns
          exact ⟨_, rfl, HI.out, (Below.refl _ _).drew⟩
      · rw [if_neg hc1] at hin
        have HI := Lib.hid hin
        clear hr hb hcell hE hrr hin
        go_enter Tryd.func34, Tryd.ntmps34
        go_upto_region 5 with fail
        go_region_law fail
        all_goals
          go_wp2_with fail
          go_returns
          exact ⟨_, rfl, HI.out, (Below.refl _ _).drew⟩
section
variable {w0 w : World} {B mb : Nat} {s : St} {t i r v f nx nm : Value} {rcs vcs fcs : List (List Value)}
def St.read (s : St) : St := St.tell { s with input := (lineOf s.input).2.1 } (.mk 2 0 (lineOf s.input).1 [] [] none) (lineOf s.input).2.2 true
set_option maxHeartbeats 2000000 in
theorem read_any (h : Rep w0 B mb s w t i r v f nx nm rcs vcs fcs) (hv : s.vals.length ≤ 100000000000) (hl : s.input.length ≤ 100000000000) :
    Calls Tryd.prog 26 #[.pointer (some ⟨mb, 0, none⟩)] w fun e w' => e = .returned (.tuple #[]) ∧ Post w0 B mb (Mv mb t r v f) w s.read w' := by
  have HC := Lib.hid (line_any w B s.input i h.inp hl)
  have c4 := (cells11 h.hd).2.2.2.2.1
  have HH := Lib.hid h
  have HV := Lib.hid hv
  have HBM := Lib.hid (fun (wr : World) (hb : Below w.heap.size w wr) => And.intro (Tr.below (P := Mv mb t r v f) hb) (hb.mono (Nat.le_of_lt (Nat.lt_of_le_of_lt h.base.2 h.lt))))
  clear h hl hv
  go_enter Tryd.func26, Tryd.ntmps26
  go_wp2_with (first
    | (go_at_call 34; (with_reducible refine HC.out.mono ?_); rintro e1 w1 ⟨i', rfl, hi0, hb1⟩; obtain ⟨A9, c9, rfl, hq1, hq2, hq3⟩ := hi0; have hi' := InR.below ⟨A9, c9, rfl, hq1, hq2, hq3⟩ hb1; have HB := Lib.hid hb1; have HS := Lib.hid ((HH.out.below hb1).set1 (s' := { s with input := (lineOf s.input).2.1 }) 4 (.slice A9 (lineOf s.input).2.1.length c9) rfl ⟨rfl, rfl, rfl, rfl⟩ hi' (HH.out.nxt.keep (Tr.below hb1))); have d4 := (cells11 (HH.out.below hb1).hd).2.2.2.2.1; have e4 := frozenN (HH.out.below hb1).hd 4; have HT := Lib.hid (tellF_any HS.out.1 HV.out (.mk 2 0 (lineOf s.input).1 [] [] none) none 0 none none 0 (lineOf s.input).2.2 true (fun _ _ => plain_vr w0 _ _ 2 0 (lineOf s.input).1)); clear hi' hq1 hq2 hq3 hb1)
    | (go_at_call 35; (refine HT.out.mono ?_); rintro e1 w2 ⟨rfl, hp⟩; have HP := Lib.hid hp; clear hp HT))
  go_returns
  exact ⟨rfl, (HP.out.mono HS.out.2.1 HS.out.2.2).mono (HBM.out _ HB.out).1 (HBM.out _ HB.out).2⟩
end
end Go.Proofs.YtjmgnohepoacbaaDoor

namespace Go.Proofs.YtjmgnohepoacbaaDoor
open Go.ChangeShapes Go.WideShapes Go.ChangeAt Go.RowKit Go.Sort
set_option linter.unusedVariables false
set_option linter.unusedSimpArgs false

theorem VR.ones {w0 w : World} {P : Nat → Prop} {z : Val} {cs : List Value} (h : VR w0 w P z cs) : ∀ u ∈ cs, u.oneCell' = true := by
  obtain ⟨A, c, q, LA, lc, rfl⟩ := h.six
  intro u hu
  simp at hu
  rcases hu with rfl | rfl | rfl | rfl | rfl | rfl <;> rfl
theorem vrs_ones {w0 w : World} {P : Nat → Prop} {l : List Val} {css : List (List Value)} (h : LR (VR w0 w P) l css) : ∀ u ∈ css.flatten, u.oneCell' = true := by
  intro u hu
  obtain ⟨c, hc, hu⟩ := List.mem_flatten.1 hu
  obtain ⟨j, hj, e⟩ := List.getElem_of_mem hc
  exact (h.at_ j _ c (List.getElem?_eq_getElem (by rw [← h.len]; exact hj)) (by rw [List.getElem?_eq_getElem hj, e])).ones u hu
theorem vnil_yes (n c : Nat) (w : World) : (binOp .eql 42 (.slice none n c) (.slice none 0 0)).run Tryd.prog w = .ok (.bool true) w := by kernel_rfl
theorem vnil_no (a : Addr) (n c : Nat) (w : World) : (binOp .eql 42 (.slice (some a) n c) (.slice none 0 0)).run Tryd.prog w = .ok (.bool false) w := by kernel_rfl
/-- Values side by side, anywhere. -/
structure Vs (w0 w : World) (P : Nat → Prop) (l : List Val) (A : Option Addr) (css : List (List Value)) : Prop where
  rd : Rd w 6 A l.length css.flatten
  lr : LR (VR w0 w P) l css
theorem Vs.below {w0 w w' : World} {P : Nat → Prop} {l : List Val} {A : Option Addr} {css : List (List Value)} (h : Vs w0 w P l A css) (hb : Below w.heap.size w w') : Vs w0 w' P l A css := ⟨h.rd.below hb, h.lr.imp (fun a c => VR.keep (Tr.below hb))⟩
/-- Texts side by side, anywhere. -/
def Ls (w : World) (P : Nat → Prop) (l : List Str) (A : Option Addr) (c : Nat) : Prop := Rd w 1 A l.length (strs l) ∧ (0 < l.length → ∀ a, A = some a → P a.block ∧ a.off = 0) ∧ (l.length ≤ c ∧ c ≤ maxLen)
theorem Ls.nil (w : World) (P : Nat → Prop) : Ls w P [] none 0 := ⟨Rd.nil w 1 none, fun h => absurd h (Nat.lt_irrefl 0), Nat.le_refl 0, by decide⟩
theorem Ls.below {w w' : World} {P : Nat → Prop} {l : List Str} {A : Option Addr} {c : Nat} (h : Ls w P l A c) (hb : Below w.heap.size w w') : Ls w' P l A c := ⟨h.1.below hb, h.2⟩
/-- A value of labels and of values that stand. -/
theorem Vs.vr {w0 w : World} {P : Nat → Prop} {l : List Val} {A : Option Addr} {css : List (List Value)} (h : Vs w0 w P l A css) (hP : 0 < l.length → ∀ a, A = some a → P a.block) {c : Nat} (hc : l.length ≤ c ∧ c ≤ maxLen) {labels : List Str} {LA : Option Addr} {lc : Nat} (hl : Ls w P labels LA lc) (sort n : Int) (s : Str) :
    VR w0 w P (.mk sort n s labels l none) [.int .i64 sort, .int .i64 n, .string (bstr s), .slice LA labels.length lc, .slice A l.length c, .pointer none] :=
  .mk sort n s labels l none LA lc A c css _ hl.1 hl.2.1 hl.2.2 h.lr.len h.rd hP hc (fun i v cs h1 h2 => h.lr.at_ i v cs h1 h2) .none
/-- A value's labels. -/
theorem VR.lab {w0 w : World} {P : Nat → Prop} {z : Val} {A : Option Addr} {c : Nat} {p : Option Addr} {LA : Option Addr} {lc : Nat} (h : VR w0 w P z [.int .i64 z.sort, .int .i64 z.n, .string (bstr z.s), .slice LA z.labels.length lc, .slice A z.l.length c, .pointer p]) : Ls w P z.labels LA lc := by
  cases h with
  | mk sort n s labels l f LA lc A c css u lrd lbl lcap len rd bl cap sub fn => exact ⟨lrd, lbl, lcap⟩
/-- A value's parts, where they lie. -/
theorem VR.vs {w0 w : World} {P : Nat → Prop} {z : Val} {A : Option Addr} {c : Nat} {p : Option Addr} {LA : Option Addr} {lc : Nat} (h : VR w0 w P z [.int .i64 z.sort, .int .i64 z.n, .string (bstr z.s), .slice LA z.labels.length lc, .slice A z.l.length c, .pointer p]) :
    ∃ css, Vs w0 w P z.l A css ∧ (z.l.length ≤ c ∧ c ≤ maxLen) ∧ (0 < z.l.length → ∀ a, A = some a → P a.block) := by
  cases h with
  | mk sort n s labels l f LA lc A c css u lrd lbl lcap len rd bl cap sub fn => exact ⟨css, ⟨rd, len, fun i v cs h1 h2 => sub i v cs h1 h2⟩, cap, bl⟩
/-- Six cells of a block of its own, written. -/
theorem own_block6 {w w1 : World} {g : Nat} {x0 x1 x2 x3 x4 x5 : Value} {T : TypeId} (h : w1.heap[g]? = some (.cells #[x0, x1, x2, x3, x4, x5] T)) (a0 a1 a2 a3 a4 a5 : Value) (hb : Below w.heap.size w w1) (hg : w.heap.size ≤ g) :
    ((((((w1.setCell ⟨g, 0, none⟩ a0).setCell ⟨g, 1, none⟩ a1).setCell ⟨g, 2, none⟩ a2).setCell ⟨g, 3, none⟩ a3).setCell ⟨g, 4, none⟩ a4).setCell ⟨g, 5, none⟩ a5).heap[g]? = some (.cells #[a0, a1, a2, a3, a4, a5] T) ∧
    Below w.heap.size w ((((((w1.setCell ⟨g, 0, none⟩ a0).setCell ⟨g, 1, none⟩ a1).setCell ⟨g, 2, none⟩ a2).setCell ⟨g, 3, none⟩ a3).setCell ⟨g, 4, none⟩ a4).setCell ⟨g, 5, none⟩ a5) ∧
    ∀ b, b ≠ g → ((((((w1.setCell ⟨g, 0, none⟩ a0).setCell ⟨g, 1, none⟩ a1).setCell ⟨g, 2, none⟩ a2).setCell ⟨g, 3, none⟩ a3).setCell ⟨g, 4, none⟩ a4).setCell ⟨g, 5, none⟩ a5).heap[b]? = w1.heap[b]? :=
  ⟨set_cells (set_cells (set_cells (set_cells (set_cells (set_cells h 0 a0) 1 a1) 2 a2) 3 a3) 4 a4) 5 a5,
    ((((((hb.setCell (p := ⟨g, 0, none⟩) hg a0).setCell (p := ⟨g, 1, none⟩) hg a1).setCell (p := ⟨g, 2, none⟩) hg a2).setCell (p := ⟨g, 3, none⟩) hg a3).setCell (p := ⟨g, 4, none⟩) hg a4).setCell (p := ⟨g, 5, none⟩) hg a5),
    fun b h => by rw [set_other _ _ _ _ h, set_other _ _ _ _ h, set_other _ _ _ _ h, set_other _ _ _ _ h, set_other _ _ _ _ h, set_other _ _ _ _ h]⟩
/-- What is read of them. -/
theorem reads_block6 {w1 : World} {g : Nat} {x0 x1 x2 x3 x4 x5 : Value} {T : TypeId} (h : w1.heap[g]? = some (.cells #[x0, x1, x2, x3, x4, x5] T)) (a0 a1 a2 a3 a4 a5 : Value) :
    (w1.setCell ⟨g, 0, none⟩ a0).cell? ⟨g, 0, none⟩ = some a0 ∧ ((w1.setCell ⟨g, 0, none⟩ a0).setCell ⟨g, 1, none⟩ a1).cell? ⟨g, 1, none⟩ = some a1 ∧ (((w1.setCell ⟨g, 0, none⟩ a0).setCell ⟨g, 1, none⟩ a1).setCell ⟨g, 2, none⟩ a2).cell? ⟨g, 2, none⟩ = some a2 ∧ ((((w1.setCell ⟨g, 0, none⟩ a0).setCell ⟨g, 1, none⟩ a1).setCell ⟨g, 2, none⟩ a2).setCell ⟨g, 3, none⟩ a3).cell? ⟨g, 3, none⟩ = some a3 ∧ (((((w1.setCell ⟨g, 0, none⟩ a0).setCell ⟨g, 1, none⟩ a1).setCell ⟨g, 2, none⟩ a2).setCell ⟨g, 3, none⟩ a3).setCell ⟨g, 4, none⟩ a4).cell? ⟨g, 4, none⟩ = some a4 ∧ ((((((w1.setCell ⟨g, 0, none⟩ a0).setCell ⟨g, 1, none⟩ a1).setCell ⟨g, 2, none⟩ a2).setCell ⟨g, 3, none⟩ a3).setCell ⟨g, 4, none⟩ a4).setCell ⟨g, 5, none⟩ a5).cell? ⟨g, 5, none⟩ = some a5 :=
  ⟨by rw [Lib.cell_of_heap (set_cells h 0 a0)]; rfl, by rw [Lib.cell_of_heap (set_cells (set_cells h 0 a0) 1 a1)]; rfl, by rw [Lib.cell_of_heap (set_cells (set_cells (set_cells h 0 a0) 1 a1) 2 a2)]; rfl, by rw [Lib.cell_of_heap (set_cells (set_cells (set_cells (set_cells h 0 a0) 1 a1) 2 a2) 3 a3)]; rfl, by rw [Lib.cell_of_heap (set_cells (set_cells (set_cells (set_cells (set_cells h 0 a0) 1 a1) 2 a2) 3 a3) 4 a4)]; rfl, by rw [Lib.cell_of_heap (set_cells (set_cells (set_cells (set_cells (set_cells (set_cells h 0 a0) 1 a1) 2 a2) 3 a3) 4 a4) 5 a5)]; rfl⟩
end Go.Proofs.YtjmgnohepoacbaaDoor
