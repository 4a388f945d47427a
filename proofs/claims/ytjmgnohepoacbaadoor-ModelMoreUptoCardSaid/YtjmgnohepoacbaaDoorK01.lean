/-
  The machine: what a reference has.
  The machine: a reference has something else.
  The machine: a new reference. (Made by gen_mal.py out of MaE.)
  The machine: a text is printed.
-/
import Derived.Test.YtjmgnohepoacbaaDoorK00
import Derived.Deep.RegionLaw
import Derived.Deep.Cut
namespace Go.Proofs.YtjmgnohepoacbaaDoor
open Go.ChangeShapes Go.WideShapes Go.ChangeAt Go.RowKit Go.Sort
set_option linter.unusedVariables false
set_option linter.unusedSimpArgs false

/-- The cells of a row's element. -/
theorem own_at6 {w : World} {base n g cap : Nat} {e : TypeId} {css : List (List Value)} (h : w.ownsRow base e 6 (.slice (some ⟨g, 0, none⟩) n cap) n css.flatten) (h6 : ∀ c ∈ css, c.length = 6) {k : Nat} {z0 z1 z2 z3 z4 z5 : Value} (hk : css[k]? = some [z0, z1, z2, z3, z4, z5]) :
    (w.cell? ⟨g, k * 6, none⟩ = some z0 ∧ w.cell? ⟨g, k * 6 + 1, none⟩ = some z1 ∧ w.cell? ⟨g, k * 6 + 2, none⟩ = some z2 ∧ w.cell? ⟨g, k * 6 + 3, none⟩ = some z3 ∧ w.cell? ⟨g, k * 6 + 4, none⟩ = some z4 ∧ w.cell? ⟨g, k * 6 + 5, none⟩ = some z5) ∧
    (w.frozen? ⟨g, k * 6, none⟩ = false ∧ w.frozen? ⟨g, k * 6 + 1, none⟩ = false ∧ w.frozen? ⟨g, k * 6 + 2, none⟩ = false ∧ w.frozen? ⟨g, k * 6 + 3, none⟩ = false ∧ w.frozen? ⟨g, k * 6 + 4, none⟩ = false ∧ w.frozen? ⟨g, k * 6 + 5, none⟩ = false) := by
  have g0 := flat_at2 h6 hk (j := 0) rfl
  have g1 := flat_at2 h6 hk (j := 1) rfl
  have g2 := flat_at2 h6 hk (j := 2) rfl
  have g3 := flat_at2 h6 hk (j := 3) rfl
  have g4 := flat_at2 h6 hk (j := 4) rfl
  have g5 := flat_at2 h6 hk (j := 5) rfl
  exact ⟨⟨(own_cell h g0).1, (own_cell h g1).1, (own_cell h g2).1, (own_cell h g3).1, (own_cell h g4).1, (own_cell h g5).1⟩, (own_cell h g0).2, (own_cell h g1).2, (own_cell h g2).2, (own_cell h g3).2, (own_cell h g4).2, (own_cell h g5).2⟩
section
variable {w0 w : World} {B mb : Nat} {s : St} {t i r v f nx nm : Value} {rcs vcs fcs : List (List Value)}
set_option maxHeartbeats 4000000 in
theorem has_any (h : Rep w0 B mb s w t i r v f nx nm rcs vcs fcs) (hn : s.refs.length ≤ 100000000000) (z : Val) (A : Option Addr) (c : Nat) (p : Option Addr) (LA : Option Addr) (lc : Nat) (k : Nat) (hk : k < s.refs.length) (hz : z.n = k) :
    Calls Tryd.prog 54 #[.pointer (some ⟨mb, 0, none⟩), .agg #[.int .i64 z.sort, .int .i64 z.n, .string (bstr z.s), .slice LA z.labels.length lc, .slice A z.l.length c, .pointer p]] w fun e w' => ∃ (A' : Option Addr) (c' : Nat) (p' : Option Addr) (LA' : Option Addr) (lc' : Nat), e = .returned (.agg #[.int .i64 s.refs[k].sort, .int .i64 s.refs[k].n, .string (bstr s.refs[k].s), .slice LA' s.refs[k].labels.length lc', .slice A' s.refs[k].l.length c', .pointer p']) ∧ VR w0 w (Mv mb t r v f) s.refs[k] [.int .i64 s.refs[k].sort, .int .i64 s.refs[k].n, .string (bstr s.refs[k].s), .slice LA' s.refs[k].labels.length lc', .slice A' s.refs[k].l.length c', .pointer p'] ∧ Below w.heap.size w w' := by
  rw [hz]
  obtain ⟨cs, hcs, hv⟩ := h.rl.get hk
  obtain ⟨y, hy⟩ : ∃ y, s.refs[k] = y := ⟨_, rfl⟩
  rw [hy] at hv ⊢
  obtain ⟨A6, k6, q6, LA6, lk6, rfl⟩ := hv.six
  obtain ⟨m, hm⟩ : ∃ m, s.refs.length = m + 1 := ⟨s.refs.length - 1, by omega⟩
  have hrr := h.rr
  rw [hm] at hrr
  obtain ⟨g, cg, rfl⟩ := own_some hrr
  have hb1 : Below w.heap.size w (w.alloc (.cells #[.int .i64 z.sort, .int .i64 (k : Int), .string (bstr z.s), .slice LA z.labels.length lc, .slice A z.l.length c, .pointer p] 45)) := (Below.refl _ _).alloc (Nat.le_refl _) _
  have hb2 := hb1.alloc (by rw [World.size_alloc]; omega) (.cells #[.int .i64 0, .int .i64 0, .string ⟨#[]⟩, .slice none 0 0, .slice none 0 0, .pointer none] 45)
  obtain ⟨⟨a0, a1, a2, a3, a4, a5⟩, _⟩ := own_at6 (own_below hrr hb2) (VR.lens h.rl) hcs
  obtain ⟨b0, b1, b2, b3, b4, b5⟩ := cells6 ((Below.heap_alloc _ (.cells #[.int .i64 0, .int .i64 0, .string ⟨#[]⟩, .slice none 0 0, .slice none 0 0, .pointer none] 45) _ (by rw [World.size_alloc]; omega)).trans (heap_new (w := w) (o := .cells #[.int .i64 z.sort, .int .i64 (k : Int), .string (bstr z.s), .slice LA z.labels.length lc, .slice A z.l.length c, .pointer p] 45) rfl))
  have c6 := (cells11 ((hb2.block mb h.lt).trans h.hd)).2.2.2.2.2.2.1
  have HV := Lib.hid hv
  have HB := Lib.hid (show Below w.heap.size w ((w.alloc (.cells #[.int .i64 z.sort, .int .i64 (k : Int), .string (bstr z.s), .slice LA z.labels.length lc, .slice A z.l.length c, .pointer p] 45)).alloc (.cells #[.int .i64 y.sort, .int .i64 y.n, .string (bstr y.s), .slice LA6 y.labels.length lk6, .slice A6 y.l.length k6, .pointer q6] 45)).drew from (hb1.alloc (by rw [World.size_alloc]; omega) _).drew)
  have n0 : (0 : Int) ≤ (k : Int) := by omega
  have n1 : (k : Int) < (m : Int) + 1 := by omega
  have n2 : (m : Int) ≤ 100000000000 := by omega
  clear h hv hcs hrr hb1 hb2 hn hk hz hy
  go_enter Tryd.func54, Tryd.ntmps54
  go_upto_region 1 with fail
  go_region_law fail
  all_goals
    go_wp2_with fail
    go_returns
    with_reducible exact ⟨_, _, _, _, _, rfl, HV.out, HB.out⟩
def St.get (s : St) (z : Val) : St := if z.sort = 6 then (match s.refs[z.n.toNat]? with
  | some y => { s with vals := s.vals ++ [y] }
  | none => s) else { s with err := 11 }
set_option maxHeartbeats 4000000 in
theorem get_any (h : Rep w0 B mb s w t i r v f nx nm rcs vcs fcs) (hn : s.refs.length ≤ 100000000000) (hv : s.vals.length ≤ 100000000000) (z : Val) (A : Option Addr) (c : Nat) (p : Option Addr) (LA : Option Addr) (lc : Nat) (hz : z.sort = 6 → ∃ k : Nat, z.n = k ∧ k < s.refs.length) :
    Calls Tryd.prog 42 #[.pointer (some ⟨mb, 0, none⟩), .agg #[.int .i64 z.sort, .int .i64 z.n, .string (bstr z.s), .slice LA z.labels.length lc, .slice A z.l.length c, .pointer p]] w fun e w' => e = .returned (.tuple #[]) ∧ Post w0 B mb (Mv mb t r v f) w (s.get z) w' := by
  have hb : Below w.heap.size w (w.alloc (.cells #[.int .i64 z.sort, .int .i64 z.n, .string (bstr z.s), .slice LA z.labels.length lc, .slice A z.l.length c, .pointer p] 45)) := (Below.refl _ _).alloc (Nat.le_refl _) _
  have HBM := Lib.hid (fun (wr : World) (hb : Below w.heap.size w wr) => And.intro (Tr.below (P := Mv mb t r v f) hb) (hb.mono (Nat.le_of_lt (Nat.lt_of_le_of_lt h.base.2 h.lt))))
  have HB := Lib.hid hb
  by_cases hs : z.sort = 6
  · obtain ⟨k, hzn, hk⟩ := hz hs
    have e : s.get z = { s with vals := s.vals ++ [s.refs[k]] } := by
      unfold St.get
      rw [if_pos hs, hzn, show ((k : Int).toNat) = k from rfl, List.getElem?_eq_getElem hk]
    rw [e]
    have HC := Lib.hid (has_any (h.below hb) hn z A c p LA lc k hk hzn)
    have HD := Lib.hid (fun (w1 : World) (hb1 : Below w.heap.size w w1) (z : Val) (A : Option Addr) (c : Nat) (p : Option Addr) (LA : Option Addr) (lc : Nat) a => tell_any (h.below hb1) hv z (A := A) (c := c) (p := p) (LA := LA) (lc := lc) a)
    rw [hs] at HC HB ⊢
    clear e h hb hz hs hzn hn hv
    go_enter Tryd.func42, Tryd.ntmps42
    go_wp2_with (first
      | (go_at_call 54; (with_reducible refine HC.out.mono ?_); rintro e1 w1 ⟨A1, c1, p1, LA1, lc1, rfl, hv1, hb1⟩; have HB1 := Lib.hid (below_then HB.out hb1); have HT := Lib.hid (HD.out _ HB1.out _ _ _ _ _ _ (VR.keep (Tr.below hb1) hv1)); clear hb1 hv1 HC HD)
      | (go_at_call 21; (with_reducible refine HT.out.mono ?_); rintro e1 w2 ⟨rfl, hp⟩; have HP := Lib.hid hp; clear hp HT))
    go_returns
    with_reducible exact ⟨rfl, HP.out.mono (HBM.out _ HB1.out).1 (HBM.out _ HB1.out).2⟩
  · have e : s.get z = { s with err := 11 } := by unfold St.get; rw [if_neg hs]
    rw [e]
    have HC := Lib.hid (stuck_any (h.below hb))
    clear e h hb hz hn hv
    go_enter Tryd.func42, Tryd.ntmps42
    go_wp2_with (go_at_call 20; (with_reducible refine HC.out.mono ?_); rintro e1 w1 ⟨rfl, hp⟩; have HP := Lib.hid hp; clear hp HC)
    go_returns
    with_reducible exact ⟨rfl, HP.out.mono (HBM.out _ HB.out).1 (HBM.out _ HB.out).2⟩
end
end Go.Proofs.YtjmgnohepoacbaaDoor

namespace Go.Proofs.YtjmgnohepoacbaaDoor
open Go.ChangeShapes Go.WideShapes Go.ChangeAt Go.RowKit Go.Sort
set_option linter.unusedVariables false
set_option linter.unusedSimpArgs false

theorem set_flat {css : List (List Value)} (h6 : ∀ c ∈ css, c.length = 6) {k : Nat} (hk : k < css.length) (a0 a1 a2 a3 a4 a5 : Value) :
    (((((css.flatten.set (k * 6) a0).set (k * 6 + 1) a1).set (k * 6 + 2) a2).set (k * 6 + 3) a3).set (k * 6 + 4) a4).set (k * 6 + 5) a5 = (css.set k [a0, a1, a2, a3, a4, a5]).flatten := by
  induction css generalizing k with
  | nil => simp at hk
  | cons c css ih =>
    have hc := h6 c (List.mem_cons_self ..)
    match c, hc with
    | [z0, z1, z2, z3, z4, z5], _ =>
      cases k with
      | zero => simp
      | succ k =>
        have := ih (fun c hc => h6 c (List.mem_cons_of_mem _ hc)) (k := k) (by simpa using hk)
        rw [List.set_cons_succ, List.flatten_cons, List.flatten_cons, ← this]
        rw [show (k + 1) * 6 = k * 6 + 6 by omega]
        simp only [show k * 6 + 6 + 1 = (k * 6 + 1) + 6 by omega, show k * 6 + 6 + 2 = (k * 6 + 2) + 6 by omega, show k * 6 + 6 + 3 = (k * 6 + 3) + 6 by omega, show k * 6 + 6 + 4 = (k * 6 + 4) + 6 by omega, show k * 6 + 6 + 5 = (k * 6 + 5) + 6 by omega]
        rfl
theorem own_putK {w : World} {base n g cap : Nat} {e : TypeId} {css : List (List Value)} (h : w.ownsRow base e 6 (.slice (some ⟨g, 0, none⟩) n cap) n css.flatten) (h6 : ∀ c ∈ css, c.length = 6) {k : Nat} (hk : k < n) (hn : css.length = n) (a0 a1 a2 a3 a4 a5 : Value) :
    (put6 w g (k * 6) a0 a1 a2 a3 a4 a5).ownsRow base e 6 (.slice (some ⟨g, 0, none⟩) n cap) n (css.set k [a0, a1, a2, a3, a4, a5]).flatten := by
  have h6' := own_set (own_set (own_set (own_set (own_set (own_set h (k * 6) (by omega) a0) (k * 6 + 1) (by omega) a1) (k * 6 + 2) (by omega) a2) (k * 6 + 3) (by omega) a3) (k * 6 + 4) (by omega) a4) (k * 6 + 5) (by omega) a5
  rw [set_flat h6 (by omega)] at h6'
  unfold put6
  exact h6'
def St.set (s : St) (z y : Val) : St := if z.sort = 6 then { s with refs := s.refs.set z.n.toNat y, vals := s.vals ++ [.mk 4 0 [] [] [] none] } else { s with err := 11 }
theorem plain_vr (w0 w : World) (P : Nat → Prop) (sort n : Int) (st : Str) : VR w0 w P (.mk sort n st [] [] none) [.int .i64 (Val.mk sort n st [] [] none).sort, .int .i64 (Val.mk sort n st [] [] none).n, .string (bstr (Val.mk sort n st [] [] none).s), .slice none (Val.mk sort n st [] [] none).labels.length 0, .slice none (Val.mk sort n st [] [] none).l.length 0, .pointer none] :=
  .mk sort n st [] [] none none 0 none 0 [] _ (Rd.nil w 1 none) (fun h => absurd h (Nat.lt_irrefl 0)) ⟨Nat.le_refl 0, by decide⟩ rfl (Rd.nil w 6 none) (fun h => absurd h (Nat.lt_irrefl 0)) ⟨Nat.le_refl 0, by decide⟩ (fun i v cs h => by simp at h) .none
theorem unit_vr (w0 w : World) (P : Nat → Prop) : VR w0 w P (.mk 4 0 [] [] [] none) [.int .i64 (Val.mk 4 0 [] [] [] none).sort, .int .i64 (Val.mk 4 0 [] [] [] none).n, .string (bstr (Val.mk 4 0 [] [] [] none).s), .slice none (Val.mk 4 0 [] [] [] none).labels.length 0, .slice none (Val.mk 4 0 [] [] [] none).l.length 0, .pointer none] :=
  .mk 4 0 [] [] [] none none 0 none 0 [] _ (Rd.nil w 1 none) (fun h => absurd h (Nat.lt_irrefl 0)) ⟨Nat.le_refl 0, by decide⟩ rfl (Rd.nil w 6 none) (fun h => absurd h (Nat.lt_irrefl 0)) ⟨Nat.le_refl 0, by decide⟩ (fun i v cs h => by simp at h) .none
section
variable {w0 w : World} {B mb : Nat} {s : St} {t i r v f nx nm : Value} {rcs vcs fcs : List (List Value)}
/-- A value without parts is told. -/
theorem tellS_any (h : Rep w0 B mb s w t i r v f nx nm rcs vcs fcs) (hn : s.vals.length ≤ 100000000000) (sort n : Int) (st : Str) :
    Calls Tryd.prog 21 #[.pointer (some ⟨mb, 0, none⟩), .agg #[.int .i64 sort, .int .i64 n, .string (bstr st), .slice none 0 0, .slice none 0 0, .pointer none]] w fun e w' => e = .returned (.tuple #[]) ∧ Post w0 B mb (Mv mb t r v f) w { s with vals := s.vals ++ [.mk sort n st [] [] none] } w' :=
  tell_any h hn (.mk sort n st [] [] none) (plain_vr w0 w _ sort n st)
theorem tellE_any (h : Rep w0 B mb s w t i r v f nx nm rcs vcs fcs) (hn : s.vals.length ≤ 100000000000) (sort n : Int) :
    Calls Tryd.prog 21 #[.pointer (some ⟨mb, 0, none⟩), .agg #[.int .i64 sort, .int .i64 n, .string ⟨#[]⟩, .slice none 0 0, .slice none 0 0, .pointer none]] w fun e w' => e = .returned (.tuple #[]) ∧ Post w0 B mb (Mv mb t r v f) w { s with vals := s.vals ++ [.mk sort n [] [] [] none] } w' :=
  tellS_any h hn sort n []
/-- A reference's cells are written. -/
theorem Rep.setref {g cg m : Nat} (hm : s.refs.length = m + 1) (h : Rep w0 B mb s w t i (.slice (some ⟨g, 0, none⟩) (m + 1) cg) v f nx nm rcs vcs fcs) {w1 : World} (hb : Below w.heap.size w w1) {k : Nat} (hk : k < s.refs.length) (y : Val) {c0 c1 c2 c3 c4 c5 : Value} (hy : VR w0 w (Mv mb t (.slice (some ⟨g, 0, none⟩) (m + 1) cg) v f) y [c0, c1, c2, c3, c4, c5]) :
    Rep w0 B mb { s with refs := s.refs.set k y } (put6 w1 g (k * 6) c0 c1 c2 c3 c4 c5) t i (.slice (some ⟨g, 0, none⟩) (m + 1) cg) v f nx nm (rcs.set k [c0, c1, c2, c3, c4, c5]) vcs fcs ∧ Tr w (Mv mb t (.slice (some ⟨g, 0, none⟩) (m + 1) cg) v f) (put6 w1 g (k * 6) c0 c1 c2 c3 c4 c5) (Mv mb t (.slice (some ⟨g, 0, none⟩) (m + 1) cg) v f) ∧ Below B w (put6 w1 g (k * 6) c0 c1 c2 c3 c4 c5) := by
  have hgm : g ≠ mb := (h.dr g rfl).1
  have hk' : ∀ b, b < w.heap.size → b ≠ mb → some b ≠ (Value.slice (some ⟨g, 0, none⟩) (m + 1) cg).ownBlock → (put6 w1 g (k * 6) c0 c1 c2 c3 c4 c5).heap[b]? = w.heap[b]? := fun b h1 h2 h3 => by
    rw [put6_other _ _ _ _ _ _ _ _ _ (fun e => h3 (by subst e; rfl)), hb.block b h1]
  have hT : Tr w (Mv mb t (.slice (some ⟨g, 0, none⟩) (m + 1) cg) v f) (put6 w1 g (k * 6) c0 c1 c2 c3 c4 c5) (Mv mb t (.slice (some ⟨g, 0, none⟩) (m + 1) cg) v f) := fun b hb hl => ⟨hb, hk' b hl hb.1 hb.2.2.1⟩
  have hrr := own_below h.rr hb
  rw [hm] at hrr
  refine h.refs_ (L' := s.refs.set k y) (css' := rcs.set k [c0, c1, c2, c3, c4, c5]) hk' ⟨by rw [put6_os]; exact hb.os, by rw [put6_tape]; exact hb.tape, by rw [put6_output]; exact hb.output, by rw [put6_size]; exact hb.size⟩ ?_ ?_ (fun q hq => .inl hq) ((h.rl.imp (fun a c => VR.keep hT)).set k (hy.keep hT))
  · rw [put6_other _ _ _ _ _ _ _ _ _ (Ne.symm hgm), hb.block mb h.lt]
    exact h.hd
  · rw [List.length_set, hm]
    exact own_putK hrr (VR.lens h.rl) (by omega) (by rw [h.rl.len, hm]) _ _ _ _ _ _
set_option maxHeartbeats 4000000 in
theorem setR_any (h : Rep w0 B mb s w t i r v f nx nm rcs vcs fcs) (hn : s.refs.length ≤ 100000000000) (hv : s.vals.length ≤ 100000000000) (z y : Val) (A : Option Addr) (c : Nat) (p : Option Addr) (LA : Option Addr) (lc : Nat) (A6 : Option Addr) (k6 : Nat) (q6 : Option Addr) (LA6 : Option Addr) (lk6 : Nat) (hz : z.sort = 6 → ∃ k : Nat, z.n = k ∧ k < s.refs.length)
    (hy : VR w0 w (Mv mb t r v f) y [.int .i64 y.sort, .int .i64 y.n, .string (bstr y.s), .slice LA6 y.labels.length lk6, .slice A6 y.l.length k6, .pointer q6]) :
    Calls Tryd.prog 43 #[.pointer (some ⟨mb, 0, none⟩), .agg #[.int .i64 z.sort, .int .i64 z.n, .string (bstr z.s), .slice LA z.labels.length lc, .slice A z.l.length c, .pointer p], .agg #[.int .i64 y.sort, .int .i64 y.n, .string (bstr y.s), .slice LA6 y.labels.length lk6, .slice A6 y.l.length k6, .pointer q6]] w fun e w' => e = .returned (.tuple #[]) ∧ Post w0 B mb (Mv mb t r v f) w (s.set z y) w' := by
  by_cases hs : z.sort = 6
  · obtain ⟨k, hzn, hk⟩ := hz hs
    have e : s.set z y = { s with refs := s.refs.set k y, vals := s.vals ++ [.mk 4 0 [] [] [] none] } := by
      unfold St.set
      rw [if_pos hs, hzn, show ((k : Int).toNat) = k from rfl]
    rw [e, hs, hzn]
    obtain ⟨m, hm⟩ : ∃ m, s.refs.length = m + 1 := ⟨s.refs.length - 1, by omega⟩
    have hrr := h.rr
    rw [hm] at hrr
    obtain ⟨g, cg, rfl⟩ := own_some hrr
    have hb1 : Below w.heap.size w (w.alloc (.cells #[.int .i64 6, .int .i64 (k : Int), .string (bstr z.s), .slice LA z.labels.length lc, .slice A z.l.length c, .pointer p] 45)) := (Below.refl _ _).alloc (Nat.le_refl _) _
    have hb2 : Below w.heap.size w ((w.alloc (.cells #[.int .i64 6, .int .i64 (k : Int), .string (bstr z.s), .slice LA z.labels.length lc, .slice A z.l.length c, .pointer p] 45)).alloc (.cells #[.int .i64 y.sort, .int .i64 y.n, .string (bstr y.s), .slice LA6 y.labels.length lk6, .slice A6 y.l.length k6, .pointer q6] 45)) := hb1.alloc (by rw [World.size_alloc]; omega) _
    have hb3 := hb2.drew
    obtain ⟨cs, hcs, hcv⟩ := h.rl.get hk
    have hcs6 := hcv.len
    obtain ⟨z0, z1, z2, z3, z4, z5, rfl⟩ : ∃ z0 z1 z2 z3 z4 z5, cs = [z0, z1, z2, z3, z4, z5] := by
      match cs, hcs6 with
      | [z0, z1, z2, z3, z4, z5], _ => exact ⟨_, _, _, _, _, _, rfl⟩
    obtain ⟨⟨a0, a1, a2, a3, a4, a5⟩, ⟨f0, f1, f2, f3, f4, f5⟩⟩ := own_at6 (own_below hrr hb2) (VR.lens h.rl) hcs
    obtain ⟨b0, b1, b2, b3, b4, b5⟩ := cells6 ((Below.heap_alloc _ (.cells #[.int .i64 y.sort, .int .i64 y.n, .string (bstr y.s), .slice LA6 y.labels.length lk6, .slice A6 y.l.length k6, .pointer q6] 45) _ (by rw [World.size_alloc]; omega)).trans (heap_new (w := w) (o := (.cells #[.int .i64 6, .int .i64 (k : Int), .string (bstr z.s), .slice LA z.labels.length lc, .slice A z.l.length c, .pointer p] 45)) rfl))
    obtain ⟨d0, d1, d2, d3, d4, d5⟩ := cells6 (heap_new (w := w.alloc (.cells #[.int .i64 6, .int .i64 (k : Int), .string (bstr z.s), .slice LA z.labels.length lc, .slice A z.l.length c, .pointer p] 45)) (o := (.cells #[.int .i64 y.sort, .int .i64 y.n, .string (bstr y.s), .slice LA6 y.labels.length lk6, .slice A6 y.l.length k6, .pointer q6] 45)) (World.size_alloc _ _))
    have c6 := (cells11 ((hb2.block mb h.lt).trans h.hd)).2.2.2.2.2.2.1
    obtain ⟨r1, r2, r3⟩ := h.setref hm hb2 hk y hy
    have HR := Lib.hid (And.intro (r2.trans r3.size (Tr.below (below_drew1 _))) r3.drew)
    have HT := Lib.hid (tellE_any (r1.below (below_drew1 _)) hv 4 0)
    unfold put6 at HT HR
    have n0 : (0 : Int) ≤ (k : Int) := by omega
    have n1 : (k : Int) < (m : Int) + 1 := by omega
    have n2 : (m : Int) ≤ 100000000000 := by omega
    clear e h hb1 hb2 hb3 hz hs hzn hn hv hy hcs hcv hcs6 r1 r2 r3 hrr hm hk
    go_enter Tryd.func43, Tryd.ntmps43
    go_upto_region 3 with fail
    go_region_law fail
    all_goals
      go_wp2_with (go_at_call 21; (with_reducible refine HT.out.mono ?_); rintro e1 w1 ⟨rfl, hp⟩; have HP := Lib.hid hp; clear hp HT)
      go_returns
      with_reducible exact ⟨rfl, HP.out.mono HR.out.1 HR.out.2⟩
  · have e : s.set z y = { s with err := 11 } := by unfold St.set; rw [if_neg hs]
    rw [e]
    have hb1 : Below w.heap.size w (w.alloc (.cells #[.int .i64 z.sort, .int .i64 z.n, .string (bstr z.s), .slice LA z.labels.length lc, .slice A z.l.length c, .pointer p] 45)) := (Below.refl _ _).alloc (Nat.le_refl _) _
    have hb : Below w.heap.size w ((w.alloc (.cells #[.int .i64 z.sort, .int .i64 z.n, .string (bstr z.s), .slice LA z.labels.length lc, .slice A z.l.length c, .pointer p] 45)).alloc (.cells #[.int .i64 y.sort, .int .i64 y.n, .string (bstr y.s), .slice LA6 y.labels.length lk6, .slice A6 y.l.length k6, .pointer q6] 45)) := hb1.alloc (by rw [World.size_alloc]; omega) _
    have HBM := Lib.hid (And.intro (Tr.below (P := Mv mb t r v f) hb) (hb.mono (Nat.le_of_lt (Nat.lt_of_le_of_lt h.base.2 h.lt))))
    have HC := Lib.hid (stuck_any (h.below hb))
    obtain ⟨b0, b1, b2, b3, b4, b5⟩ := cells6 ((Below.heap_alloc _ (.cells #[.int .i64 y.sort, .int .i64 y.n, .string (bstr y.s), .slice LA6 y.labels.length lk6, .slice A6 y.l.length k6, .pointer q6] 45) _ (by rw [World.size_alloc]; omega)).trans (heap_new (w := w) (o := (.cells #[.int .i64 z.sort, .int .i64 z.n, .string (bstr z.s), .slice LA z.labels.length lc, .slice A z.l.length c, .pointer p] 45)) rfl))
    clear e h hb hb1 hz hn hv hy
    go_enter Tryd.func43, Tryd.ntmps43
    go_wp2_with (go_at_call 20; (with_reducible refine HC.out.mono ?_); rintro e1 w1 ⟨rfl, hp⟩; have HP := Lib.hid hp; clear hp HC)
    go_returns
    with_reducible exact ⟨rfl, HP.out.mono HBM.out.1 HBM.out.2⟩
end
end Go.Proofs.YtjmgnohepoacbaaDoor

namespace Go.Proofs.YtjmgnohepoacbaaDoor
open Go.ChangeShapes Go.WideShapes Go.ChangeAt Go.RowKit Go.Sort
set_option linter.unusedVariables false
set_option linter.unusedSimpArgs false

section
variable {w0 w : World} {B mb : Nat} {s : St} {t i r v f nx nm : Value} {rcs vcs fcs : List (List Value)}
theorem Rep.flatR (h : Rep w0 B mb s w t i r v f nx nm rcs vcs fcs) : rcs.flatten.length = s.refs.length * 6 := h.rr.1
/-- The new row of values stands; how it came to that does not matter. -/
theorem Rep.toldR (h : Rep w0 B mb s w t i r v f nx nm rcs vcs fcs) (z : Val) {cs : List Value} (hz : VR w0 w (Mv mb t r v f) z cs) {W : World} {v6 : Value} (hk : ∀ b, b < w.heap.size → b ≠ mb → some b ≠ r.ownBlock → W.heap[b]? = w.heap[b]?) (ho : W.os = w.os ∧ W.tape = w.tape ∧ W.output = w.output ∧ w.heap.size ≤ W.heap.size)
    (hd' : W.heap[mb]? = some (.cells (HD s t i v6 v f nx nm) 53)) (hv : W.ownsRow B 45 6 v6 (s.refs.length + 1) (rcs.flatten ++ cs)) (hat : ∀ q, v6.ownBlock = some q → r.ownBlock = some q ∨ w.heap.size ≤ q) :
    Rep w0 B mb { s with refs := s.refs ++ [z] } W t i v6 v f nx nm (rcs ++ [cs]) vcs fcs ∧ Tr w (Mv mb t r v f) W (Mv mb t v6 v f) ∧ Below B w W := by
  have hT : Tr w (Mv mb t r v f) W (Mv mb t v6 v f) := fun b hb hl => by
    refine ⟨⟨hb.1, hb.2.1, ?_, hb.2.2.2.1, hb.2.2.2.2⟩, hk b hl hb.1 hb.2.2.1⟩
    intro e
    rcases hat b e.symm with q | q
    · exact hb.2.2.1 q.symm
    · omega
  exact h.refs_ (L' := s.refs ++ [z]) (css' := rcs ++ [cs]) hk ho hd' (by rw [List.length_append, flat_snoc]; exact hv) hat ((h.rl.imp (fun a c => VR.keep hT)).snoc (hz.keep hT))
/-- What stands when the row has grown, ahead of the stores. -/
structure GrewR (w0 w : World) (B mb : Nat) (s : St) (t i r v f nx nm : Value) (rcs : List (List Value)) (w1 w6 : World) (v6 : Value) : Prop where
  hk : ∀ b, b < w1.heap.size → some b ≠ r.ownBlock → w6.heap[b]? = w1.heap[b]?
  ho : w6.os = w.os ∧ w6.tape = w.tape ∧ w6.output = w.output ∧ w.heap.size ≤ w6.heap.size
  bl : Below w.heap.size w w1
  own : w6.ownsRow B 45 6 v6 (s.refs.length + 1) (rcs.flatten ++ zVal)
  hat : ∀ q, v6.ownBlock = some q → r.ownBlock = some q ∨ w1.heap.size ≤ q
theorem Rep.grewR (h : Rep w0 B mb s w t i r v f nx nm rcs vcs fcs) {w1 w6 : World} {v6 : Value} (hb : Below w.heap.size w w1) (hown : w6.ownsRow B 45 6 v6 (s.refs.length + 1) (rcs.flatten ++ zVal)) (hg : w1.grownBy w6 r.ownBlock) (hat : v6.ownBlock = r.ownBlock ∨ v6.ownBlock = some w1.heap.size) : GrewR w0 w B mb s t i r v f nx nm rcs w1 w6 v6 :=
  ⟨fun b hl hne => hg.block b hl hne, ⟨hg.os.trans hb.os, hg.tape.trans hb.tape, hg.output.trans hb.output, Nat.le_trans hb.size hg.size⟩, hb, hown, fun q hq => by
    rcases hat with k | k
    · exact .inl (k ▸ hq)
    · right
      rw [k] at hq
      injection hq with hq
      omega⟩
theorem Rep.vneR (h : Rep w0 B mb s w t i r v f nx nm rcs vcs fcs) : some mb ≠ r.ownBlock := fun e => (h.dr mb e.symm).1 rfl
theorem Rep.vltR (h : Rep w0 B mb s w t i r v f nx nm rcs vcs fcs) {b : Nat} (hb : w.heap.size ≤ b) : some b ≠ r.ownBlock := fun e => by have := (h.rr.lt b e.symm).2; omega
theorem GrewR.hd (h : Rep w0 B mb s w t i r v f nx nm rcs vcs fcs) {w1 w6 : World} {v6 : Value} (g : GrewR w0 w B mb s t i r v f nx nm rcs w1 w6 v6) : w6.heap[mb]? = some (.cells (HD s t i r v f nx nm) 53) :=
  (g.hk mb (Nat.lt_of_lt_of_le h.lt g.bl.size) h.vneR).trans ((g.bl.block mb h.lt).trans h.hd)
theorem GrewR.ne (h : Rep w0 B mb s w t i r v f nx nm rcs vcs fcs) {w1 w6 : World} {q c : Nat} (g : GrewR w0 w B mb s t i r v f nx nm rcs w1 w6 (.slice (some ⟨q, 0, none⟩) (s.refs.length + 1) c)) : q ≠ mb := by
  rcases g.hat q rfl with k | k
  · exact (h.dr q k).1
  · have := h.lt
    have := g.bl.size
    omega
theorem GrewR.fin1 (h : Rep w0 B mb s w t i r v f nx nm rcs vcs fcs) {w1 w6 : World} {q c : Nat} (g : GrewR w0 w B mb s t i r v f nx nm rcs w1 w6 (.slice (some ⟨q, 0, none⟩) (s.refs.length + 1) c)) (z : Val) {c0 c1 c2 c3 c4 c5 : Value} (hz : VR w0 w (Mv mb t r v f) z [c0, c1, c2, c3, c4, c5]) :
    Rep w0 B mb { s with refs := s.refs ++ [z] } ((put6 w6 q (s.refs.length * 6) c0 c1 c2 c3 c4 c5).setCell ⟨mb, 6, none⟩ (.slice (some ⟨q, 0, none⟩) (s.refs.length + 1) c)) t i (.slice (some ⟨q, 0, none⟩) (s.refs.length + 1) c) v f nx nm (rcs ++ [[c0, c1, c2, c3, c4, c5]]) vcs fcs ∧ Tr w (Mv mb t r v f) ((put6 w6 q (s.refs.length * 6) c0 c1 c2 c3 c4 c5).setCell ⟨mb, 6, none⟩ (.slice (some ⟨q, 0, none⟩) (s.refs.length + 1) c)) (Mv mb t (.slice (some ⟨q, 0, none⟩) (s.refs.length + 1) c) v f) ∧ Below B w ((put6 w6 q (s.refs.length * 6) c0 c1 c2 c3 c4 c5).setCell ⟨mb, 6, none⟩ (.slice (some ⟨q, 0, none⟩) (s.refs.length + 1) c)) := by
  have hne := g.ne h
  refine h.toldR z hz (v6 := .slice (some ⟨q, 0, none⟩) (s.refs.length + 1) c) (fun b hb h1 h2 => ?_) ⟨by rw [setCell_os, put6_os]; exact g.ho.1, by rw [setCell_tape, put6_tape]; exact g.ho.2.1, by rw [setCell_output, put6_output]; exact g.ho.2.2.1, by rw [World.size_setCell, put6_size]; exact g.ho.2.2.2⟩ ?_ ?_ (fun q' hq => ?_)
  · have hbq : b ≠ q := fun e => by
      subst e
      rcases g.hat b rfl with k | k
      · exact h2 k.symm
      · have := g.bl.size; omega
    rw [set_other _ _ _ _ h1, put6_other _ _ _ _ _ _ _ _ _ hbq, g.hk b (Nat.lt_of_lt_of_le hb g.bl.size) h2, g.bl.block b hb]
  · rw [set_cells (i := 6) ((put6_other _ _ _ _ _ _ _ _ _ (Ne.symm hne)).trans (g.hd h))]
    rfl
  · exact own_keep (own_put6 g.own h.flatR c0 c1 c2 c3 c4 c5) (fun g' hg' _ => set_other _ _ _ _ (by have e : q = g' := Option.some.inj hg'; omega))
  · rcases g.hat q' hq with k | k
    · exact .inl k
    · right; have := g.bl.size; omega
theorem GrewR.fin2 (h : Rep w0 B mb s w t i r v f nx nm rcs vcs fcs) {w1 w6 : World} {q c : Nat} (g : GrewR w0 w B mb s t i r v f nx nm rcs w1 w6 (.slice (some ⟨q, 0, none⟩) (s.refs.length + 1) c)) (z : Val) {c0 c1 c2 c3 c4 c5 : Value} (hz : VR w0 w (Mv mb t r v f) z [c0, c1, c2, c3, c4, c5]) :
    Rep w0 B mb { s with refs := s.refs ++ [z] } (put6 (w6.setCell ⟨mb, 6, none⟩ (.slice (some ⟨q, 0, none⟩) (s.refs.length + 1) c)) q (s.refs.length * 6) c0 c1 c2 c3 c4 c5) t i (.slice (some ⟨q, 0, none⟩) (s.refs.length + 1) c) v f nx nm (rcs ++ [[c0, c1, c2, c3, c4, c5]]) vcs fcs ∧ Tr w (Mv mb t r v f) (put6 (w6.setCell ⟨mb, 6, none⟩ (.slice (some ⟨q, 0, none⟩) (s.refs.length + 1) c)) q (s.refs.length * 6) c0 c1 c2 c3 c4 c5) (Mv mb t (.slice (some ⟨q, 0, none⟩) (s.refs.length + 1) c) v f) ∧ Below B w (put6 (w6.setCell ⟨mb, 6, none⟩ (.slice (some ⟨q, 0, none⟩) (s.refs.length + 1) c)) q (s.refs.length * 6) c0 c1 c2 c3 c4 c5) := by
  have hne := g.ne h
  refine h.toldR z hz (v6 := .slice (some ⟨q, 0, none⟩) (s.refs.length + 1) c) (fun b hb h1 h2 => ?_) ⟨by rw [put6_os, setCell_os]; exact g.ho.1, by rw [put6_tape, setCell_tape]; exact g.ho.2.1, by rw [put6_output, setCell_output]; exact g.ho.2.2.1, by rw [put6_size, World.size_setCell]; exact g.ho.2.2.2⟩ ?_ ?_ (fun q' hq => ?_)
  · have hbq : b ≠ q := fun e => by
      subst e
      rcases g.hat b rfl with k | k
      · exact h2 k.symm
      · have := g.bl.size; omega
    rw [put6_other _ _ _ _ _ _ _ _ _ hbq, set_other _ _ _ _ h1, g.hk b (Nat.lt_of_lt_of_le hb g.bl.size) h2, g.bl.block b hb]
  · rw [put6_other _ _ _ _ _ _ _ _ _ (Ne.symm hne), set_cells (i := 6) (g.hd h)]
    rfl
  · exact own_put6 (own_keep g.own (fun g' hg' _ => set_other _ _ _ _ (by have e : q = g' := Option.some.inj hg'; omega))) h.flatR c0 c1 c2 c3 c4 c5
  · rcases g.hat q' hq with k | k
    · exact .inl k
    · right; have := g.bl.size; omega
/-- What the walk reads when the row has grown. -/
theorem GrewR.reads (h : Rep w0 B mb s w t i r v f nx nm rcs vcs fcs) {w1 w6 : World} {q c : Nat} (g : GrewR w0 w B mb s t i r v f nx nm rcs w1 w6 (.slice (some ⟨q, 0, none⟩) (s.refs.length + 1) c)) (u : Value) {x0 x1 x2 x3 x4 x5 : Value} {T : TypeId} {b : Nat} (hb : w1.heap[b]? = some (.cells #[x0, x1, x2, x3, x4, x5] T)) (hl : w.heap.size ≤ b) (y0 y1 y2 y3 y4 y5 : Value) :
    (w6.cell? ⟨mb, 6, none⟩ = some r ∧ w6.frozen? ⟨mb, 6, none⟩ = false) ∧
    (w6.cell? ⟨b, 0, none⟩ = some x0 ∧ w6.cell? ⟨b, 1, none⟩ = some x1 ∧ w6.cell? ⟨b, 2, none⟩ = some x2 ∧ w6.cell? ⟨b, 3, none⟩ = some x3 ∧ w6.cell? ⟨b, 4, none⟩ = some x4 ∧ w6.cell? ⟨b, 5, none⟩ = some x5) ∧
    ((w6.setCell ⟨mb, 6, none⟩ u).cell? ⟨b, 0, none⟩ = some x0 ∧ (w6.setCell ⟨mb, 6, none⟩ u).cell? ⟨b, 1, none⟩ = some x1 ∧ (w6.setCell ⟨mb, 6, none⟩ u).cell? ⟨b, 2, none⟩ = some x2 ∧ (w6.setCell ⟨mb, 6, none⟩ u).cell? ⟨b, 3, none⟩ = some x3 ∧ (w6.setCell ⟨mb, 6, none⟩ u).cell? ⟨b, 4, none⟩ = some x4 ∧ (w6.setCell ⟨mb, 6, none⟩ u).cell? ⟨b, 5, none⟩ = some x5) ∧
    ((put6 w6 q (s.refs.length * 6) y0 y1 y2 y3 y4 y5).cell? ⟨mb, 6, none⟩ = some r ∧ (put6 w6 q (s.refs.length * 6) y0 y1 y2 y3 y4 y5).frozen? ⟨mb, 6, none⟩ = false) := by
  have hm := g.hd h
  have hb6 : w6.heap[b]? = some (.cells #[x0, x1, x2, x3, x4, x5] T) := (g.hk b (lt_of_heap hb) (h.vltR hl)).trans hb
  have hbm : b ≠ mb := by have := h.lt; omega
  have hp : (put6 w6 q (s.refs.length * 6) y0 y1 y2 y3 y4 y5).heap[mb]? = _ := (put6_other _ _ _ _ _ _ _ _ _ (Ne.symm (g.ne h))).trans hm
  exact ⟨⟨(cells11 hm).2.2.2.2.2.2.1, frozenN hm 6⟩, cells6 hb6, cells6 ((set_other _ _ _ _ hbm).trans hb6), (cells11 hp).2.2.2.2.2.2.1, frozenN hp 6⟩
set_option maxHeartbeats 4000000 in
theorem ref_any (h : Rep w0 B mb s w t i r v f nx nm rcs vcs fcs) (hn : s.refs.length ≤ 100000000000) (hv : s.vals.length ≤ 100000000000) (z : Val) {A : Option Addr} {c : Nat} {p : Option Addr} {LA : Option Addr} {lc : Nat} (hz : VR w0 w (Mv mb t r v f) z [.int .i64 z.sort, .int .i64 z.n, .string (bstr z.s), .slice LA z.labels.length lc, .slice A z.l.length c, .pointer p]) :
    Calls Tryd.prog 41 #[.pointer (some ⟨mb, 0, none⟩), .agg #[.int .i64 z.sort, .int .i64 z.n, .string (bstr z.s), .slice LA z.labels.length lc, .slice A z.l.length c, .pointer p]] w fun e w' => e = .returned (.tuple #[]) ∧ Post w0 B mb (Mv mb t r v f) w { s with refs := s.refs ++ [z], vals := s.vals ++ [.mk 6 s.refs.length [] [] [] none] } w' := by
  obtain ⟨A1, k1, rfl, _⟩ := own_cap h.rr
  have hb1 : Below w.heap.size w (w.alloc (.cells #[.int .i64 z.sort, .int .i64 z.n, .string (bstr z.s), .slice LA z.labels.length lc, .slice A z.l.length c, .pointer p] 45)) := (Below.refl _ _).alloc (Nat.le_refl _) _
  have hb2 : Below w.heap.size w ((w.alloc (.cells #[.int .i64 z.sort, .int .i64 z.n, .string (bstr z.s), .slice LA z.labels.length lc, .slice A z.l.length c, .pointer p] 45)).alloc (.cells #[.int .i64 0, .int .i64 0, .string ⟨#[]⟩, .slice none 0 0, .slice none 0 0, .pointer none] 45)) := hb1.alloc (by rw [World.size_alloc]; omega) _
  have hb3 : Below w.heap.size w ((w.alloc (.cells #[.int .i64 z.sort, .int .i64 z.n, .string (bstr z.s), .slice LA z.labels.length lc, .slice A z.l.length c, .pointer p] 45)).alloc (.cells #[.int .i64 0, .int .i64 0, .string ⟨#[]⟩, .slice none 0 0, .slice none 0 0, .pointer none] 45)).drew := hb2.drew
  have hx1 : (w.alloc (.cells #[.int .i64 z.sort, .int .i64 z.n, .string (bstr z.s), .slice LA z.labels.length lc, .slice A z.l.length c, .pointer p] 45)).heap[w.heap.size]? = some (.cells #[.int .i64 z.sort, .int .i64 z.n, .string (bstr z.s), .slice LA z.labels.length lc, .slice A z.l.length c, .pointer p] 45) := heap_new rfl
  have hx2 : ((w.alloc (.cells #[.int .i64 z.sort, .int .i64 z.n, .string (bstr z.s), .slice LA z.labels.length lc, .slice A z.l.length c, .pointer p] 45)).alloc (.cells #[.int .i64 0, .int .i64 0, .string ⟨#[]⟩, .slice none 0 0, .slice none 0 0, .pointer none] 45)).drew.heap[w.heap.size]? = some (.cells #[.int .i64 z.sort, .int .i64 z.n, .string (bstr z.s), .slice LA z.labels.length lc, .slice A z.l.length c, .pointer p] 45) := (Below.heap_alloc _ _ _ (by rw [World.size_alloc]; omega)).trans hx1
  have HRD := Lib.hid (show Rd ((w.alloc (.cells #[.int .i64 z.sort, .int .i64 z.n, .string (bstr z.s), .slice LA z.labels.length lc, .slice A z.l.length c, .pointer p] 45)).alloc (.cells #[.int .i64 0, .int .i64 0, .string ⟨#[]⟩, .slice none 0 0, .slice none 0 0, .pointer none] 45)).drew 6 (some ⟨w.heap.size + 1, 0, none⟩) 1 (#[.int .i64 0, .int .i64 0, .string ⟨#[]⟩, .slice none 0 0, .slice none 0 0, .pointer none] : Array Value).toList from by
    have := (Rd.lit (size := 6) (n := 1) (w.alloc (.cells #[.int .i64 z.sort, .int .i64 z.n, .string (bstr z.s), .slice LA z.labels.length lc, .slice A z.l.length c, .pointer p] 45)) (#[.int .i64 0, .int .i64 0, .string ⟨#[]⟩, .slice none 0 0, .slice none 0 0, .pointer none] : Array Value) 45 rfl (fr := (0, 0))).drew
    rw [World.size_alloc] at this
    exact this)
  have HOA := Lib.hid (own_below h.rr hb3)
  have HBY := Lib.hid (show (s.refs.length + 1) * 88 ≤ 140737488355328 by omega)
  have HSZ := Lib.hid (show B ≤ ((w.alloc (.cells #[.int .i64 z.sort, .int .i64 z.n, .string (bstr z.s), .slice LA z.labels.length lc, .slice A z.l.length c, .pointer p] 45)).alloc (.cells #[.int .i64 0, .int .i64 0, .string ⟨#[]⟩, .slice none 0 0, .slice none 0 0, .pointer none] 45)).drew.heap.size by have := h.base.2; have := h.lt; have := hb3.size; omega)
  have HG := Lib.hid (fun (v6 : Value) (w6 : World) a b c => h.grewR (v6 := v6) (w6 := w6) hb3 a b c)
  have HH := Lib.hid h
  have HV := Lib.hid hv
  have HZ := Lib.hid hz
  have HX2 := Lib.hid hx2
  have m1 := (cells11 ((hb1.block mb h.lt).trans h.hd)).2.2.2.2.2.2.1
  have m2 := (cells11 ((hb3.block mb h.lt).trans h.hd)).2.2.2.2.2.2.1
  obtain ⟨a0, a1, a2, a3, a4, a5⟩ := cells6 hx1
  obtain ⟨b0, b1, b2, b3, b4, b5⟩ := cells6 hx2
  have n0 : (0 : Int) ≤ (s.refs.length : Int) := by omega
  have n1 : (s.refs.length : Int) < (s.refs.length : Int) + 1 := by omega
  have n2 : (s.refs.length : Int) ≤ 100000000000 := by omega
  clear h hz hb1 hb2 hb3 hx1 hx2 hn hv
  go_enter Tryd.func41, Tryd.ntmps41
  go_upto_region 1 with fail
  go_region_law ((refine step_app elVal (((w.alloc (.cells #[.int .i64 z.sort, .int .i64 z.n, .string (bstr z.s), .slice LA z.labels.length lc, .slice A z.l.length c, .pointer p] 45)).alloc (.cells #[.int .i64 0, .int .i64 0, .string ⟨#[]⟩, .slice none 0 0, .slice none 0 0, .pointer none] 45)).drew) (by rfl) (.tmp 7) (.tmp 10) (by rfl) B (.slice A1 s.refs.length k1) s.refs.length _ (by rfl) HOA.out (some ⟨w.heap.size + 1, 0, none⟩) 1 1 _ (by rfl) HRD.out zVal_ones HBY.out HSZ.out ?_; intro v6 w6 hown6 hg6 hat6; obtain ⟨q6, c6, rfl⟩ := own_some hown6; have HG6 := Lib.hid (HG.out _ _ hown6 hg6 hat6); obtain ⟨⟨e7, f7⟩, ⟨x0, x1, x2, x3, x4, x5⟩, ⟨y0, y1, y2, y3, y4, y5⟩, p7, r7⟩ := HG6.out.reads HH.out (.slice (some ⟨q6, 0, none⟩) (s.refs.length + 1) c6) HX2.out (Nat.le_refl _) (.int .i64 z.sort) (.int .i64 z.n) (.string (bstr z.s)) (.slice LA z.labels.length lc) (.slice A z.l.length c) (.pointer p); unfold put6 at p7 r7; obtain ⟨⟨g0, g1, g2, g3, g4, g5⟩, ⟨z0, z1, z2, z3, z4, z5⟩⟩ := own_last6 hown6 HH.out.flatR; have hownV := own_keep (w' := w6.setCell ⟨mb, 6, none⟩ (.slice (some ⟨q6, 0, none⟩) (s.refs.length + 1) c6)) hown6 (fun g' hg' _ => set_other _ _ _ _ (by have e : q6 = g' := Option.some.inj hg'; have := HG6.out.ne HH.out; omega)); obtain ⟨⟨g0', g1', g2', g3', g4', g5'⟩, ⟨z0', z1', z2', z3', z4', z5'⟩⟩ := own_last6 hownV HH.out.flatR; have HF1 := Lib.hid (HG6.out.fin1 HH.out z HZ.out); have HF2 := Lib.hid (HG6.out.fin2 HH.out z HZ.out); unfold put6 at HF1 HF2; clear hown6 hg6 hat6 hownV))
  · obtain ⟨r1, r2, r3⟩ := HF1.out
    have c6 := (cells11 r1.hd).2.2.2.2.2.2.1
    have HT := Lib.hid (tellE_any r1 HV.out 6 (s.refs.length : Int))
    have HR := Lib.hid (And.intro r2 r3)
    clear r1 r2 r3 HF1 HF2
    go_wp2_with (go_at_call 21; (with_reducible refine HT.out.mono ?_); rintro e1 w1 ⟨rfl, hp⟩; have HP := Lib.hid hp; clear hp HT)
    go_returns
    with_reducible exact ⟨rfl, HP.out.mono HR.out.1 HR.out.2⟩
  · obtain ⟨r1, r2, r3⟩ := HF2.out
    have c6 := (cells11 r1.hd).2.2.2.2.2.2.1
    have HT := Lib.hid (tellE_any r1 HV.out 6 (s.refs.length : Int))
    have HR := Lib.hid (And.intro r2 r3)
    clear r1 r2 r3 HF1 HF2
    go_wp2_with (go_at_call 21; (with_reducible refine HT.out.mono ?_); rintro e1 w1 ⟨rfl, hp⟩; have HP := Lib.hid hp; clear hp HT)
    go_returns
    with_reducible exact ⟨rfl, HP.out.mono HR.out.1 HR.out.2⟩
  · obtain ⟨r1, r2, r3⟩ := HF1.out
    have c6 := (cells11 r1.hd).2.2.2.2.2.2.1
    have HT := Lib.hid (tellE_any r1 HV.out 6 (s.refs.length : Int))
    have HR := Lib.hid (And.intro r2 r3)
    clear r1 r2 r3 HF1 HF2
    go_wp2_with (go_at_call 21; (with_reducible refine HT.out.mono ?_); rintro e1 w1 ⟨rfl, hp⟩; have HP := Lib.hid hp; clear hp HT)
    go_returns
    with_reducible exact ⟨rfl, HP.out.mono HR.out.1 HR.out.2⟩
  · obtain ⟨r1, r2, r3⟩ := HF2.out
    have c6 := (cells11 r1.hd).2.2.2.2.2.2.1
    have HT := Lib.hid (tellE_any r1 HV.out 6 (s.refs.length : Int))
    have HR := Lib.hid (And.intro r2 r3)
    clear r1 r2 r3 HF1 HF2
    go_wp2_with (go_at_call 21; (with_reducible refine HT.out.mono ?_); rintro e1 w1 ⟨rfl, hp⟩; have HP := Lib.hid hp; clear hp HT)
    go_returns
    with_reducible exact ⟨rfl, HP.out.mono HR.out.1 HR.out.2⟩
  · obtain ⟨r1, r2, r3⟩ := HF1.out
    have c6 := (cells11 r1.hd).2.2.2.2.2.2.1
    have HT := Lib.hid (tellE_any r1 HV.out 6 (s.refs.length : Int))
    have HR := Lib.hid (And.intro r2 r3)
    clear r1 r2 r3 HF1 HF2
    go_wp2_with (go_at_call 21; (with_reducible refine HT.out.mono ?_); rintro e1 w1 ⟨rfl, hp⟩; have HP := Lib.hid hp; clear hp HT)
    go_returns
    with_reducible exact ⟨rfl, HP.out.mono HR.out.1 HR.out.2⟩
  · obtain ⟨r1, r2, r3⟩ := HF2.out
    have c6 := (cells11 r1.hd).2.2.2.2.2.2.1
    have HT := Lib.hid (tellE_any r1 HV.out 6 (s.refs.length : Int))
    have HR := Lib.hid (And.intro r2 r3)
    clear r1 r2 r3 HF1 HF2
    go_wp2_with (go_at_call 21; (with_reducible refine HT.out.mono ?_); rintro e1 w1 ⟨rfl, hp⟩; have HP := Lib.hid hp; clear hp HT)
    go_returns
    with_reducible exact ⟨rfl, HP.out.mono HR.out.1 HR.out.2⟩
  · obtain ⟨r1, r2, r3⟩ := HF1.out
    have c6 := (cells11 r1.hd).2.2.2.2.2.2.1
    have HT := Lib.hid (tellE_any r1 HV.out 6 (s.refs.length : Int))
    have HR := Lib.hid (And.intro r2 r3)
    clear r1 r2 r3 HF1 HF2
    go_wp2_with (go_at_call 21; (with_reducible refine HT.out.mono ?_); rintro e1 w1 ⟨rfl, hp⟩; have HP := Lib.hid hp; clear hp HT)
    go_returns
    with_reducible exact ⟨rfl, HP.out.mono HR.out.1 HR.out.2⟩
  · obtain ⟨r1, r2, r3⟩ := HF2.out
    have c6 := (cells11 r1.hd).2.2.2.2.2.2.1
    have HT := Lib.hid (tellE_any r1 HV.out 6 (s.refs.length : Int))
    have HR := Lib.hid (And.intro r2 r3)
    clear r1 r2 r3 HF1 HF2
    go_wp2_with (go_at_call 21; (with_reducible refine HT.out.mono ?_); rintro e1 w1 ⟨rfl, hp⟩; have HP := Lib.hid hp; clear hp HT)
    go_returns
    with_reducible exact ⟨rfl, HP.out.mono HR.out.1 HR.out.2⟩
  · obtain ⟨r1, r2, r3⟩ := HF1.out
    have c6 := (cells11 r1.hd).2.2.2.2.2.2.1
    have HT := Lib.hid (tellE_any r1 HV.out 6 (s.refs.length : Int))
    have HR := Lib.hid (And.intro r2 r3)
    clear r1 r2 r3 HF1 HF2
    go_wp2_with (go_at_call 21; (with_reducible refine HT.out.mono ?_); rintro e1 w1 ⟨rfl, hp⟩; have HP := Lib.hid hp; clear hp HT)
    go_returns
    with_reducible exact ⟨rfl, HP.out.mono HR.out.1 HR.out.2⟩
  · obtain ⟨r1, r2, r3⟩ := HF2.out
    have c6 := (cells11 r1.hd).2.2.2.2.2.2.1
    have HT := Lib.hid (tellE_any r1 HV.out 6 (s.refs.length : Int))
    have HR := Lib.hid (And.intro r2 r3)
    clear r1 r2 r3 HF1 HF2
    go_wp2_with (go_at_call 21; (with_reducible refine HT.out.mono ?_); rintro e1 w1 ⟨rfl, hp⟩; have HP := Lib.hid hp; clear hp HT)
    go_returns
    with_reducible exact ⟨rfl, HP.out.mono HR.out.1 HR.out.2⟩
  · obtain ⟨r1, r2, r3⟩ := HF1.out
    have c6 := (cells11 r1.hd).2.2.2.2.2.2.1
    have HT := Lib.hid (tellE_any r1 HV.out 6 (s.refs.length : Int))
    have HR := Lib.hid (And.intro r2 r3)
    clear r1 r2 r3 HF1 HF2
    go_wp2_with (go_at_call 21; (with_reducible refine HT.out.mono ?_); rintro e1 w1 ⟨rfl, hp⟩; have HP := Lib.hid hp; clear hp HT)
    go_returns
    with_reducible exact ⟨rfl, HP.out.mono HR.out.1 HR.out.2⟩
  · obtain ⟨r1, r2, r3⟩ := HF2.out
    have c6 := (cells11 r1.hd).2.2.2.2.2.2.1
    have HT := Lib.hid (tellE_any r1 HV.out 6 (s.refs.length : Int))
    have HR := Lib.hid (And.intro r2 r3)
    clear r1 r2 r3 HF1 HF2
    go_wp2_with (go_at_call 21; (with_reducible refine HT.out.mono ?_); rintro e1 w1 ⟨rfl, hp⟩; have HP := Lib.hid hp; clear hp HT)
    go_returns
    with_reducible exact ⟨rfl, HP.out.mono HR.out.1 HR.out.2⟩
end
end Go.Proofs.YtjmgnohepoacbaaDoor

namespace Go.Proofs.YtjmgnohepoacbaaDoor
open Go.ChangeShapes Go.WideShapes Go.ChangeAt Go.RowKit Go.Sort
set_option linter.unusedVariables false
set_option linter.unusedSimpArgs false

theorem elStr : ElemTy Tryd.prog 22 9 (.string ByteArray.empty) 1 16 := ⟨Tryd.underlying22, by kernel_rfl, rfl, by decide, by decide⟩
theorem str_ones (x : Str) : ∀ u ∈ (#[.string (bstr x)] : Array Value).toList, u.oneCell' = true := by
  intro u hu
  simp at hu
  rw [hu]; rfl
theorem strs_snoc (l : List Str) (x : Str) : strs (l ++ [x]) = strs l ++ [.string (bstr x)] := by simp [strs]
def St.print (s : St) (z : Val) : St := if z.sort = 2 then { s with trace := s.trace ++ [z.s], vals := s.vals ++ [.mk 4 0 [] [] [] none] } else { s with err := 11 }
section
variable {w0 w : World} {B mb : Nat} {s : St} {t i r v f nx nm : Value} {rcs vcs fcs : List (List Value)}
theorem Rep.tne (h : Rep w0 B mb s w t i r v f nx nm rcs vcs fcs) : some mb ≠ t.ownBlock := fun e => (h.dt mb e.symm).1 rfl
/-- The trace has grown. -/
theorem Rep.prints (h : Rep w0 B mb s w t i r v f nx nm rcs vcs fcs) (x : Str) {w1 w6 : World} {v6 : Value} (hb : Below w.heap.size w w1) (hown : w6.ownsRow B 9 1 v6 (s.trace.length + 1) (strs s.trace ++ [.string (bstr x)])) (hg : w1.grownBy w6 t.ownBlock) (hat : v6.ownBlock = t.ownBlock ∨ v6.ownBlock = some w1.heap.size) :
    (w6.cell? ⟨mb, 3, none⟩ = some t ∧ w6.frozen? ⟨mb, 3, none⟩ = false) ∧ Rep w0 B mb { s with trace := s.trace ++ [x] } (w6.setCell ⟨mb, 3, none⟩ v6) v6 i r v f nx nm rcs vcs fcs ∧ Tr w (Mv mb t r v f) (w6.setCell ⟨mb, 3, none⟩ v6) (Mv mb v6 r v f) ∧ Below B w (w6.setCell ⟨mb, 3, none⟩ v6) := by
  have hm : w6.heap[mb]? = _ := (hg.block mb (Nat.lt_of_lt_of_le h.lt hb.size) h.tne).trans ((hb.block mb h.lt).trans h.hd)
  have hat' : ∀ q, v6.ownBlock = some q → t.ownBlock = some q ∨ w.heap.size ≤ q := fun q hq => by
    rcases hat with k | k
    · exact .inl (k ▸ hq)
    · right
      rw [k] at hq
      injection hq with hq
      have := hb.size
      omega
  have hne : ∀ g, v6.ownBlock = some g → g ≠ mb := fun g hq => by
    rcases hat' g hq with k | k
    · exact (h.dt g k).1
    · have := h.lt; omega
  have hk : ∀ b, b < w.heap.size → b ≠ mb → some b ≠ t.ownBlock → (w6.setCell ⟨mb, 3, none⟩ v6).heap[b]? = w.heap[b]? := fun b h1 h2 h3 =>
    (set_other _ _ _ _ h2).trans ((hg.block b (Nat.lt_of_lt_of_le h1 hb.size) h3).trans (hb.block b h1))
  refine ⟨⟨(cells11 hm).2.2.2.1, frozenN hm 3⟩, ?_⟩
  exact h.trace_ (L' := s.trace ++ [x]) (x' := v6) hk ⟨hg.os.trans hb.os, hg.tape.trans hb.tape, hg.output.trans hb.output, by rw [World.size_setCell]; exact Nat.le_trans hb.size hg.size⟩ (set_cells hm 3 v6) (by
    rw [List.length_append, strs_snoc]
    exact own_keep hown (fun g hg _ => set_other _ _ _ _ (hne g hg))) hat'
set_option maxHeartbeats 4000000 in
theorem print_any (h : Rep w0 B mb s w t i r v f nx nm rcs vcs fcs) (hn : s.trace.length ≤ 100000000000) (hv : s.vals.length ≤ 100000000000) (z : Val) (A : Option Addr) (c : Nat) (p : Option Addr) (LA : Option Addr) (lc : Nat) :
    Calls Tryd.prog 44 #[.pointer (some ⟨mb, 0, none⟩), .agg #[.int .i64 z.sort, .int .i64 z.n, .string (bstr z.s), .slice LA z.labels.length lc, .slice A z.l.length c, .pointer p]] w fun e w' => e = .returned (.tuple #[]) ∧ Post w0 B mb (Mv mb t r v f) w (s.print z) w' := by
  by_cases hs : z.sort = 2
  · have e : s.print z = { s with trace := s.trace ++ [z.s], vals := s.vals ++ [.mk 4 0 [] [] [] none] } := by unfold St.print; rw [if_pos hs]
    rw [e, hs]
    clear e hs
    obtain ⟨A1, k1, rfl, _⟩ := own_cap h.tr
    have hb1 : Below w.heap.size w (w.alloc (.cells #[.int .i64 2, .int .i64 z.n, .string (bstr z.s), .slice LA z.labels.length lc, .slice A z.l.length c, .pointer p] 45)) := (Below.refl _ _).alloc (Nat.le_refl _) _
    have hb2 : Below w.heap.size w ((w.alloc (.cells #[.int .i64 2, .int .i64 z.n, .string (bstr z.s), .slice LA z.labels.length lc, .slice A z.l.length c, .pointer p] 45)).alloc (.cells #[.string (bstr z.s)] 9)) := hb1.alloc (by rw [World.size_alloc]; omega) _
    have hb3 : Below w.heap.size w ((w.alloc (.cells #[.int .i64 2, .int .i64 z.n, .string (bstr z.s), .slice LA z.labels.length lc, .slice A z.l.length c, .pointer p] 45)).alloc (.cells #[.string (bstr z.s)] 9)).drew := hb2.drew
    have HRD := Lib.hid (show Rd ((w.alloc (.cells #[.int .i64 2, .int .i64 z.n, .string (bstr z.s), .slice LA z.labels.length lc, .slice A z.l.length c, .pointer p] 45)).alloc (.cells #[.string (bstr z.s)] 9)).drew 1 (some ⟨w.heap.size + 1, 0, none⟩) 1 (#[.string (bstr z.s)] : Array Value).toList from by
      have := (Rd.lit (size := 1) (n := 1) (w.alloc (.cells #[.int .i64 2, .int .i64 z.n, .string (bstr z.s), .slice LA z.labels.length lc, .slice A z.l.length c, .pointer p] 45)) (#[.string (bstr z.s)] : Array Value) 9 rfl (fr := (0, 0))).drew
      rw [World.size_alloc] at this
      exact this)
    have HOA := Lib.hid (own_below h.tr hb3)
    have HBY := Lib.hid (show (s.trace.length + 1) * 16 ≤ 140737488355328 by omega)
    have HSZ := Lib.hid (show B ≤ ((w.alloc (.cells #[.int .i64 2, .int .i64 z.n, .string (bstr z.s), .slice LA z.labels.length lc, .slice A z.l.length c, .pointer p] 45)).alloc (.cells #[.string (bstr z.s)] 9)).drew.heap.size by have := h.base.2; have := h.lt; have := hb3.size; omega)
    have HG := Lib.hid (fun (v6 : Value) (w6 : World) a b c => h.prints z.s (v6 := v6) (w6 := w6) hb3 a b c)
    have HV := Lib.hid hv
    have m1 := (cells11 ((hb1.block mb h.lt).trans h.hd)).2.2.2.1
    have m2 := (cells11 ((hb2.block mb h.lt).trans h.hd)).2.2.2.1
    obtain ⟨a0, a1, a2, a3, a4, a5⟩ := cells6 (heap_new (w := w) (o := (.cells #[.int .i64 2, .int .i64 z.n, .string (bstr z.s), .slice LA z.labels.length lc, .slice A z.l.length c, .pointer p] 45)) rfl)
    obtain ⟨b0, b1, b2, b3, b4, b5⟩ := cells6 ((Below.heap_alloc _ (.cells #[.string (bstr z.s)] 9) _ (by rw [World.size_alloc]; omega)).trans (heap_new (w := w) (o := (.cells #[.int .i64 2, .int .i64 z.n, .string (bstr z.s), .slice LA z.labels.length lc, .slice A z.l.length c, .pointer p] 45)) rfl))
    clear h hb1 hb2 hb3 hn hv
    go_enter Tryd.func44, Tryd.ntmps44
    go_upto_region 3 with fail
    go_region_law ((refine step_app elStr (((w.alloc (.cells #[.int .i64 2, .int .i64 z.n, .string (bstr z.s), .slice LA z.labels.length lc, .slice A z.l.length c, .pointer p] 45)).alloc (.cells #[.string (bstr z.s)] 9)).drew) (by rfl) (.tmp 14) (.tmp 17) (by rfl) B (.slice A1 s.trace.length k1) s.trace.length _ (by rfl) HOA.out (some ⟨w.heap.size + 1, 0, none⟩) 1 1 _ (by rfl) HRD.out (str_ones _) HBY.out HSZ.out ?_; intro v6 w6 hown6 hg6 hat6; obtain ⟨q6, c6, rfl⟩ := own_some hown6; obtain ⟨⟨e8, f8⟩, hp1, hp2, hp3⟩ := HG.out _ _ hown6 hg6 hat6; have HT := Lib.hid (tellE_any hp1 HV.out 4 0); have HR := Lib.hid (And.intro hp2 hp3); clear hown6 hg6 hat6 hp1 hp2 hp3))
    all_goals
      go_wp2_with (go_at_call 21; (with_reducible refine HT.out.mono ?_); rintro e1 w1 ⟨rfl, hp⟩; have HP := Lib.hid hp; clear hp HT)
      go_returns
      with_reducible exact ⟨rfl, HP.out.mono HR.out.1 HR.out.2⟩
  · have e : s.print z = { s with err := 11 } := by unfold St.print; rw [if_neg hs]
    rw [e]
    have hb : Below w.heap.size w (w.alloc (.cells #[.int .i64 z.sort, .int .i64 z.n, .string (bstr z.s), .slice LA z.labels.length lc, .slice A z.l.length c, .pointer p] 45)) := (Below.refl _ _).alloc (Nat.le_refl _) _
    have HBM := Lib.hid (And.intro (Tr.below (P := Mv mb t r v f) hb) (hb.mono (Nat.le_of_lt (Nat.lt_of_le_of_lt h.base.2 h.lt))))
    have HC := Lib.hid (stuck_any (h.below hb))
    clear e h hb hn hv
    go_enter Tryd.func44, Tryd.ntmps44
    go_wp2_with (go_at_call 20; (with_reducible refine HC.out.mono ?_); rintro e1 w1 ⟨rfl, hp⟩; have HP := Lib.hid hp; clear hp HC)
    go_returns
    with_reducible exact ⟨rfl, HP.out.mono HBM.out.1 HBM.out.2⟩
end
end Go.Proofs.YtjmgnohepoacbaaDoor
