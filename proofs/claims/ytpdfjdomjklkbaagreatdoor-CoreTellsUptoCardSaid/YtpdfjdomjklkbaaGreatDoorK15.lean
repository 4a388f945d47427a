/-
  The machine runs an expression.
-/
import Derived.Test.YtpdfjdomjklkbaaGreatDoorK14
namespace Go.Proofs.YtpdfjdomjklkbaaGreatDoor
open Go.ChangeShapes Go.WideShapes Go.ChangeAt Go.RowKit Go.Sort
set_option linter.unusedVariables false
set_option linter.unusedSimpArgs false

abbrev zeroV : Obj := .cells #[.int .i64 0, .int .i64 0, .string ⟨#[]⟩, .slice none 0 0, .slice none 0 0, .pointer none] 60
theorem step_some {s : St} {e : Ex} {env : Env} (h0 : s.err = 0) (hn : s.next = some (e, env)) (hf : ¬ s.fuel ≤ 0) : s.step = St.begin { s with fuel := s.fuel - 1, next := none } e env := by
  unfold St.step
  rw [if_neg (fun q => q h0), hn]
  show (if s.fuel ≤ 0 then _ else _) = _
  rw [if_neg hf]
theorem step_none {s : St} {fs : List Frm} {x : Frm} (h0 : s.err = 0) (hn : s.next = none) (hx : s.frames = fs ++ [x]) : s.step = s.goOn fs x (s.vals.drop x.base) := by
  unfold St.step
  rw [if_neg (fun q => q h0), hn]
  show (match s.frames.reverse with | [] => s | x :: fr => s.goOn fr.reverse x (s.vals.drop x.base)) = _
  rw [hx, List.reverse_append]
  show s.goOn fs.reverse.reverse x _ = _
  rw [List.reverse_reverse]
/-- What stands in each round. -/
def RL (w0 W1 : World) (B mb : Nat) (P : Nat → Prop) (s1 : St) (wr : World) : Prop := ∃ (T n : Nat) (s : St) (t i r v f nx nm : Value) (rcs vcs fcs : List (List Value)), Rep w0 B mb s wr t i r v f nx nm rcs vcs fcs ∧ s = St.run n s1 ∧ Inv T s ∧ T + mu s ≤ mu s1 ∧ Tr W1 P wr (Mv mb t r v f) ∧ Below B W1 wr
theorem RL.next {w0 W1 : World} {B mb : Nat} {P : Nat → Prop} {s1 : St} {wr w' : World} {T n : Nat} {s : St} {t i r v f nx nm : Value} {rcs vcs fcs : List (List Value)}
    (h : Rep w0 B mb s wr t i r v f nx nm rcs vcs fcs) (hs : s = St.run n s1) (hi : Inv T s) (hm : T + mu s ≤ mu s1) (hT : Tr W1 P wr (Mv mb t r v f)) (hB : Below B W1 wr) (hd : ¬ s.done) (hb : T ≤ 90000000000) (hp : Post w0 B mb (Mv mb t r v f) wr s.step w') : RL w0 W1 B mb P s1 w' ∧ muW mb w' < muW mb wr := by
  obtain ⟨t', i', r', v', f', nx', nm', rcs', vcs', fcs', h1, h2, h3⟩ := hp
  have hg := hi.step hd hb
  refine ⟨⟨T + 1, n + 1, s.step, t', i', r', v', f', nx', nm', rcs', vcs', fcs', h1, by rw [run_succ, ← hs], hg.inv, by have := hg.mu; omega, hT.trans hB.size h2, hB.trans h3⟩, ?_⟩
  rw [muW_eq h, muW_eq h1]
  exact hg.mu
/-- What a run tells. -/
def RunRes (w0 w : World) (B mb : Nat) (P0 : Nat → Prop) (s1 : St) (e1 : Ending) (w' : World) : Prop := (∀ b, P0 b → b < w.heap.size → w'.heap[b]? = w.heap[b]?) ∧ ∃ (n T : Nat) (s' : St) (t i r v f nx nm : Value), s' = St.run n s1 ∧ s'.done ∧ Inv T s' ∧ T ≤ mu s1 ∧ w'.heap[mb]? = some (.cells (HD s' t i r v f nx nm) 67) ∧ w'.ownsRow B 9 1 t s'.trace.length (strs s'.trace) ∧ Below B w w' ∧
  ((s'.err ≠ 0 ∧ e1 = .returned (.agg #[.int .i64 0, .int .i64 0, .string ⟨#[]⟩, .slice none 0 0, .slice none 0 0, .pointer none])) ∨
   (s'.err = 0 ∧ ∃ (z : Val) (A : Option Addr) (c : Nat) (p : Option Addr) (P' : Nat → Prop), s'.vals = [z] ∧ e1 = .returned (.agg #[.int .i64 z.sort, .int .i64 z.n, .string (bstr z.s), .slice none 0 0, .slice A z.l.length c, .pointer p]) ∧ VR w0 w' P' z [.int .i64 z.sort, .int .i64 z.n, .string (bstr z.s), .slice none 0 0, .slice A z.l.length c, .pointer p]))
theorem nest6 (wr : World) (g : Nat) (a0 a1 a2 a3 a4 a5 : Value) : (((((wr.setCell ⟨g, 0, none⟩ a0).setCell ⟨g, 1, none⟩ a1).setCell ⟨g, 2, none⟩ a2).setCell ⟨g, 3, none⟩ a3).setCell ⟨g, 4, none⟩ a4).setCell ⟨g, 5, none⟩ a5 = put6 wr g 0 a0 a1 a2 a3 a4 a5 := rfl
theorem put6_at {wr : World} {g : Nat} {x0 x1 x2 x3 x4 x5 : Value} {T : TypeId} (h : wr.heap[g]? = some (.cells #[x0, x1, x2, x3, x4, x5] T)) (a0 a1 a2 a3 a4 a5 : Value) : (put6 wr g 0 a0 a1 a2 a3 a4 a5).heap[g]? = some (.cells #[a0, a1, a2, a3, a4, a5] T) :=
  set_cells (set_cells (set_cells (set_cells (set_cells (set_cells h 0 a0) 1 a1) 2 a2) 3 a3) 4 a4) 5 a5
theorem put6_bel {B : Nat} (wr : World) {g : Nat} (hg : B ≤ g) (a0 a1 a2 a3 a4 a5 : Value) : Below B wr (put6 wr g 0 a0 a1 a2 a3 a4 a5) :=
  ⟨put6_os .., put6_tape .., put6_output .., by rw [put6_size]; exact Nat.le_refl _, fun b hb => put6_other _ _ _ _ _ _ _ _ _ (by omega)⟩
section
variable {P0 : Nat → Prop} {w0 w wr : World} {B mb : Nat} {s1 s : St} {t i r v f nx nm : Value} {rcs vcs fcs : List (List Value)} {T n g : Nat}
/-- Where the run ends with an error: zeros are written over zeros. -/
theorem RunRes.bad (h : Rep w0 B mb s wr t i r v f nx nm rcs vcs fcs) (hs : s = St.run n s1) (hi : Inv T s) (hT : T ≤ mu s1) (hB1 : Below B w wr) (hP0 : ∀ b, P0 b → b < w.heap.size → wr.heap[b]? = w.heap[b]?) (hgw : w.heap.size ≤ g) (he : s.err ≠ 0) (hgB : B ≤ g) (hgm : Mv mb t r v f g) :
    RunRes w0 w B mb P0 s1 (.returned (.agg #[.int .i64 0, .int .i64 0, .string ⟨#[]⟩, .slice none 0 0, .slice none 0 0, .pointer none])) (put6 wr g 0 (.int .i64 0) (.int .i64 0) (.string ⟨#[]⟩) (.slice none 0 0) (.slice none 0 0) (.pointer none)) :=
  ⟨fun b h1 h2 => (put6_other _ _ _ _ _ _ _ _ _ (by omega)).trans (hP0 b h1 h2), n, T, s, t, i, r, v, f, nx, nm, hs, .inl he, hi, hT, (put6_other _ _ _ _ _ _ _ _ _ (Ne.symm hgm.1)).trans h.hd, own_keep h.tr (fun q hq _ => put6_other _ _ _ _ _ _ _ _ _ (fun e => hgm.2.1 (by rw [← e]; exact hq.symm))), hB1.trans (put6_bel _ hgB _ _ _ _ _ _), .inl ⟨he, rfl⟩⟩
/-- Where the run ends with a value. -/
theorem RunRes.good (h : Rep w0 B mb s wr t i r v f nx nm rcs vcs fcs) (hs : s = St.run n s1) (hi : Inv T s) (hT : T ≤ mu s1) (hB1 : Below B w wr) (hP0 : ∀ b, P0 b → b < w.heap.size → wr.heap[b]? = w.heap[b]?) (hgw : w.heap.size ≤ g) (he : s.err = 0) (hn : s.next = none) (hf : s.frames = []) (hg : wr.heap[g]? = some zeroV) (hgB : B ≤ g) (hgm : Mv mb t r v f g) (z : Val) (A : Option Addr) (c : Nat) (p : Option Addr) (hz : s.vals = [z]) (hv : VR w0 wr (Mv mb t r v f) z [.int .i64 z.sort, .int .i64 z.n, .string (bstr z.s), .slice none 0 0, .slice A z.l.length c, .pointer p]) :
    RunRes w0 w B mb P0 s1 (.returned (.agg #[.int .i64 z.sort, .int .i64 z.n, .string (bstr z.s), .slice none 0 0, .slice A z.l.length c, .pointer p])) (put6 wr g 0 (.int .i64 z.sort) (.int .i64 z.n) (.string (bstr z.s)) (.slice none 0 0) (.slice A z.l.length c) (.pointer p)) := by
  have hvg := hi.dat.vals z (by rw [hz]; exact List.mem_singleton_self z)
  have hv2 := hv.avoid hg _ hvg
  exact ⟨fun b h1 h2 => (put6_other _ _ _ _ _ _ _ _ _ (by omega)).trans (hP0 b h1 h2), n, T, s, t, i, r, v, f, nx, nm, hs, .inr ⟨hn, hf⟩, hi, hT, (put6_other _ _ _ _ _ _ _ _ _ (Ne.symm hgm.1)).trans h.hd, own_keep h.tr (fun q hq _ => put6_other _ _ _ _ _ _ _ _ _ (fun e => hgm.2.1 (by rw [← e]; exact hq.symm))), hB1.trans (put6_bel _ hgB _ _ _ _ _ _), .inr ⟨he, z, A, c, p, _, hz, rfl, hv2.keep (fun b hb hl => ⟨hb, put6_other _ _ _ _ _ _ _ _ _ hb.2⟩)⟩⟩
end
theorem run_ret {R : Ending → World → Prop} {wr : World} {g : Nat} {x0 x1 x2 x3 x4 x5 : Value} (h : wr.heap[g]? = some (.cells #[x0, x1, x2, x3, x4, x5] 60)) (a0 a1 a2 a3 a4 a5 : Value) (tm : Array Value) (h8 : tm[8]?.getD undef = .pointer (some ⟨g, 0, none⟩)) (hR : R (.returned (.agg #[a0, a1, a2, a3, a4, a5])) (put6 wr g 0 a0 a1 a2 a3 a4 a5)) :
    bodyPost Tryz.prog Tryz.f26 R Exit.ret ⟨tm, []⟩ (put6 wr g 0 a0 a1 a2 a3 a4 a5) := by
  have hh := put6_at h a0 a1 a2 a3 a4 a5
  generalize put6 wr g 0 a0 a1 a2 a3 a4 a5 = W at *
  obtain ⟨b0, b1, b2, b3, b4, b5⟩ := cells6 hh
  refine bodyPost_ret (by simp [results, Tryz.results26, go_sem, h8, b0, b1, b2, b3, b4, b5]; try rfl) rfl ?_
  exact hR
set_option maxRecDepth 100000 in
set_option maxHeartbeats 16000000 in
theorem run_any {w0 w : World} {B mb : Nat} {s0 : St} {t0 i0 r0 v0 f0 nx0 nm0 : Value} {rcs0 vcs0 fcs0 : List (List Value)} (h : Rep w0 B mb s0 w t0 i0 r0 v0 f0 nx0 nm0 rcs0 vcs0 fcs0) (hW : Below w0.heap.size w0 w) (hT : Tab w0) (e : Ex) (eb eo : Nat) (he : e.In w0 ∧ e.d.At w0 eb eo) (s1 : St) (hs1 : s1 = { s0 with next := some (e, []) }) (hi : Inv 0 s1) (hm : mu s1 ≤ 80000000000) (hfu : -9000000000000 ≤ s1.fuel) :
    Calls Tryz.prog 26 #[.pointer (some ⟨mb, 0, none⟩), .pointer (some ⟨eb, eo, none⟩), .func (.func 27) #[.agg #[.pointer (some ⟨mb, 0, none⟩)]] #[], .func (.func 28) #[.agg #[.pointer (some ⟨mb, 0, none⟩)]] #[]] w fun e1 w' => RunRes w0 w B mb (Mv mb t0 r0 v0 f0) s1 e1 w' := by
  have hb1 : Below w.heap.size w (w.alloc zeroV) := (Below.refl _ _).alloc (Nat.le_refl _) _
  have hB1 : Below B w (w.alloc zeroV) := hb1.mono (Nat.le_of_lt (Nat.lt_of_le_of_lt h.base.2 h.lt))
  have HBG := Lib.hid (begin_any (h.below hb1) e [] eb eo none ⟨he, .nil⟩)
  have HG := Lib.hid (And.intro (heap_new (w := w) (o := zeroV) rfl) (And.intro (h.mvNew w.heap.size (Nat.le_refl _)) (And.intro (Nat.le_of_lt (Nat.lt_of_le_of_lt h.base.2 h.lt)) (And.intro h.lt hB1))))
  have HW := Lib.hid (And.intro hW (And.intro hT (And.intro h.base.1 h.base.2)))
  have HI := Lib.hid (And.intro hi (And.intro hm hfu))
  rw [← hs1] at HBG
  clear h hW hT he hs1 hi hm hfu hb1 hB1
  go_enter Tryz.func26, Tryz.ntmps26
  go_wp2_with (go_at_call 38; (with_reducible refine HBG.out.mono ?_); rintro e1 w1 ⟨rfl, hp⟩; have HP := Lib.hid hp; clear hp)
  go_loopw [9, 10, 11] (fun _ _ _ wr => RL w0 (w.alloc zeroV) B mb (Mv mb t0 r0 v0 f0) s1 wr) (fun _ _ _ wr => muW mb wr)
  case atStart =>
    obtain ⟨t', i', r', v', f', nx', nm', rcs', vcs', fcs', h1, h2, h3⟩ := HP.out
    exact ⟨0, 0, s1, t', i', r', v', f', nx', nm', rcs', vcs', fcs', h1, rfl, HI.out.1, by omega, h2, h3⟩
  case round =>
    clear HP HBG
    obtain ⟨T, n, s, t, i, r, v, f, nx, nm, rcs, vcs, fcs, hR, hs, hinv, hmu, htr, hbw⟩ := hrel
    have hmT : T ≤ 80000000000 := by have := HI.out.2.1; omega
    have hg8 : wr.heap[w.heap.size]? = some zeroV := (htr _ HG.out.2.1 (by rw [World.size_alloc]; omega)).2.trans HG.out.1
    have hm8 := (htr _ HG.out.2.1 (by rw [World.size_alloc]; omega)).1
    have hBw : Below B w wr := HG.out.2.2.2.2.trans hbw
    have hP0 : ∀ b, Mv mb t0 r0 v0 f0 b → b < w.heap.size → wr.heap[b]? = w.heap[b]? := fun b h1 h2 => (htr b h1 (by rw [World.size_alloc]; omega)).2.trans (Below.heap_alloc _ _ _ h2)
    obtain ⟨c0, c1, c2, c3, c4, c5, c6, c7, c8, c9, c10⟩ := cells11 hR.hd
    have z0 := frozenN hR.hd 0
    obtain ⟨b0, b1, b2, b3, b4, b5⟩ := cells6 hg8
    have y0 := frozenN hg8 0
    have y1 := frozenN hg8 1
    have y2 := frozenN hg8 2
    have y3 := frozenN hg8 3
    have y4 := frozenN hg8 4
    have y5 := frozenN hg8 5
    have HG8 := Lib.hid hg8
    by_cases he0 : s.err = 0
    · rw [he0] at c0
      cases hn : s.next with
      | some pe =>
        obtain ⟨e, env⟩ := pe
        have hnx := hR.nxt
        rw [hn] at hnx
        obtain ⟨eb', eo', rfl, heI, heE⟩ := hnx
        obtain ⟨u, rfl⟩ := heE.ptr
        have hd : ¬ s.done := by rintro (q | q); exact q he0; rw [hn] at q; cases q.1
        by_cases hf0 : s.fuel ≤ 0
        · have hh : s.hungry := ⟨he0, by rw [hn]; simp, hf0⟩
          have hst := hinv.step hd (by omega)
          have hmu' := hst.mu
          obtain ⟨r1, r2, r3⟩ := hR.set1 (s' := { s with err := 8 }) 0 (.int .i64 8) rfl ⟨rfl, rfl, rfl, rfl⟩ hR.inp hR.nxt
          have hg8' := (set_other wr mb 0 (.int .i64 8) (Ne.symm (Nat.ne_of_lt HG.out.2.2.2.1))).trans hg8
          have HX := Lib.hid (RunRes.bad (w := w) (s1 := s1) (T := T + 1) (n := n + 1) (g := w.heap.size) r1 (by rw [run_succ, ← hs, step_hungry hh]) (by rw [← step_hungry hh]; exact hst.inv) (by omega) (hBw.trans r3) (fun b h1 h2 => (set_other wr mb 0 _ h1.1).trans (hP0 b h1 h2)) (Nat.le_refl _) (show (8 : Int) ≠ 0 by decide) HG.out.2.2.1 hm8)
          have d0 : (wr.setCell ⟨mb, 0, none⟩ (.int .i64 8)).cell? ⟨mb, 0, none⟩ = some (.int .i64 8) := by rw [Lib.cell_of_heap (set_cells hR.hd 0 _)]; rfl
          obtain ⟨b0', b1', b2', b3', b4', b5'⟩ := cells6 hg8'
          have y0' := frozenN hg8' 0
          have y1' := frozenN hg8' 1
          have y2' := frozenN hg8' 2
          have y3' := frozenN hg8' 3
          have y4' := frozenN hg8' 4
          have y5' := frozenN hg8' 5
          have f1 : decide (s.fuel ≤ 0) = true := decide_eq_true hf0
          have HG9 := Lib.hid hg8'
          clear b0 b1 b2 b3 b4 b5 y0 y1 y2 y3 y4 y5 hR hs hinv hmu htr hbw hmT hg8 hm8 hP0 hBw r1 r2 r3 hg8' hst hmu' hh hd heI heE hn
          go_wp2_with fail
          exact run_ret HG9.out _ _ _ _ _ _ _ rfl HX.out
        · have hst := step_some he0 hn hf0
          have hfu : s.fuel ≤ 90000000000 := by have := mu_le s; have h2 := mu_some (s := s) (by rw [hn]; simp) he0; have := HI.out.2.1; omega
          obtain ⟨r1, r2, r3⟩ := hR.set1 (s' := { s with fuel := s.fuel - 1 }) 5 (.int .i64 (s.fuel - 1)) rfl ⟨rfl, rfl, rfl, rfl⟩ hR.inp hR.nxt
          obtain ⟨q1, q2, q3⟩ := r1.set1 (s' := { s with fuel := s.fuel - 1, next := none }) 9 (.pointer none) rfl ⟨rfl, rfl, rfl, rfl⟩ r1.inp rfl
          have hdw := below_drew1 ((wr.setCell ⟨mb, 5, none⟩ (.int .i64 (s.fuel - 1))).setCell ⟨mb, 9, none⟩ (.pointer none))
          have hdB := hdw.mono (show B ≤ _ by have := q1.lt; have := q1.base.2; omega)
          have hwW : Below w0.heap.size w0 ((wr.setCell ⟨mb, 5, none⟩ (.int .i64 (s.fuel - 1))).setCell ⟨mb, 9, none⟩ (.pointer none)).drew := below_w0 (below_w0 (below_w0 (below_w0 HW.out.1 HW.out.2.2.1 hBw) HW.out.2.2.1 r3) HW.out.2.2.1 q3) HW.out.2.2.1 hdB
          have hnv := hinv.dat.nv
          have hnf := hinv.dat.nf
          have hni := hinv.dat.ni
          have HC := Lib.hid ((beginAll_any (q1.below hdw) (show s.vals.length ≤ _ by omega) (show s.frames.length ≤ _ by omega) (show s.input.length ≤ _ by omega) e env eb' eo' u ⟨heI, ((heE.keep r2).keep q2).keep (Tr.below hdw)⟩ (heI.2.lower hwW)).mono fun e1 w' ⟨h1, h2⟩ => And.intro h1 (RL.next hR hs hinv hmu htr hbw hd (by omega) (by rw [hst]; exact ((h2.mono (Tr.below hdw) hdB).mono q2 q3).mono r2 r3)))
          obtain ⟨_, _, _, _, _, _, _, _, _, d9, d10⟩ := cells11 r1.hd
          have zz5 := frozenN hR.hd 5
          have zz9 := frozenN r1.hd 9
          have f1 : decide (s.fuel ≤ 0) = false := decide_eq_false hf0
          have f2 : IntKind.i64.wrap (s.fuel - 1) = s.fuel - 1 := by rw [IntKind.wrap_i64]; omega
          clear b0 b1 b2 b3 b4 b5 y0 y1 y2 y3 y4 y5 hR hs hinv hmu htr hbw hmT hg8 hm8 hP0 hBw r1 r2 r3 q1 q2 q3 hst hd heI heE hn hdw hdB hwW hnv hnf hni hfu HG8
          go_upto_region 9 with fail
          go_region_law fail
          all_goals
            go_wp2_with fail
            (with_reducible refine HC.out.mono ?_)
            rintro e1 w2 ⟨rfl, hp⟩
            have HP := Lib.hid hp
            clear hp
            go_wp2_with fail
            go_roundw
            case rel => exact HP.out.1
            case measure => exact HP.out.2
      | none =>
        have hnx : nx = .pointer none := by have := hR.nxt; rw [hn] at this; exact this
        subst hnx
        have hwf := hinv.wf he0
        rw [hn] at hwf
        cases hfr : s.frames.reverse with
        | nil =>
          have hfe : s.frames = [] := List.reverse_eq_nil_iff.1 hfr
          rw [hfr] at hwf
          obtain ⟨z, hz⟩ := len1 (show s.vals.length = 1 from hwf)
          obtain ⟨Af, cf, rfl, _⟩ := own_cap hR.fr
          have hvr := hR.vr
          have hvl := hR.vl
          rw [hz] at hvr hvl
          obtain ⟨qv, kv, rfl⟩ := own_some (n := 0) hvr
          obtain ⟨Az, kz, pz, hvz, g0, g1, g2, g3, g4, g5⟩ := (Vs.mk (Rd.of_own hvr) hvl).six 0 (z := z) rfl 0 1 2 3 4 5 ⟨rfl, rfl, rfl, rfl, rfl, rfl⟩
          have HX := Lib.hid (RunRes.good (w := w) (s1 := s1) hR hs hinv (by omega) hBw hP0 (Nat.le_refl _) he0 hn hfe hg8 HG.out.2.2.1 hm8 z Az kz pz hz hvz)
          rw [hfe] at c8
          clear hR hs hinv hmu htr hbw hmT hg8 hm8 hP0 hBw hvr hvl hvz hz hfe hfr hwf hn
          go_wp2_with fail
          exact run_ret HG8.out _ _ _ _ _ _ _ rfl HX.out
        | cons x fr =>
          rw [hfr] at hwf
          obtain ⟨hw1, hw2, hw3⟩ := hwf
          have hx : s.frames = fr.reverse ++ [x] := by rw [← List.reverse_reverse s.frames, hfr, List.reverse_cons]
          have hd : ¬ s.done := by rintro (q | q); exact q he0; rw [hx] at q; simp at q
          have hst := step_none he0 hn hx
          obtain ⟨L, hLL⟩ : ∃ L, fr.reverse.length = L := ⟨_, rfl⟩
          have hlen : s.frames.length = L + 1 := by rw [hx, List.length_append, hLL]; rfl
          have hRfr := hR.fr
          rw [hlen] at hRfr
          obtain ⟨q1f, k1f, rfl⟩ := own_some hRfr
          obtain ⟨cs, hcs, eb', eo', u', hce, heI, heE⟩ := hR.fl.get (i := L) (by omega)
          have hxx : s.frames[L]'(by omega) = x := by simp [hx, ← hLL]
          rw [hxx] at hce heI heE
          obtain ⟨u, rfl⟩ := heE.ptr
          have h3 : ∀ c ∈ fcs, c.length = 3 := fun c hc => by
            obtain ⟨j, hj, e⟩ := List.getElem_of_mem hc
            obtain ⟨_, _, _, e2, _⟩ := hR.fl.at_ j _ c (List.getElem?_eq_getElem (by rw [← hR.fl.len]; exact hj)) (by rw [List.getElem?_eq_getElem hj, e])
            rw [e2]; rfl
          have j0 : wr.cell? ⟨q1f, L * 3, none⟩ = some (.pointer (some ⟨eb', eo', none⟩)) := (own_cell hRfr (flat_at2 h3 hcs (j := 0) (by rw [hce]; rfl))).1
          have j1 : wr.cell? ⟨q1f, L * 3 + 1, none⟩ = some (.pointer u) := (own_cell hRfr (flat_at2 h3 hcs (j := 1) (by rw [hce]; rfl))).1
          have j2 : wr.cell? ⟨q1f, L * 3 + 2, none⟩ = some (.int .i64 x.base) := (own_cell hRfr (flat_at2 h3 hcs (j := 2) (by rw [hce]; rfl))).1
          clear hRfr h3 hxx hce
          have hvr := hR.vr
          rcases hR.vr.2 with ⟨rfl, hn0⟩ | ⟨g, cv, cur, rfl, hgB, hgh, hnc, hcm, _⟩
          · have hb0 : x.base = 0 := by omega
            have hvd : Vs w0 wr (Mv mb t r (.slice none 0 0) (.slice (some ⟨q1f, 0, none⟩) (L + 1) k1f)) (s.vals.drop x.base) none (vcs.drop x.base) := by
              have e1 : s.vals.drop x.base = [] := List.drop_eq_nil_of_le (by omega)
              have e2 : vcs.drop x.base = [] := List.drop_eq_nil_of_le (by rw [hR.vl.len]; omega)
              rw [e1, e2]
              exact ⟨Rd.nil wr 6 _, LR.nil⟩
            have hA : 0 < (s.vals.drop x.base).length → ∀ a, (none : Option Addr) = some a → a.block ≠ mb := fun _ a ha => by cases ha
            clear hvr
            have hvl : (s.vals.drop x.base).length = 0 := by rw [List.length_drop, hn0, Nat.zero_sub]
            have hnv := hinv.dat.nv
            have hnf := hinv.dat.nf
            have hnr := hinv.dat.nr
            have hnt := hinv.dat.nt
            have HC := Lib.hid (fun (V : World) (hV : Below wr.heap.size wr V) => (show Calls Tryz.prog 28 #[.agg #[.pointer (some ⟨mb, 0, none⟩)], .agg #[.pointer (some ⟨eb', eo', none⟩), .pointer u, .int .i64 x.base], .slice none (0) (0)] V fun e1 w' => e1 = .returned (.tuple #[]) ∧ (RL w0 (w.alloc zeroV) B mb (Mv mb t0 r0 v0 f0) s1 w' ∧ muW mb w' < muW mb wr) from by
              have hVB := hV.mono (show B ≤ _ by have := hR.lt; have := hR.base.2; omega)
              have hg := goOn_any (hR.below hV) (below_w0 (below_w0 HW.out.1 HW.out.2.2.1 hBw) HW.out.2.2.1 hVB) HW.out.2.1 (by omega) (by omega) (by omega) (by omega) fr.reverse x hx hw1 (hinv.dat.frames x (by rw [hx]; simp)).1 eb' eo' u ⟨heI, heE.keep (Tr.below hV)⟩ (s.vals.drop x.base) none (vcs.drop x.base) (0) (hvd.below hV) hA (by rw [hvl]; omega) (by rw [hvl]; omega) (by rw [hvl]; omega) (fun z hz => (have hz' := hinv.dat.vals z (List.mem_of_mem_drop hz); ⟨hz'.fn_, hz'.ref_, hz'.txt_, hz'.num_, by have := hz'.len_; omega⟩)) (fun z hz => (hinv.dat.vals z (List.mem_of_mem_drop hz)).tag_)
              rw [hvl] at hg
              exact hg.mono fun e1 w' ⟨h1, h2⟩ => And.intro h1 (RL.next hR hs hinv hmu htr hbw hd (by omega) (by rw [hst]; exact h2.mono (Tr.below hV) hVB))))
            have hz0 : ((x.base : Nat) : Int) = 0 := by omega
            have HC := Lib.hid (show _ from by have hc := HC.out; rw [hz0] at hc; exact hc)
            rw [hz0] at j2
            clear hz0 hb0
            have HS4 := Lib.hid (fun (V : World) (hV : Below wr.heap.size wr V) => (show V.cell? ⟨mb, 8, none⟩ = some (.slice (some ⟨q1f, 0, none⟩) (L + 1) k1f) ∧ V.cell? ⟨q1f, L * 3, none⟩ = some (.pointer (some ⟨eb', eo', none⟩)) ∧ V.cell? ⟨q1f, L * 3 + 1, none⟩ = some (.pointer u) ∧ V.cell? ⟨q1f, L * 3 + 2, none⟩ = some (.int .i64 0) from ⟨cell_below hV c8, cell_below hV j0, cell_below hV j1, cell_below hV j2⟩))
            have HX9 := Lib.hid (heap_new (w := wr) (o := (.cells #[.pointer (some ⟨eb', eo', none⟩), .pointer u, .int .i64 0] 77)) rfl)
            have i0 : (0 : Int) ≤ (L : Int) := by omega
            have i1 : (L : Int) < (L : Int) + 1 := by omega
            have i2 : IntKind.i64.wrap ((L : Int) + 1 - 1) = (L : Int) := by rw [IntKind.wrap_i64]; omega
            have i3 : IntKind.i64.wrap (L : Int) = (L : Int) := by rw [IntKind.wrap_i64]; omega
            have i4 : (L : Int) ≤ 90000000000 := by omega
            clear hR hs hinv hmu htr hbw hmT hg8 hm8 hP0 hBw hx hfr hn hd hst hw1 hw2 hw3 hlen hcs heI heE hvd hA hvl hnv hnf hnr hnt hLL j0 j1 j2 b0 b1 b2 b3 b4 b5 y0 y1 y2 y3 y4 y5 z0 hn0
            go_upto_region 4 with fail
            clear c8
            go_region_held3 (fun V => V.cell? ⟨mb, 8, none⟩ = some (.slice (some ⟨q1f, 0, none⟩) (L + 1) k1f) ∧ V.cell? ⟨q1f, L * 3, none⟩ = some (.pointer (some ⟨eb', eo', none⟩)) ∧ V.cell? ⟨q1f, L * 3 + 1, none⟩ = some (.pointer u) ∧ V.cell? ⟨q1f, L * 3 + 2, none⟩ = some (.int .i64 0))
              (with_reducible exact HS4.out _ (by go_grown))
              (first | fail)
            all_goals
              have hbx : Below wr.heap.size wr (wr.alloc (.cells #[.pointer (some ⟨eb', eo', none⟩), .pointer u, .int .i64 0] 77)).drew := ((Below.refl _ _).alloc (Nat.le_refl _) _).drew
              have hx9 : (wr.alloc (.cells #[.pointer (some ⟨eb', eo', none⟩), .pointer u, .int .i64 0] 77)).drew.heap[wr.heap.size]? = some (.cells #[.pointer (some ⟨eb', eo', none⟩), .pointer u, .int .i64 0] 77) := HX9.out
              generalize (wr.alloc (.cells #[.pointer (some ⟨eb', eo', none⟩), .pointer u, .int .i64 0] 77)).drew = V at *
              obtain ⟨f0, f1, f2⟩ := cells3 hx9
              have c7' := cell_below hbx c7
              have HBX := Lib.hid hbx
              clear hbx hx9 HS4 HX9 c0 c1 c2 c3 c4 c5 c6 c7 c9 c10
              go_upto_region 5 with fail
              go_still_tail 9, (by kernel_rfl)
              change wpList _ _ _ _ _ _
              go_wp2_with fail
              (with_reducible refine (HC.out _ (Below.drew HBX.out)).mono ?_)
              rintro e1 w2 ⟨rfl, hp⟩
              have HP := Lib.hid hp
              clear hp
              go_wp2_with fail
              go_roundw
              case rel => exact HP.out.1
              case measure => exact HP.out.2
          · have hvd := (Vs.mk (Rd.of_own hvr) hR.vl).dropC x.base hw1 cv hnc
            rw [Addr.add_lit, Nat.zero_add] at hvd
            obtain ⟨A3, hA3⟩ : ∃ A3, (if cv = x.base then some (⟨g, 0, none⟩ : Addr) else some ⟨g, x.base * 6, none⟩) = A3 := ⟨_, rfl⟩
            rw [hA3] at hvd
            have hA : 0 < (s.vals.drop x.base).length → ∀ a, A3 = some a → a.block ≠ mb := fun _ a ha => by
              have hgm := (hR.dv g rfl).1
              rw [← hA3] at ha
              split at ha
              · cases ha; exact hgm
              · cases ha; exact hgm
            clear hvr hgB hgh
            have hvl : (s.vals.drop x.base).length = s.vals.length - x.base := List.length_drop
            have hnv := hinv.dat.nv
            have hnf := hinv.dat.nf
            have hnr := hinv.dat.nr
            have hnt := hinv.dat.nt
            have HC := Lib.hid (fun (V : World) (hV : Below wr.heap.size wr V) => (show Calls Tryz.prog 28 #[.agg #[.pointer (some ⟨mb, 0, none⟩)], .agg #[.pointer (some ⟨eb', eo', none⟩), .pointer u, .int .i64 x.base], .slice A3 (s.vals.length - x.base) (cv - x.base)] V fun e1 w' => e1 = .returned (.tuple #[]) ∧ (RL w0 (w.alloc zeroV) B mb (Mv mb t0 r0 v0 f0) s1 w' ∧ muW mb w' < muW mb wr) from by
              have hVB := hV.mono (show B ≤ _ by have := hR.lt; have := hR.base.2; omega)
              have hg := goOn_any (hR.below hV) (below_w0 (below_w0 HW.out.1 HW.out.2.2.1 hBw) HW.out.2.2.1 hVB) HW.out.2.1 (by omega) (by omega) (by omega) (by omega) fr.reverse x hx hw1 (hinv.dat.frames x (by rw [hx]; simp)).1 eb' eo' u ⟨heI, heE.keep (Tr.below hV)⟩ (s.vals.drop x.base) A3 (vcs.drop x.base) (cv - x.base) (hvd.below hV) hA (by rw [hvl]; omega) (by rw [hvl]; omega) (by rw [hvl]; omega) (fun z hz => (have hz' := hinv.dat.vals z (List.mem_of_mem_drop hz); ⟨hz'.fn_, hz'.ref_, hz'.txt_, hz'.num_, by have := hz'.len_; omega⟩)) (fun z hz => (hinv.dat.vals z (List.mem_of_mem_drop hz)).tag_)
              rw [hvl] at hg
              exact hg.mono fun e1 w' ⟨h1, h2⟩ => And.intro h1 (RL.next hR hs hinv hmu htr hbw hd (by omega) (by rw [hst]; exact h2.mono (Tr.below hV) hVB))))
            have HS4 := Lib.hid (fun (V : World) (hV : Below wr.heap.size wr V) => (show V.cell? ⟨mb, 8, none⟩ = some (.slice (some ⟨q1f, 0, none⟩) (L + 1) k1f) ∧ V.cell? ⟨q1f, L * 3, none⟩ = some (.pointer (some ⟨eb', eo', none⟩)) ∧ V.cell? ⟨q1f, L * 3 + 1, none⟩ = some (.pointer u) ∧ V.cell? ⟨q1f, L * 3 + 2, none⟩ = some (.int .i64 x.base) from ⟨cell_below hV c8, cell_below hV j0, cell_below hV j1, cell_below hV j2⟩))
            have HX9 := Lib.hid (heap_new (w := wr) (o := (.cells #[.pointer (some ⟨eb', eo', none⟩), .pointer u, .int .i64 x.base] 77)) rfl)
            have i0 : (0 : Int) ≤ (L : Int) := by omega
            have i1 : (L : Int) < (L : Int) + 1 := by omega
            have i2 : IntKind.i64.wrap ((L : Int) + 1 - 1) = (L : Int) := by rw [IntKind.wrap_i64]; omega
            have i3 : IntKind.i64.wrap (L : Int) = (L : Int) := by rw [IntKind.wrap_i64]; omega
            have i4 : (L : Int) ≤ 90000000000 := by omega
            have j4 : (x.base : Int) ≤ (s.vals.length : Int) := by omega
            have j5 : (0 : Int) ≤ (x.base : Int) := by omega
            have j6 : (s.vals.length : Int) ≤ (cv : Int) := by omega
            have j7 : (cv : Int) ≤ 9223372036854775807 := by have := hcm; simp only [maxLen] at this; omega
            have j8 : (x.base : Int) ≤ (cv : Int) := by omega
            clear hR hs hinv hmu htr hbw hmT hg8 hm8 hP0 hBw hx hfr hn hd hst hw1 hw2 hw3 hlen hcs heI heE hvd hA hvl hnv hnf hnr hnt hLL j0 j1 j2 b0 b1 b2 b3 b4 b5 y0 y1 y2 y3 y4 y5 z0 hnc hcm
            go_upto_region 4 with fail
            clear c8
            go_region_held3 (fun V => V.cell? ⟨mb, 8, none⟩ = some (.slice (some ⟨q1f, 0, none⟩) (L + 1) k1f) ∧ V.cell? ⟨q1f, L * 3, none⟩ = some (.pointer (some ⟨eb', eo', none⟩)) ∧ V.cell? ⟨q1f, L * 3 + 1, none⟩ = some (.pointer u) ∧ V.cell? ⟨q1f, L * 3 + 2, none⟩ = some (.int .i64 x.base))
              (with_reducible exact HS4.out _ (by go_grown))
              (first | fail)
            all_goals
              have hbx : Below wr.heap.size wr (wr.alloc (.cells #[.pointer (some ⟨eb', eo', none⟩), .pointer u, .int .i64 x.base] 77)).drew := ((Below.refl _ _).alloc (Nat.le_refl _) _).drew
              have hx9 : (wr.alloc (.cells #[.pointer (some ⟨eb', eo', none⟩), .pointer u, .int .i64 x.base] 77)).drew.heap[wr.heap.size]? = some (.cells #[.pointer (some ⟨eb', eo', none⟩), .pointer u, .int .i64 x.base] 77) := HX9.out
              generalize (wr.alloc (.cells #[.pointer (some ⟨eb', eo', none⟩), .pointer u, .int .i64 x.base] 77)).drew = V at *
              obtain ⟨f0, f1, f2⟩ := cells3 hx9
              have c7' := cell_below hbx c7
              have HBX := Lib.hid hbx
              clear hbx hx9 HS4 HX9 c0 c1 c2 c3 c4 c5 c6 c7 c9 c10
              go_upto_region 5 with fail
              go_still_tail 9, (by kernel_rfl)
              change wpList _ _ _ _ _ _
              go_wp2_with fail
              (with_reducible refine (HC.out _ (Below.drew HBX.out)).mono ?_)
              rintro e1 w2 ⟨rfl, hp⟩
              have HP := Lib.hid hp
              clear hp
              go_wp2_with fail
              go_roundw
              case rel => exact HP.out.1
              case measure => exact HP.out.2
    · have HX := Lib.hid (RunRes.bad hR hs hinv (by omega) hBw hP0 (Nat.le_refl _) he0 HG.out.2.2.1 hm8)
      have e1 : (s.err == 0) = false := by simpa using he0
      have e2 : (s.err != 0) = true := by simpa using he0
      clear hR hs hinv hmu htr hbw hmT hg8 hm8 hP0 hBw
      go_wp2_with fail
      exact run_ret HG8.out _ _ _ _ _ _ _ rfl HX.out
end Go.Proofs.YtpdfjdomjklkbaaGreatDoor
