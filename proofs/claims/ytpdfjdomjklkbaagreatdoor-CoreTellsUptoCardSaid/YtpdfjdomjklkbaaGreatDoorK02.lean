/-
  The machine: the last expression that waits has ended.
  The machine: a value is told, or a fault.
  The machine: what a reference has.
  The machine: a reference has something else.
-/
import Derived.Test.YtpdfjdomjklkbaaGreatDoorK01
namespace Go.Proofs.YtpdfjdomjklkbaaGreatDoor
open Go.ChangeShapes Go.WideShapes Go.ChangeAt Go.RowKit Go.Sort
set_option linter.unusedVariables false
set_option linter.unusedSimpArgs false

section
variable {w0 w : World} {B mb : Nat} {s : St} {t i r v f nx nm : Value} {rcs vcs fcs : List (List Value)}
theorem own_cutA {w : World} {base n c : Nat} {A : Option Addr} {e : TypeId} {size : Nat} {xs : List Value} (h : w.ownsRow base e size (.slice A n c) n xs) (m : Nat) (hm : m ≤ n) : w.ownsRow base e size (.slice A m c) m (xs.take (m * size)) := by
  have h0 := h
  rcases h.2 with ⟨q, q2⟩ | ⟨g', cap', cur, hv, _⟩
  · subst q2
    obtain rfl : m = 0 := by omega
    have hx : xs = [] := List.eq_nil_of_length_eq_zero (by rw [h.1, Nat.zero_mul])
    subst hx
    simpa using h
  · injection hv with e1 _ e2
    subst e1
    exact own_cut h m hm
/-- What is left when the last expression that waits has ended. -/
structure Ended (w0 w : World) (B mb : Nat) (s : St) (t i r : Value) (A0 : Option Addr) (k0 q1 k1 : Nat) (nx nm : Value) (rcs vcs fcs : List (List Value)) (fs : List Frm) (x : Frm) (w' : World) : Prop where
  rep : Rep w0 B mb { s with vals := s.vals.take x.base, frames := fs } w' t i r (.slice A0 x.base k0) (.slice (some ⟨q1, 0, none⟩) fs.length k1) nx nm rcs (vcs.take x.base) (fcs.take fs.length)
  kept : ∀ b, b ≠ mb → w'.heap[b]? = w.heap[b]?
  io : w'.os = w.os ∧ w'.tape = w.tape ∧ w'.output = w.output ∧ w'.heap.size = w.heap.size
theorem VR.lens {w0 w : World} {P : Nat → Prop} {l : List Val} {css : List (List Value)} (h : LR (VR w0 w P) l css) : ∀ c ∈ css, c.length = 6 := fun c hc => by
  obtain ⟨j, hj, e⟩ := List.getElem_of_mem hc
  exact (h.at_ j _ c (List.getElem?_eq_getElem (by rw [← h.len]; exact hj)) (by rw [List.getElem?_eq_getElem hj, e])).len
theorem own_len (A : Option Addr) (m n c : Nat) : (Value.slice A m c).ownBlock = (Value.slice A n c).ownBlock := by cases A <;> rfl
theorem Rep.ended {A0 : Option Addr} {k0 q1 k1 : Nat} (fs : List Frm) (x : Frm) (hx : s.frames = fs ++ [x]) (h : Rep w0 B mb s w t i r (.slice A0 s.vals.length k0) (.slice (some ⟨q1, 0, none⟩) (fs.length + 1) k1) nx nm rcs vcs fcs) (hbs : x.base ≤ s.vals.length) (h3 : ∀ c ∈ fcs, c.length = 3) :
    Ended w0 w B mb s t i r A0 k0 q1 k1 nx nm rcs vcs fcs fs x ((w.setCell ⟨mb, 7, none⟩ (.slice A0 x.base k0)).setCell ⟨mb, 8, none⟩ (.slice (some ⟨q1, 0, none⟩) fs.length k1)).drew := by
  have hlen : s.frames.length = fs.length + 1 := by rw [hx, List.length_append]; rfl
  have hk : ∀ b, b ≠ mb → ((w.setCell ⟨mb, 7, none⟩ (.slice A0 x.base k0)).setCell ⟨mb, 8, none⟩ (.slice (some ⟨q1, 0, none⟩) fs.length k1)).drew.heap[b]? = w.heap[b]? := fun b hb =>
    (set_other _ mb 8 _ hb).trans (set_other _ mb 7 _ hb)
  have hT : Tr w (Mv mb t r (.slice A0 s.vals.length k0) (.slice (some ⟨q1, 0, none⟩) (fs.length + 1) k1)) ((w.setCell ⟨mb, 7, none⟩ (.slice A0 x.base k0)).setCell ⟨mb, 8, none⟩ (.slice (some ⟨q1, 0, none⟩) fs.length k1)).drew (Mv mb t r (.slice A0 x.base k0) (.slice (some ⟨q1, 0, none⟩) fs.length k1)) := fun b hb hl => ⟨⟨hb.1, hb.2.1, hb.2.2.1, by rw [own_len A0 x.base s.vals.length]; exact hb.2.2.2.1, hb.2.2.2.2⟩, hk b hb.1⟩
  have hB := h.base.2
  have hfr := h.fr
  rw [hlen] at hfr
  have e1 : s.vals.take x.base = s.vals.take x.base := rfl
  have el : (s.vals.take x.base).length = x.base := by rw [List.length_take]; omega
  have ef : fs = s.frames.take fs.length := by rw [hx]; simp
  obtain ⟨A, c, i1, i2, i3, i4⟩ := h.inp
  refine ⟨⟨set_cells (set_cells h.hd 7 _) 8 _, own_keep h.tr (fun q hq _ => hk q (h.dt q hq).1), ⟨A, c, i1, i2, rd_keepP (P := fun b => b < B) i3 i4 (fun b hb _ => hk b (by omega)), i4⟩, own_keep h.rr (fun q hq _ => hk q (h.dr q hq).1), h.rl.imp (fun a c => VR.keep hT), ?_, (h.vl.imp (fun a c => VR.keep hT)).take _, ?_, ?_, h.nxt.keep hT, h.base, by rw [own_len A0 x.base s.vals.length]; exact h.dt, by rw [own_len A0 x.base s.vals.length]; exact h.dr, by rw [own_len A0 x.base s.vals.length]; exact h.dv, h.df⟩, hk, rfl, rfl, rfl, by rw [World.size_drew, World.size_setCell, World.size_setCell]⟩
  · have := own_keep (own_cutA h.vr x.base hbs) (fun q hq _ => hk q (h.dv q (by rw [← own_len A0 x.base s.vals.length]; exact hq)).1)
    rw [flat_take2 (VR.lens h.vl)] at this
    rw [el]
    exact this
  · have := own_keep (own_cutA hfr fs.length (by omega)) (fun q hq _ => hk q (h.df q hq))
    rw [flat_take2 h3] at this
    exact this
  · have := (h.fl.imp (fun a c => FrR.keep hT)).take fs.length
    rw [← ef] at this
    exact this
set_option maxHeartbeats 4000000 in
theorem end_any {A0 : Option Addr} {k0 : Nat} (h : Rep w0 B mb s w t i r (.slice A0 s.vals.length k0) f nx nm rcs vcs fcs) (fs : List Frm) (x : Frm) (hx : s.frames = fs ++ [x]) (hl : s.frames.length ≤ 100000000000) (hbs : x.base ≤ s.vals.length) (hn : s.vals.length ≤ 100000000000) :
    Calls Tryz.prog 49 #[.pointer (some ⟨mb, 0, none⟩)] w fun e w' => e = .returned (.tuple #[]) ∧ ∃ q1 k1, f = .slice (some ⟨q1, 0, none⟩) (fs.length + 1) k1 ∧ Ended w0 w B mb s t i r A0 k0 q1 k1 nx nm rcs vcs fcs fs x w' := by
  obtain ⟨q1, k1, rfl⟩ := own_some (n := fs.length) (by have := h.fr; rw [hx, List.length_append] at this; exact this)
  have hlen : s.frames.length = fs.length + 1 := by rw [hx, List.length_append]; rfl
  have hfl : fcs.length = fs.length + 1 := h.fl.len.trans hlen
  obtain ⟨cs, hcs, eb, eo, u, hce, _, _⟩ := h.fl.get (i := fs.length) (by omega)
  have hxx : s.frames[fs.length]'(by omega) = x := by simp [hx]
  rw [hxx] at hce
  have h3 : ∀ c ∈ fcs, c.length = 3 := fun c hc => by
    obtain ⟨j, hj, e⟩ := List.getElem_of_mem hc
    obtain ⟨_, _, _, e2, _⟩ := h.fl.at_ j _ c (List.getElem?_eq_getElem (by rw [← h.fl.len]; exact hj)) (by rw [List.getElem?_eq_getElem hj, e])
    rw [e2]; rfl
  have c2 : w.cell? ⟨q1, fs.length * 3 + 2, none⟩ = some (.int .i64 x.base) := by
    have hf := h.fr
    rw [hlen] at hf
    exact (own_cell hf (flat_at2 h3 hcs (j := 2) (by rw [hce]; rfl))).1
  have m7 := (cells11 h.hd).2.2.2.2.2.2.2.1
  have m8 := (cells11 h.hd).2.2.2.2.2.2.2.2.1
  have z7 := frozenN h.hd 7
  have z8 := frozenN h.hd 8
  have n0 : (x.base : Int) ≤ (s.vals.length : Int) := by omega
  have n1 : (0 : Int) ≤ (x.base : Int) := by omega
  have n2 : (fs.length : Int) ≤ 100000000000 := by omega
  have n3 : (0 : Int) ≤ (fs.length : Int) := by omega
  have n4 : (s.vals.length : Int) ≤ 100000000000 := by omega
  have n5 : (fs.length : Int) < (fs.length : Int) + 1 := by omega
  obtain ⟨_, _, eC, hc1, hc2, hc3⟩ := own_cap h.vr
  cases eC
  obtain ⟨_, _, eD, hd1, hd2, _⟩ := own_cap (show w.ownsRow B 77 3 (.slice (some ⟨q1, 0, none⟩) (fs.length + 1) k1) (fs.length + 1) fcs.flatten from hlen ▸ h.fr)
  cases eD
  have n6 : (x.base : Int) ≤ (k0 : Int) := by omega
  have n7 : (fs.length : Int) ≤ (k1 : Int) := by omega
  have n8 : x.base ≤ k0 := by omega
  have n9 : fs.length ≤ k1 := by omega
  have HE := Lib.hid (h.ended fs x hx hbs h3)
  clear h hl hbs hn
  go_enter Tryz.func49, Tryz.ntmps49
  go_wp2_with fail
  go_region_law fail
  all_goals go_wp2_with fail
  all_goals
    go_returns
    with_reducible exact ⟨rfl, _, _, rfl, HE.out⟩
end
end Go.Proofs.YtpdfjdomjklkbaaGreatDoor

namespace Go.Proofs.YtpdfjdomjklkbaaGreatDoor
open Go.ChangeShapes Go.WideShapes Go.ChangeAt Go.RowKit Go.Sort
set_option linter.unusedVariables false
set_option linter.unusedSimpArgs false

def St.tell (s : St) (z : Val) (fault : Int) (is : Bool) : St := if is = true then (if fault = 0 then { s with vals := s.vals ++ [z] } else { s with err := 9, fault := fault }) else { s with err := 11 }
section
variable {w0 w : World} {B mb : Nat} {s : St} {t i r v f nx nm : Value} {rcs vcs fcs : List (List Value)}
theorem Rep.fault2 (h : Rep w0 B mb s w t i r v f nx nm rcs vcs fcs) (n : Int) : Post w0 B mb (Mv mb t r v f) w { s with err := 9, fault := n } ((w.setCell ⟨mb, 0, none⟩ (.int .i64 9)).setCell ⟨mb, 1, none⟩ (.int .i64 n)) := by
  have hk : ∀ b, b ≠ mb → (((w.setCell ⟨mb, 0, none⟩ (.int .i64 9)).setCell ⟨mb, 1, none⟩ (.int .i64 n))).heap[b]? = w.heap[b]? := fun b hb => (set_other _ mb 1 _ hb).trans (set_other _ mb 0 _ hb)
  obtain ⟨h1, h2, h3⟩ := h.head (s' := { s with err := 9, fault := n }) (wz := ((w.setCell ⟨mb, 0, none⟩ (.int .i64 9)).setCell ⟨mb, 1, none⟩ (.int .i64 n))) hk ⟨rfl, rfl, rfl, by rw [World.size_setCell, World.size_setCell]⟩ (set_cells (set_cells h.hd 0 _) 1 _) ⟨rfl, rfl, rfl, rfl⟩ h.inp h.nxt
  exact ⟨_, _, _, _, _, _, _, _, _, _, h1, h2, h3⟩
set_option maxHeartbeats 4000000 in
theorem tellF_any (h : Rep w0 B mb s w t i r v f nx nm rcs vcs fcs) (hn : s.vals.length ≤ 100000000000) (z : Val) (A : Option Addr) (c : Nat) (p : Option Addr) (n : Int) (is : Bool) (hz : is = true → n = 0 → VR w0 w (Mv mb t r v f) z [.int .i64 z.sort, .int .i64 z.n, .string (bstr z.s), .slice none 0 0, .slice A z.l.length c, .pointer p]) :
    Calls Tryz.prog 58 #[.pointer (some ⟨mb, 0, none⟩), .agg #[.int .i64 z.sort, .int .i64 z.n, .string (bstr z.s), .slice none 0 0, .slice A z.l.length c, .pointer p], .int .i64 n, .bool is] w fun e w' => e = .returned (.tuple #[]) ∧ Post w0 B mb (Mv mb t r v f) w (s.tell z n is) w' := by
  have hb : Below w.heap.size w (w.alloc (.cells #[.int .i64 z.sort, .int .i64 z.n, .string (bstr z.s), .slice none 0 0, .slice A z.l.length c, .pointer p] 60)) := (Below.refl _ _).alloc (Nat.le_refl _) _
  have HC0 := Lib.hid (stuck_any (h.below hb))
  have HF := Lib.hid ((h.below hb).fault2 n)
  have c0 := (cells11 (h.below hb).hd).1
  have c1 := (cells11 (h.below hb).hd).2.1
  have z0 := frozenN (h.below hb).hd 0
  have z1 := frozenN (h.below hb).hd 1
  have HT := Lib.hid (And.intro (Tr.below (P := Mv mb t r v f) hb) (hb.mono (Nat.le_of_lt (Nat.lt_of_le_of_lt h.base.2 h.lt))))
  obtain ⟨a0, a1, a2, a3, a4, a5⟩ := cells6 (heap_new (w := w) (o := .cells #[.int .i64 z.sort, .int .i64 z.n, .string (bstr z.s), .slice none 0 0, .slice A z.l.length c, .pointer p] 60) rfl)
  cases is with
  | false =>
    have e : s.tell z n false = { s with err := 11 } := by unfold St.tell; rw [if_neg (by decide)]
    rw [e]
    clear e h hb hz c0 c1 z0 z1
    go_enter Tryz.func58, Tryz.ntmps58
    go_wp2_with (go_at_call 40; (with_reducible refine HC0.out.mono ?_); rintro e1 w1 ⟨rfl, hp⟩; have HP := Lib.hid hp; clear hp HC0)
    go_returns
    exact ⟨rfl, HP.out.mono HT.out.1 HT.out.2⟩
  | true =>
    by_cases hn0 : n = 0
    · subst hn0
      have e : s.tell z 0 true = { s with vals := s.vals ++ [z] } := by unfold St.tell; rw [if_pos rfl, if_pos rfl]
      rw [e]
      have HC := Lib.hid (tell_any (h.below hb) hn z ((hz rfl rfl).keep (Tr.below hb)))
      clear e h hb hz c0 c1 z0 z1
      go_enter Tryz.func58, Tryz.ntmps58
      go_wp2_with (go_at_call 41; (with_reducible refine HC.out.mono ?_); rintro e1 w1 ⟨rfl, hp⟩; have HP := Lib.hid hp; clear hp HC)
      go_returns
      exact ⟨rfl, HP.out.mono HT.out.1 HT.out.2⟩
    · have e : s.tell z n true = { s with err := 9, fault := n } := by unfold St.tell; rw [if_pos rfl, if_neg hn0]
      rw [e]
      clear e h hb hz
      go_enter Tryz.func58, Tryz.ntmps58
      go_wp2_with fail
      go_returns
      with_reducible exact ⟨rfl, HF.out.mono HT.out.1 HT.out.2⟩
end
end Go.Proofs.YtpdfjdomjklkbaaGreatDoor

namespace Go.Proofs.YtpdfjdomjklkbaaGreatDoor
open Go.ChangeShapes Go.WideShapes Go.ChangeAt Go.RowKit Go.Sort
set_option linter.unusedVariables false
set_option linter.unusedSimpArgs false

/-- The cells of a row's element. -/
theorem own_at6 {w : World} {base n g cap : Nat} {e : TypeId} {css : List (List Value)} (h : w.ownsRow base e 6 (.slice (some ⟨g, 0, none⟩) n cap) n css.flatten) (h6 : ∀ c ∈ css, c.length = 6) {k : Nat} {z0 z1 z2 z3 z4 z5 : Value} (hk : css[k]? = some [z0, z1, z2, z3, z4, z5]) :
    (w.cell? ⟨g, k * 6, none⟩ = some z0 ∧ w.cell? ⟨g, k * 6 + 1, none⟩ = some z1 ∧ w.cell? ⟨g, k * 6 + 2, none⟩ = some z2 ∧ w.cell? ⟨g, k * 6 + 3, none⟩ = some z3 ∧ w.cell? ⟨g, k * 6 + 4, none⟩ = some z4 ∧ w.cell? ⟨g, k * 6 + 5, none⟩ = some z5) ∧
    (w.frozen? ⟨g, k * 6, none⟩ = false ∧ w.frozen? ⟨g, k * 6 + 1, none⟩ = false ∧ w.frozen? ⟨g, k * 6 + 2, none⟩ = false ∧ w.frozen? ⟨g, k * 6 + 3, none⟩ = false ∧ w.frozen? ⟨g, k * 6 + 4, none⟩ = false ∧ w.frozen? ⟨g, k * 6 + 5, none⟩ = false) := by
  have g0 := flat_at2 h6 hk (j := 0) rfl
  have g1 := flat_at2 h6 hk (j := 1) rfl
  have g2 := flat_at2 h6 hk (j := 2) rfl
  have g3 := flat_at2 h6 hk (j := 3) rfl
  have g4 := flat_at2 h6 hk (j := 4) rfl
  have g5 := flat_at2 h6 hk (j := 5) rfl
  exact ⟨⟨(own_cell h g0).1, (own_cell h g1).1, (own_cell h g2).1, (own_cell h g3).1, (own_cell h g4).1, (own_cell h g5).1⟩, (own_cell h g0).2, (own_cell h g1).2, (own_cell h g2).2, (own_cell h g3).2, (own_cell h g4).2, (own_cell h g5).2⟩
section
variable {w0 w : World} {B mb : Nat} {s : St} {t i r v f nx nm : Value} {rcs vcs fcs : List (List Value)}
set_option maxHeartbeats 4000000 in
theorem has_any (h : Rep w0 B mb s w t i r v f nx nm rcs vcs fcs) (hn : s.refs.length ≤ 100000000000) (z : Val) (A : Option Addr) (c : Nat) (p : Option Addr) (k : Nat) (hk : k < s.refs.length) (hz : z.n = k) :
    Calls Tryz.prog 85 #[.pointer (some ⟨mb, 0, none⟩), .agg #[.int .i64 z.sort, .int .i64 z.n, .string (bstr z.s), .slice none 0 0, .slice A z.l.length c, .pointer p]] w fun e w' => ∃ (A' : Option Addr) (c' : Nat) (p' : Option Addr), e = .returned (.agg #[.int .i64 s.refs[k].sort, .int .i64 s.refs[k].n, .string (bstr s.refs[k].s), .slice none 0 0, .slice A' s.refs[k].l.length c', .pointer p']) ∧ VR w0 w (Mv mb t r v f) s.refs[k] [.int .i64 s.refs[k].sort, .int .i64 s.refs[k].n, .string (bstr s.refs[k].s), .slice none 0 0, .slice A' s.refs[k].l.length c', .pointer p'] ∧ Below w.heap.size w w' := by
  rw [hz]
  obtain ⟨cs, hcs, hv⟩ := h.rl.get hk
  obtain ⟨y, hy⟩ : ∃ y, s.refs[k] = y := ⟨_, rfl⟩
  rw [hy] at hv ⊢
  obtain ⟨A6, k6, q6, rfl⟩ := hv.six
  obtain ⟨m, hm⟩ : ∃ m, s.refs.length = m + 1 := ⟨s.refs.length - 1, by omega⟩
  have hrr := h.rr
  rw [hm] at hrr
  obtain ⟨g, cg, rfl⟩ := own_some hrr
  have hb1 : Below w.heap.size w (w.alloc (.cells #[.int .i64 z.sort, .int .i64 (k : Int), .string (bstr z.s), .slice none 0 0, .slice A z.l.length c, .pointer p] 60)) := (Below.refl _ _).alloc (Nat.le_refl _) _
  have hb2 := hb1.alloc (by rw [World.size_alloc]; omega) (.cells #[.int .i64 0, .int .i64 0, .string ⟨#[]⟩, .slice none 0 0, .slice none 0 0, .pointer none] 60)
  obtain ⟨⟨a0, a1, a2, a3, a4, a5⟩, _⟩ := own_at6 (own_below hrr hb2) (VR.lens h.rl) hcs
  obtain ⟨b0, b1, b2, b3, b4, b5⟩ := cells6 ((Below.heap_alloc _ (.cells #[.int .i64 0, .int .i64 0, .string ⟨#[]⟩, .slice none 0 0, .slice none 0 0, .pointer none] 60) _ (by rw [World.size_alloc]; omega)).trans (heap_new (w := w) (o := .cells #[.int .i64 z.sort, .int .i64 (k : Int), .string (bstr z.s), .slice none 0 0, .slice A z.l.length c, .pointer p] 60) rfl))
  have c6 := (cells11 ((hb2.block mb h.lt).trans h.hd)).2.2.2.2.2.2.1
  have HV := Lib.hid hv
  have HB := Lib.hid (show Below w.heap.size w ((w.alloc (.cells #[.int .i64 z.sort, .int .i64 (k : Int), .string (bstr z.s), .slice none 0 0, .slice A z.l.length c, .pointer p] 60)).alloc (.cells #[.int .i64 y.sort, .int .i64 y.n, .string (bstr y.s), .slice none 0 0, .slice A6 y.l.length k6, .pointer q6] 60)).drew from (hb1.alloc (by rw [World.size_alloc]; omega) _).drew)
  have n0 : (0 : Int) ≤ (k : Int) := by omega
  have n1 : (k : Int) < (m : Int) + 1 := by omega
  have n2 : (m : Int) ≤ 100000000000 := by omega
  clear h hv hcs hrr hb1 hb2 hn hk hz hy
  go_enter Tryz.func85, Tryz.ntmps85
  go_upto_region 1 with fail
  go_region_law fail
  all_goals
    go_wp2_with fail
    go_returns
    with_reducible exact ⟨_, _, _, rfl, HV.out, HB.out⟩
def St.get (s : St) (z : Val) : St := if z.sort = 6 then (match s.refs[z.n.toNat]? with
  | some y => { s with vals := s.vals ++ [y] }
  | none => s) else { s with err := 11 }
set_option maxHeartbeats 4000000 in
theorem get_any (h : Rep w0 B mb s w t i r v f nx nm rcs vcs fcs) (hn : s.refs.length ≤ 100000000000) (hv : s.vals.length ≤ 100000000000) (z : Val) (A : Option Addr) (c : Nat) (p : Option Addr) (hz : z.sort = 6 → ∃ k : Nat, z.n = k ∧ k < s.refs.length) :
    Calls Tryz.prog 64 #[.pointer (some ⟨mb, 0, none⟩), .agg #[.int .i64 z.sort, .int .i64 z.n, .string (bstr z.s), .slice none 0 0, .slice A z.l.length c, .pointer p]] w fun e w' => e = .returned (.tuple #[]) ∧ Post w0 B mb (Mv mb t r v f) w (s.get z) w' := by
  have hb : Below w.heap.size w (w.alloc (.cells #[.int .i64 z.sort, .int .i64 z.n, .string (bstr z.s), .slice none 0 0, .slice A z.l.length c, .pointer p] 60)) := (Below.refl _ _).alloc (Nat.le_refl _) _
  have HBM := Lib.hid (fun (wr : World) (hb : Below w.heap.size w wr) => And.intro (Tr.below (P := Mv mb t r v f) hb) (hb.mono (Nat.le_of_lt (Nat.lt_of_le_of_lt h.base.2 h.lt))))
  have HB := Lib.hid hb
  by_cases hs : z.sort = 6
  · obtain ⟨k, hzn, hk⟩ := hz hs
    have e : s.get z = { s with vals := s.vals ++ [s.refs[k]] } := by
      unfold St.get
      rw [if_pos hs, hzn, show ((k : Int).toNat) = k from rfl, List.getElem?_eq_getElem hk]
    rw [e]
    have HC := Lib.hid (has_any (h.below hb) hn z A c p k hk hzn)
    have HD := Lib.hid (fun (w1 : World) (hb1 : Below w.heap.size w w1) (z : Val) (A : Option Addr) (c : Nat) (p : Option Addr) a => tell_any (h.below hb1) hv z (A := A) (c := c) (p := p) a)
    rw [hs] at HC HB ⊢
    clear e h hb hz hs hzn hn hv
    go_enter Tryz.func64, Tryz.ntmps64
    go_wp2_with (first
      | (go_at_call 85; (with_reducible refine HC.out.mono ?_); rintro e1 w1 ⟨A1, c1, p1, rfl, hv1, hb1⟩; have HB1 := Lib.hid (below_then HB.out hb1); have HT := Lib.hid (HD.out _ HB1.out _ _ _ _ (VR.keep (Tr.below hb1) hv1)); clear hb1 hv1 HC HD)
      | (go_at_call 41; (with_reducible refine HT.out.mono ?_); rintro e1 w2 ⟨rfl, hp⟩; have HP := Lib.hid hp; clear hp HT))
    go_returns
    with_reducible exact ⟨rfl, HP.out.mono (HBM.out _ HB1.out).1 (HBM.out _ HB1.out).2⟩
  · have e : s.get z = { s with err := 11 } := by unfold St.get; rw [if_neg hs]
    rw [e]
    have HC := Lib.hid (stuck_any (h.below hb))
    clear e h hb hz hn hv
    go_enter Tryz.func64, Tryz.ntmps64
    go_wp2_with (go_at_call 40; (with_reducible refine HC.out.mono ?_); rintro e1 w1 ⟨rfl, hp⟩; have HP := Lib.hid hp; clear hp HC)
    go_returns
    with_reducible exact ⟨rfl, HP.out.mono (HBM.out _ HB.out).1 (HBM.out _ HB.out).2⟩
end
end Go.Proofs.YtpdfjdomjklkbaaGreatDoor

namespace Go.Proofs.YtpdfjdomjklkbaaGreatDoor
open Go.ChangeShapes Go.WideShapes Go.ChangeAt Go.RowKit Go.Sort
set_option linter.unusedVariables false
set_option linter.unusedSimpArgs false

theorem set_flat {css : List (List Value)} (h6 : ∀ c ∈ css, c.length = 6) {k : Nat} (hk : k < css.length) (a0 a1 a2 a3 a4 a5 : Value) :
    (((((css.flatten.set (k * 6) a0).set (k * 6 + 1) a1).set (k * 6 + 2) a2).set (k * 6 + 3) a3).set (k * 6 + 4) a4).set (k * 6 + 5) a5 = (css.set k [a0, a1, a2, a3, a4, a5]).flatten := by
  induction css generalizing k with
  | nil => simp at hk
  | cons c css ih =>
    have hc := h6 c (List.mem_cons_self ..)
    match c, hc with
    | [z0, z1, z2, z3, z4, z5], _ =>
      cases k with
      | zero => simp
      | succ k =>
        have := ih (fun c hc => h6 c (List.mem_cons_of_mem _ hc)) (k := k) (by simpa using hk)
        rw [List.set_cons_succ, List.flatten_cons, List.flatten_cons, ← this]
        rw [show (k + 1) * 6 = k * 6 + 6 by omega]
        simp only [show k * 6 + 6 + 1 = (k * 6 + 1) + 6 by omega, show k * 6 + 6 + 2 = (k * 6 + 2) + 6 by omega, show k * 6 + 6 + 3 = (k * 6 + 3) + 6 by omega, show k * 6 + 6 + 4 = (k * 6 + 4) + 6 by omega, show k * 6 + 6 + 5 = (k * 6 + 5) + 6 by omega]
        rfl
theorem own_putK {w : World} {base n g cap : Nat} {e : TypeId} {css : List (List Value)} (h : w.ownsRow base e 6 (.slice (some ⟨g, 0, none⟩) n cap) n css.flatten) (h6 : ∀ c ∈ css, c.length = 6) {k : Nat} (hk : k < n) (hn : css.length = n) (a0 a1 a2 a3 a4 a5 : Value) :
    (put6 w g (k * 6) a0 a1 a2 a3 a4 a5).ownsRow base e 6 (.slice (some ⟨g, 0, none⟩) n cap) n (css.set k [a0, a1, a2, a3, a4, a5]).flatten := by
  have h6' := own_set (own_set (own_set (own_set (own_set (own_set h (k * 6) (by omega) a0) (k * 6 + 1) (by omega) a1) (k * 6 + 2) (by omega) a2) (k * 6 + 3) (by omega) a3) (k * 6 + 4) (by omega) a4) (k * 6 + 5) (by omega) a5
  rw [set_flat h6 (by omega)] at h6'
  unfold put6
  exact h6'
def St.set (s : St) (z y : Val) : St := if z.sort = 6 then { s with refs := s.refs.set z.n.toNat y, vals := s.vals ++ [.mk 4 0 [] [] none] } else { s with err := 11 }
theorem plain_vr (w0 w : World) (P : Nat → Prop) (sort n : Int) (st : Str) : VR w0 w P (.mk sort n st [] none) [.int .i64 (Val.mk sort n st [] none).sort, .int .i64 (Val.mk sort n st [] none).n, .string (bstr (Val.mk sort n st [] none).s), .slice none 0 0, .slice none (Val.mk sort n st [] none).l.length 0, .pointer none] :=
  .mk sort n st [] none none 0 [] _ rfl (Rd.nil w 6 none) (fun h => absurd h (Nat.lt_irrefl 0)) ⟨Nat.le_refl 0, by decide⟩ (fun i v cs h => by simp at h) .none
theorem unit_vr (w0 w : World) (P : Nat → Prop) : VR w0 w P (.mk 4 0 [] [] none) [.int .i64 (Val.mk 4 0 [] [] none).sort, .int .i64 (Val.mk 4 0 [] [] none).n, .string (bstr (Val.mk 4 0 [] [] none).s), .slice none 0 0, .slice none (Val.mk 4 0 [] [] none).l.length 0, .pointer none] :=
  .mk 4 0 [] [] none none 0 [] _ rfl (Rd.nil w 6 none) (fun h => absurd h (Nat.lt_irrefl 0)) ⟨Nat.le_refl 0, by decide⟩ (fun i v cs h => by simp at h) .none
section
variable {w0 w : World} {B mb : Nat} {s : St} {t i r v f nx nm : Value} {rcs vcs fcs : List (List Value)}
/-- A value without parts is told. -/
theorem tellS_any (h : Rep w0 B mb s w t i r v f nx nm rcs vcs fcs) (hn : s.vals.length ≤ 100000000000) (sort n : Int) (st : Str) :
    Calls Tryz.prog 41 #[.pointer (some ⟨mb, 0, none⟩), .agg #[.int .i64 sort, .int .i64 n, .string (bstr st), .slice none 0 0, .slice none 0 0, .pointer none]] w fun e w' => e = .returned (.tuple #[]) ∧ Post w0 B mb (Mv mb t r v f) w { s with vals := s.vals ++ [.mk sort n st [] none] } w' :=
  tell_any h hn (.mk sort n st [] none) (plain_vr w0 w _ sort n st)
theorem tellE_any (h : Rep w0 B mb s w t i r v f nx nm rcs vcs fcs) (hn : s.vals.length ≤ 100000000000) (sort n : Int) :
    Calls Tryz.prog 41 #[.pointer (some ⟨mb, 0, none⟩), .agg #[.int .i64 sort, .int .i64 n, .string ⟨#[]⟩, .slice none 0 0, .slice none 0 0, .pointer none]] w fun e w' => e = .returned (.tuple #[]) ∧ Post w0 B mb (Mv mb t r v f) w { s with vals := s.vals ++ [.mk sort n [] [] none] } w' :=
  tellS_any h hn sort n []
/-- A reference's cells are written. -/
theorem Rep.setref {g cg m : Nat} (hm : s.refs.length = m + 1) (h : Rep w0 B mb s w t i (.slice (some ⟨g, 0, none⟩) (m + 1) cg) v f nx nm rcs vcs fcs) {w1 : World} (hb : Below w.heap.size w w1) {k : Nat} (hk : k < s.refs.length) (y : Val) {c0 c1 c2 c3 c4 c5 : Value} (hy : VR w0 w (Mv mb t (.slice (some ⟨g, 0, none⟩) (m + 1) cg) v f) y [c0, c1, c2, c3, c4, c5]) :
    Rep w0 B mb { s with refs := s.refs.set k y } (put6 w1 g (k * 6) c0 c1 c2 c3 c4 c5) t i (.slice (some ⟨g, 0, none⟩) (m + 1) cg) v f nx nm (rcs.set k [c0, c1, c2, c3, c4, c5]) vcs fcs ∧ Tr w (Mv mb t (.slice (some ⟨g, 0, none⟩) (m + 1) cg) v f) (put6 w1 g (k * 6) c0 c1 c2 c3 c4 c5) (Mv mb t (.slice (some ⟨g, 0, none⟩) (m + 1) cg) v f) ∧ Below B w (put6 w1 g (k * 6) c0 c1 c2 c3 c4 c5) := by
  have hgm : g ≠ mb := (h.dr g rfl).1
  have hk' : ∀ b, b < w.heap.size → b ≠ mb → some b ≠ (Value.slice (some ⟨g, 0, none⟩) (m + 1) cg).ownBlock → (put6 w1 g (k * 6) c0 c1 c2 c3 c4 c5).heap[b]? = w.heap[b]? := fun b h1 h2 h3 => by
    rw [put6_other _ _ _ _ _ _ _ _ _ (fun e => h3 (by subst e; rfl)), hb.block b h1]
  have hT : Tr w (Mv mb t (.slice (some ⟨g, 0, none⟩) (m + 1) cg) v f) (put6 w1 g (k * 6) c0 c1 c2 c3 c4 c5) (Mv mb t (.slice (some ⟨g, 0, none⟩) (m + 1) cg) v f) := fun b hb hl => ⟨hb, hk' b hl hb.1 hb.2.2.1⟩
  have hrr := own_below h.rr hb
  rw [hm] at hrr
  refine h.refs_ (L' := s.refs.set k y) (css' := rcs.set k [c0, c1, c2, c3, c4, c5]) hk' ⟨by rw [put6_os]; exact hb.os, by rw [put6_tape]; exact hb.tape, by rw [put6_output]; exact hb.output, by rw [put6_size]; exact hb.size⟩ ?_ ?_ (fun q hq => .inl hq) ((h.rl.imp (fun a c => VR.keep hT)).set k (hy.keep hT))
  · rw [put6_other _ _ _ _ _ _ _ _ _ (Ne.symm hgm), hb.block mb h.lt]
    exact h.hd
  · rw [List.length_set, hm]
    exact own_putK hrr (VR.lens h.rl) (by omega) (by rw [h.rl.len, hm]) _ _ _ _ _ _
set_option maxHeartbeats 4000000 in
theorem setR_any (h : Rep w0 B mb s w t i r v f nx nm rcs vcs fcs) (hn : s.refs.length ≤ 100000000000) (hv : s.vals.length ≤ 100000000000) (z y : Val) (A : Option Addr) (c : Nat) (p : Option Addr) (A6 : Option Addr) (k6 : Nat) (q6 : Option Addr) (hz : z.sort = 6 → ∃ k : Nat, z.n = k ∧ k < s.refs.length)
    (hy : VR w0 w (Mv mb t r v f) y [.int .i64 y.sort, .int .i64 y.n, .string (bstr y.s), .slice none 0 0, .slice A6 y.l.length k6, .pointer q6]) :
    Calls Tryz.prog 65 #[.pointer (some ⟨mb, 0, none⟩), .agg #[.int .i64 z.sort, .int .i64 z.n, .string (bstr z.s), .slice none 0 0, .slice A z.l.length c, .pointer p], .agg #[.int .i64 y.sort, .int .i64 y.n, .string (bstr y.s), .slice none 0 0, .slice A6 y.l.length k6, .pointer q6]] w fun e w' => e = .returned (.tuple #[]) ∧ Post w0 B mb (Mv mb t r v f) w (s.set z y) w' := by
  by_cases hs : z.sort = 6
  · obtain ⟨k, hzn, hk⟩ := hz hs
    have e : s.set z y = { s with refs := s.refs.set k y, vals := s.vals ++ [.mk 4 0 [] [] none] } := by
      unfold St.set
      rw [if_pos hs, hzn, show ((k : Int).toNat) = k from rfl]
    rw [e, hs, hzn]
    obtain ⟨m, hm⟩ : ∃ m, s.refs.length = m + 1 := ⟨s.refs.length - 1, by omega⟩
    have hrr := h.rr
    rw [hm] at hrr
    obtain ⟨g, cg, rfl⟩ := own_some hrr
    have hb1 : Below w.heap.size w (w.alloc (.cells #[.int .i64 6, .int .i64 (k : Int), .string (bstr z.s), .slice none 0 0, .slice A z.l.length c, .pointer p] 60)) := (Below.refl _ _).alloc (Nat.le_refl _) _
    have hb2 : Below w.heap.size w ((w.alloc (.cells #[.int .i64 6, .int .i64 (k : Int), .string (bstr z.s), .slice none 0 0, .slice A z.l.length c, .pointer p] 60)).alloc (.cells #[.int .i64 y.sort, .int .i64 y.n, .string (bstr y.s), .slice none 0 0, .slice A6 y.l.length k6, .pointer q6] 60)) := hb1.alloc (by rw [World.size_alloc]; omega) _
    have hb3 := hb2.drew
    obtain ⟨cs, hcs, hcv⟩ := h.rl.get hk
    have hcs6 := hcv.len
    obtain ⟨z0, z1, z2, z3, z4, z5, rfl⟩ : ∃ z0 z1 z2 z3 z4 z5, cs = [z0, z1, z2, z3, z4, z5] := by
      match cs, hcs6 with
      | [z0, z1, z2, z3, z4, z5], _ => exact ⟨_, _, _, _, _, _, rfl⟩
    obtain ⟨⟨a0, a1, a2, a3, a4, a5⟩, ⟨f0, f1, f2, f3, f4, f5⟩⟩ := own_at6 (own_below hrr hb2) (VR.lens h.rl) hcs
    obtain ⟨b0, b1, b2, b3, b4, b5⟩ := cells6 ((Below.heap_alloc _ (.cells #[.int .i64 y.sort, .int .i64 y.n, .string (bstr y.s), .slice none 0 0, .slice A6 y.l.length k6, .pointer q6] 60) _ (by rw [World.size_alloc]; omega)).trans (heap_new (w := w) (o := (.cells #[.int .i64 6, .int .i64 (k : Int), .string (bstr z.s), .slice none 0 0, .slice A z.l.length c, .pointer p] 60)) rfl))
    obtain ⟨d0, d1, d2, d3, d4, d5⟩ := cells6 (heap_new (w := w.alloc (.cells #[.int .i64 6, .int .i64 (k : Int), .string (bstr z.s), .slice none 0 0, .slice A z.l.length c, .pointer p] 60)) (o := (.cells #[.int .i64 y.sort, .int .i64 y.n, .string (bstr y.s), .slice none 0 0, .slice A6 y.l.length k6, .pointer q6] 60)) (World.size_alloc _ _))
    have c6 := (cells11 ((hb2.block mb h.lt).trans h.hd)).2.2.2.2.2.2.1
    obtain ⟨r1, r2, r3⟩ := h.setref hm hb2 hk y hy
    have HR := Lib.hid (And.intro (r2.trans r3.size (Tr.below (below_drew1 _))) r3.drew)
    have HT := Lib.hid (tellE_any (r1.below (below_drew1 _)) hv 4 0)
    unfold put6 at HT HR
    have n0 : (0 : Int) ≤ (k : Int) := by omega
    have n1 : (k : Int) < (m : Int) + 1 := by omega
    have n2 : (m : Int) ≤ 100000000000 := by omega
    clear e h hb1 hb2 hb3 hz hs hzn hn hv hy hcs hcv hcs6 r1 r2 r3 hrr hm hk
    go_enter Tryz.func65, Tryz.ntmps65
    go_upto_region 3 with fail
    go_region_law fail
    all_goals
      go_wp2_with (go_at_call 41; (with_reducible refine HT.out.mono ?_); rintro e1 w1 ⟨rfl, hp⟩; have HP := Lib.hid hp; clear hp HT)
      go_returns
      with_reducible exact ⟨rfl, HP.out.mono HR.out.1 HR.out.2⟩
  · have e : s.set z y = { s with err := 11 } := by unfold St.set; rw [if_neg hs]
    rw [e]
    have hb1 : Below w.heap.size w (w.alloc (.cells #[.int .i64 z.sort, .int .i64 z.n, .string (bstr z.s), .slice none 0 0, .slice A z.l.length c, .pointer p] 60)) := (Below.refl _ _).alloc (Nat.le_refl _) _
    have hb : Below w.heap.size w ((w.alloc (.cells #[.int .i64 z.sort, .int .i64 z.n, .string (bstr z.s), .slice none 0 0, .slice A z.l.length c, .pointer p] 60)).alloc (.cells #[.int .i64 y.sort, .int .i64 y.n, .string (bstr y.s), .slice none 0 0, .slice A6 y.l.length k6, .pointer q6] 60)) := hb1.alloc (by rw [World.size_alloc]; omega) _
    have HBM := Lib.hid (And.intro (Tr.below (P := Mv mb t r v f) hb) (hb.mono (Nat.le_of_lt (Nat.lt_of_le_of_lt h.base.2 h.lt))))
    have HC := Lib.hid (stuck_any (h.below hb))
    obtain ⟨b0, b1, b2, b3, b4, b5⟩ := cells6 ((Below.heap_alloc _ (.cells #[.int .i64 y.sort, .int .i64 y.n, .string (bstr y.s), .slice none 0 0, .slice A6 y.l.length k6, .pointer q6] 60) _ (by rw [World.size_alloc]; omega)).trans (heap_new (w := w) (o := (.cells #[.int .i64 z.sort, .int .i64 z.n, .string (bstr z.s), .slice none 0 0, .slice A z.l.length c, .pointer p] 60)) rfl))
    clear e h hb hb1 hz hn hv hy
    go_enter Tryz.func65, Tryz.ntmps65
    go_wp2_with (go_at_call 40; (with_reducible refine HC.out.mono ?_); rintro e1 w1 ⟨rfl, hp⟩; have HP := Lib.hid hp; clear hp HC)
    go_returns
    with_reducible exact ⟨rfl, HP.out.mono HBM.out.1 HBM.out.2⟩
end
end Go.Proofs.YtpdfjdomjklkbaaGreatDoor
