/-
  The machine: a line is read.
  The machine: tuples of new memory.
  What operators make of integers and texts.
  The machine: an operator. (Made by gen_mar.py.)
  Whether a value is a tuple, and another an offset of it. (Made by gen_mas.py.)
-/
import Derived.Test.YtpdfjdomjklkbaaGreatDoorK04
import Derived.IntWalk
import Derived.BigQuiet
namespace Go.Proofs.YtpdfjdomjklkbaaGreatDoor
open Go.ChangeShapes Go.WideShapes Go.ChangeAt Go.RowKit Go.Sort
set_option linter.unusedVariables false
set_option linter.unusedSimpArgs false

def lineOf : List Str → Str × List Str × Int
  | [] => ([], [], 3)
  | x :: l => if 2000 < x.length then ([], [], 2) else (x, l, 0)
/-- A row of texts that stands, below B. -/
def InR (w : World) (B : Nat) (l : List Str) (i : Value) : Prop := ∃ A c, i = .slice A l.length c ∧ (l.length ≤ c ∧ c ≤ maxLen) ∧ Rd w 1 A l.length (strs l) ∧ (0 < l.length → ∀ a, A = some a → a.block < B)
theorem InR.nil (w : World) (B : Nat) : InR w B [] (.slice none 0 0) := ⟨none, 0, rfl, ⟨Nat.le_refl 0, by decide⟩, Rd.nil w 1 none, fun h => absurd h (Nat.lt_irrefl 0)⟩
theorem InR.below {w w' : World} {B : Nat} {l : List Str} {i : Value} (h : InR w B l i) (hb : Below w.heap.size w w') : InR w' B l i := by
  obtain ⟨A, c, h1, h2, h3, h4⟩ := h
  exact ⟨A, c, h1, h2, h3.below hb, h4⟩
set_option maxHeartbeats 2000000 in
theorem line_any (w : World) (B : Nat) (l : List Str) (i : Value) (h : InR w B l i) (hl : l.length ≤ 100000000000) : Calls Tryz.prog 57 #[i] w fun e w' => ∃ i', e = .returned (.tuple #[.string (bstr (lineOf l).1), i', .int .i64 (lineOf l).2.2]) ∧ InR w B (lineOf l).2.1 i' ∧ Below w.heap.size w w' := by
  obtain ⟨A, c, rfl, hc, hr, hb⟩ := h
  cases l with
  | nil =>
    have HI := Lib.hid (InR.nil w B)
    clear hr hb
    go_enter Tryz.func57, Tryz.ntmps57
    go_wp2_with fail
    go_returns
    exact ⟨_, rfl, HI.out, Below.refl _ _⟩
  | cons x l =>
    obtain ⟨b, o, rfl, hbl, hcell⟩ := hr.base (by rw [strs_length]; exact Nat.succ_pos _)
    have c0 := hcell 0 _ (strs_at (x :: l) 0 (Nat.succ_pos _))
    rw [Nat.add_zero] at c0
    simp only [List.getElem_cons_zero] at c0
    have n0 : ¬ ((l.length : Int) + 1 = 0) := by omega
    have n1 : (0 : Int) < (l.length : Int) + 1 := by omega
    have n2 : (1 : Int) ≤ (l.length : Int) + 1 := by omega
    have hrr := hr.from_ (lo := 1) (by simp only [List.length_cons]; omega) hc.1 (k := 1) rfl
    rw [strs_drop] at hrr
    have hin : InR w B l (.slice (if c = 1 then some ⟨b, o, none⟩ else some ⟨b, o + 1, none⟩) l.length (c - 1)) := by
      refine ⟨_, _, rfl, ⟨by have := hc.1; simp only [List.length_cons] at this; omega, by have := hc.2; omega⟩, ?_, fun _ a ha => ?_⟩
      · simpa [Addr.add_lit] using hrr
      · have hB := hb (by simp only [List.length_cons]; omega) _ rfl
        split at ha <;> (cases ha; exact hB)
    by_cases hx : 2000 < x.length
    · have HI := Lib.hid (InR.nil w B)
      have hE : lineOf (x :: l) = ([], [], 2) := by show (if 2000 < x.length then _ else _) = _; rw [if_pos hx]
      rw [hE]
      have hx1 : (2000 : Int) < ((bstr x).size : Int) := by rw [bstr_size]; omega
      clear hr hb hcell hE hrr hin
      go_enter Tryz.func57, Tryz.ntmps57
      go_wp2_with fail
      go_returns
      exact ⟨_, rfl, HI.out, Below.refl _ _⟩
    · have hE : lineOf (x :: l) = (x, l, 0) := by show (if 2000 < x.length then _ else _) = _; rw [if_neg hx]
      rw [hE]
      have hx1 : ¬ (2000 : Int) < ((bstr x).size : Int) := by rw [bstr_size]; omega
      by_cases hc1 : c = 1
      · rw [if_pos hc1] at hin
        subst hc1
        have HI := Lib.hid hin
        clear hr hb hcell hE hrr hin
        go_enter Tryz.func57, Tryz.ntmps57
        go_upto_region 5 with fail
        go_region_law fail
        all_goals
          go_wp2_with fail
          go_returns
          exact ⟨_, rfl, HI.out, (Below.refl _ _).drew⟩
      · rw [if_neg hc1] at hin
        have HI := Lib.hid hin
        clear hr hb hcell hE hrr hin
        go_enter Tryz.func57, Tryz.ntmps57
        go_upto_region 5 with fail
        go_region_law fail
        all_goals
          go_wp2_with fail
          go_returns
          exact ⟨_, rfl, HI.out, (Below.refl _ _).drew⟩
section
variable {w0 w : World} {B mb : Nat} {s : St} {t i r v f nx nm : Value} {rcs vcs fcs : List (List Value)}
def St.read (s : St) : St := St.tell { s with input := (lineOf s.input).2.1 } (.mk 2 0 (lineOf s.input).1 [] none) (lineOf s.input).2.2 true
set_option maxHeartbeats 2000000 in
theorem read_any (h : Rep w0 B mb s w t i r v f nx nm rcs vcs fcs) (hv : s.vals.length ≤ 100000000000) (hl : s.input.length ≤ 100000000000) :
    Calls Tryz.prog 46 #[.pointer (some ⟨mb, 0, none⟩)] w fun e w' => e = .returned (.tuple #[]) ∧ Post w0 B mb (Mv mb t r v f) w s.read w' := by
  have HC := Lib.hid (line_any w B s.input i h.inp hl)
  have c4 := (cells11 h.hd).2.2.2.2.1
  have HH := Lib.hid h
  have HV := Lib.hid hv
  have HBM := Lib.hid (fun (wr : World) (hb : Below w.heap.size w wr) => And.intro (Tr.below (P := Mv mb t r v f) hb) (hb.mono (Nat.le_of_lt (Nat.lt_of_le_of_lt h.base.2 h.lt))))
  clear h hl hv
  go_enter Tryz.func46, Tryz.ntmps46
  go_wp2_with (first
    | (go_at_call 57; (with_reducible refine HC.out.mono ?_); rintro e1 w1 ⟨i', rfl, hi0, hb1⟩; obtain ⟨A9, c9, rfl, hq1, hq2, hq3⟩ := hi0; have hi' := InR.below ⟨A9, c9, rfl, hq1, hq2, hq3⟩ hb1; have HB := Lib.hid hb1; have HS := Lib.hid ((HH.out.below hb1).set1 (s' := { s with input := (lineOf s.input).2.1 }) 4 (.slice A9 (lineOf s.input).2.1.length c9) rfl ⟨rfl, rfl, rfl, rfl⟩ hi' (HH.out.nxt.keep (Tr.below hb1))); have d4 := (cells11 (HH.out.below hb1).hd).2.2.2.2.1; have e4 := frozenN (HH.out.below hb1).hd 4; have HT := Lib.hid (tellF_any HS.out.1 HV.out (.mk 2 0 (lineOf s.input).1 [] none) none 0 none (lineOf s.input).2.2 true (fun _ _ => plain_vr w0 _ _ 2 0 (lineOf s.input).1)); clear hi' hq1 hq2 hq3 hb1)
    | (go_at_call 58; (refine HT.out.mono ?_); rintro e1 w2 ⟨rfl, hp⟩; have HP := Lib.hid hp; clear hp HT))
  go_returns
  exact ⟨rfl, (HP.out.mono HS.out.2.1 HS.out.2.2).mono (HBM.out _ HB.out).1 (HBM.out _ HB.out).2⟩
end
end Go.Proofs.YtpdfjdomjklkbaaGreatDoor

namespace Go.Proofs.YtpdfjdomjklkbaaGreatDoor
open Go.ChangeShapes Go.WideShapes Go.ChangeAt Go.RowKit Go.Sort
set_option linter.unusedVariables false
set_option linter.unusedSimpArgs false

theorem VR.ones {w0 w : World} {P : Nat → Prop} {z : Val} {cs : List Value} (h : VR w0 w P z cs) : ∀ u ∈ cs, u.oneCell' = true := by
  obtain ⟨A, c, q, rfl⟩ := h.six
  intro u hu
  simp at hu
  rcases hu with rfl | rfl | rfl | rfl | rfl | rfl <;> rfl
theorem vrs_ones {w0 w : World} {P : Nat → Prop} {l : List Val} {css : List (List Value)} (h : LR (VR w0 w P) l css) : ∀ u ∈ css.flatten, u.oneCell' = true := by
  intro u hu
  obtain ⟨c, hc, hu⟩ := List.mem_flatten.1 hu
  obtain ⟨j, hj, e⟩ := List.getElem_of_mem hc
  exact (h.at_ j _ c (List.getElem?_eq_getElem (by rw [← h.len]; exact hj)) (by rw [List.getElem?_eq_getElem hj, e])).ones u hu
theorem vnil_yes (n c : Nat) (w : World) : (binOp .eql 57 (.slice none n c) (.slice none 0 0)).run Tryz.prog w = .ok (.bool true) w := by kernel_rfl
theorem vnil_no (a : Addr) (n c : Nat) (w : World) : (binOp .eql 57 (.slice (some a) n c) (.slice none 0 0)).run Tryz.prog w = .ok (.bool false) w := by kernel_rfl
/-- Values side by side, anywhere. -/
structure Vs (w0 w : World) (P : Nat → Prop) (l : List Val) (A : Option Addr) (css : List (List Value)) : Prop where
  rd : Rd w 6 A l.length css.flatten
  lr : LR (VR w0 w P) l css
theorem Vs.below {w0 w w' : World} {P : Nat → Prop} {l : List Val} {A : Option Addr} {css : List (List Value)} (h : Vs w0 w P l A css) (hb : Below w.heap.size w w') : Vs w0 w' P l A css := ⟨h.rd.below hb, h.lr.imp (fun a c => VR.keep (Tr.below hb))⟩
/-- A tuple of values that stand. -/
theorem Vs.vr {w0 w : World} {P : Nat → Prop} {l : List Val} {A : Option Addr} {css : List (List Value)} (h : Vs w0 w P l A css) (hP : 0 < l.length → ∀ a, A = some a → P a.block) {c : Nat} (hc : l.length ≤ c ∧ c ≤ maxLen) (sort n : Int) (s : Str) :
    VR w0 w P (.mk sort n s l none) [.int .i64 sort, .int .i64 n, .string (bstr s), .slice none 0 0, .slice A l.length c, .pointer none] :=
  .mk sort n s l none A c css _ h.lr.len h.rd hP hc (fun i v cs h1 h2 => h.lr.at_ i v cs h1 h2) .none
set_option maxRecDepth 100000 in
set_option maxHeartbeats 1000000 in
theorem vclone_any (w0 w : World) (P : Nat → Prop) (A : Option Addr) (l : List Val) (css : List (List Value)) (c : Nat) (h : Vs w0 w P l A css) (hm : l.length ≤ 100000000000) :
    Calls Tryz.prog 79 #[.slice A l.length c] w fun e w' => ∃ A' c', e = .returned (.slice A' l.length c') ∧ Vs w0 w' P l A' css ∧ (0 < l.length → ∀ a, A' = some a → w.heap.size ≤ a.block) ∧ (l.length ≤ c' ∧ c' ≤ maxLen) ∧ Below w.heap.size w w' := by
  have HR := Lib.hid h
  have HM := Lib.hid hm
  have q1 := vnil_yes
  have q2 := vnil_no
  cases A with
  | none =>
    have hn : l.length = 0 := by
      rcases Nat.eq_zero_or_pos l.length with q | q
      · exact q
      · obtain ⟨a, e, _⟩ := h.rd.addr (by rw [h.rd.1]; omega)
        cases e
    clear h hm
    go_enter Tryz.func79, Tryz.ntmps79
    go_wp2_with fail
    go_returns
    exact ⟨none, 0, by rw [hn]; rfl, HR.out, fun h => absurd h (by omega), ⟨by omega, by simp [maxLen]⟩, Below.refl _ _⟩
  | some a =>
    clear h hm
    have HO := Lib.hid (vrs_ones HR.out.lr)
    have HRD := Lib.hid (HR.out.rd.alloc (.cells #[] 60))
    go_enter Tryz.func79, Tryz.ntmps79
    have HOW := Lib.hid (World.ownsRow_made (base := w.heap.size) (e := 60) (size := 6) w #[] 0 (Nat.le_refl _) (by simp [maxLen]) rfl)
    go_wp2_with (at_builtin; refine wpList_app elVal _ rfl (.tmp 5) (.tmp 6) rfl w.heap.size (.slice (some ⟨w.heap.size, 0, none⟩) 0 0) 0 [] rfl HOW.out (some a) l.length c _ rfl HRD.out HO.out (by have := HM.out; omega) (by simp) ?_; intro v6 w6 hown6 hb6 hg6 hat6; rw [Nat.zero_add] at hown6; rw [List.nil_append] at hown6; obtain ⟨A6, c6, hv6, hnc6, hcm6, _⟩ := own_cap hown6; rw [hv6] at hown6 hat6 ⊢; clear hv6)
    go_returns
    have hbb : Below w.heap.size w w6 := ((Below.refl w.heap.size w).alloc (Nat.le_refl _) _).trans hb6
    refine ⟨A6, c6, rfl, ⟨Rd.of_own hown6, HR.out.lr.imp (fun a c => VR.keep (Tr.below hbb))⟩, ?_, ⟨by assumption, by assumption⟩, hbb⟩
    intro _ a' ha'
    subst ha'
    exact (hown6.lt a'.block rfl).1
/-- Six cells of a block of its own, written. -/
theorem own_block6 {w w1 : World} {g : Nat} {x0 x1 x2 x3 x4 x5 : Value} {T : TypeId} (h : w1.heap[g]? = some (.cells #[x0, x1, x2, x3, x4, x5] T)) (a0 a1 a2 a3 a4 a5 : Value) (hb : Below w.heap.size w w1) (hg : w.heap.size ≤ g) :
    ((((((w1.setCell ⟨g, 0, none⟩ a0).setCell ⟨g, 1, none⟩ a1).setCell ⟨g, 2, none⟩ a2).setCell ⟨g, 3, none⟩ a3).setCell ⟨g, 4, none⟩ a4).setCell ⟨g, 5, none⟩ a5).heap[g]? = some (.cells #[a0, a1, a2, a3, a4, a5] T) ∧
    Below w.heap.size w ((((((w1.setCell ⟨g, 0, none⟩ a0).setCell ⟨g, 1, none⟩ a1).setCell ⟨g, 2, none⟩ a2).setCell ⟨g, 3, none⟩ a3).setCell ⟨g, 4, none⟩ a4).setCell ⟨g, 5, none⟩ a5) ∧
    ∀ b, b ≠ g → ((((((w1.setCell ⟨g, 0, none⟩ a0).setCell ⟨g, 1, none⟩ a1).setCell ⟨g, 2, none⟩ a2).setCell ⟨g, 3, none⟩ a3).setCell ⟨g, 4, none⟩ a4).setCell ⟨g, 5, none⟩ a5).heap[b]? = w1.heap[b]? :=
  ⟨set_cells (set_cells (set_cells (set_cells (set_cells (set_cells h 0 a0) 1 a1) 2 a2) 3 a3) 4 a4) 5 a5,
    ((((((hb.setCell (p := ⟨g, 0, none⟩) hg a0).setCell (p := ⟨g, 1, none⟩) hg a1).setCell (p := ⟨g, 2, none⟩) hg a2).setCell (p := ⟨g, 3, none⟩) hg a3).setCell (p := ⟨g, 4, none⟩) hg a4).setCell (p := ⟨g, 5, none⟩) hg a5),
    fun b h => by rw [set_other _ _ _ _ h, set_other _ _ _ _ h, set_other _ _ _ _ h, set_other _ _ _ _ h, set_other _ _ _ _ h, set_other _ _ _ _ h]⟩
/-- What is read of them. -/
theorem reads_block6 {w1 : World} {g : Nat} {x0 x1 x2 x3 x4 x5 : Value} {T : TypeId} (h : w1.heap[g]? = some (.cells #[x0, x1, x2, x3, x4, x5] T)) (a0 a1 a2 a3 a4 a5 : Value) :
    (w1.setCell ⟨g, 0, none⟩ a0).cell? ⟨g, 0, none⟩ = some a0 ∧ ((w1.setCell ⟨g, 0, none⟩ a0).setCell ⟨g, 1, none⟩ a1).cell? ⟨g, 1, none⟩ = some a1 ∧ (((w1.setCell ⟨g, 0, none⟩ a0).setCell ⟨g, 1, none⟩ a1).setCell ⟨g, 2, none⟩ a2).cell? ⟨g, 2, none⟩ = some a2 ∧ ((((w1.setCell ⟨g, 0, none⟩ a0).setCell ⟨g, 1, none⟩ a1).setCell ⟨g, 2, none⟩ a2).setCell ⟨g, 3, none⟩ a3).cell? ⟨g, 3, none⟩ = some a3 ∧ (((((w1.setCell ⟨g, 0, none⟩ a0).setCell ⟨g, 1, none⟩ a1).setCell ⟨g, 2, none⟩ a2).setCell ⟨g, 3, none⟩ a3).setCell ⟨g, 4, none⟩ a4).cell? ⟨g, 4, none⟩ = some a4 ∧ ((((((w1.setCell ⟨g, 0, none⟩ a0).setCell ⟨g, 1, none⟩ a1).setCell ⟨g, 2, none⟩ a2).setCell ⟨g, 3, none⟩ a3).setCell ⟨g, 4, none⟩ a4).setCell ⟨g, 5, none⟩ a5).cell? ⟨g, 5, none⟩ = some a5 :=
  ⟨by rw [Lib.cell_of_heap (set_cells h 0 a0)]; rfl, by rw [Lib.cell_of_heap (set_cells (set_cells h 0 a0) 1 a1)]; rfl, by rw [Lib.cell_of_heap (set_cells (set_cells (set_cells h 0 a0) 1 a1) 2 a2)]; rfl, by rw [Lib.cell_of_heap (set_cells (set_cells (set_cells (set_cells h 0 a0) 1 a1) 2 a2) 3 a3)]; rfl, by rw [Lib.cell_of_heap (set_cells (set_cells (set_cells (set_cells (set_cells h 0 a0) 1 a1) 2 a2) 3 a3) 4 a4)]; rfl, by rw [Lib.cell_of_heap (set_cells (set_cells (set_cells (set_cells (set_cells (set_cells h 0 a0) 1 a1) 2 a2) 3 a3) 4 a4) 5 a5)]; rfl⟩
theorem tuple_ret {R : Ending → World → Prop} (W : World) (g : Nat) (x0 x1 x2 x3 x4 x5 u0 u1 u3 u4 u5 : Value) (h : W.heap[g]? = some (.cells #[x0, x1, x2, x3, x4, x5] 60)) (hR : R (.returned (.agg #[x0, x1, x2, x3, x4, x5])) W) :
    bodyPost Tryz.prog Tryz.f59 R Exit.ret ⟨#[u0, u1, .pointer (some ⟨g, 0, none⟩), u3, u4, u5], []⟩ W := by
  obtain ⟨b0, b1, b2, b3, b4, b5⟩ := cells6 h
  refine bodyPost_ret (by simp [results, Tryz.results59, go_sem, b0, b1, b2, b3, b4, b5]; try rfl) rfl ?_
  exact hR
set_option maxHeartbeats 1000000 in
theorem tuple_any (w0 w : World) (P : Nat → Prop) (hP : ∀ b, w.heap.size ≤ b → P b) (A : Option Addr) (l : List Val) (css : List (List Value)) (c : Nat) (h : Vs w0 w P l A css) (hm : l.length ≤ 100000000000) :
    Calls Tryz.prog 59 #[.slice A l.length c] w fun e w' => ∃ A' c', e = .returned (.agg #[.int .i64 4, .int .i64 0, .string ⟨#[]⟩, .slice none 0 0, .slice A' l.length c', .pointer none]) ∧ VR w0 w' P (.mk 4 0 [] l none) [.int .i64 4, .int .i64 0, .string (bstr []), .slice none 0 0, .slice A' l.length c', .pointer none] ∧ Below w.heap.size w w' := by
  have hb1 : Below w.heap.size w (w.alloc (.cells #[.int .i64 0, .int .i64 0, .string ⟨#[]⟩, .slice none 0 0, .slice none 0 0, .pointer none] 60)) := (Below.refl _ _).alloc (Nat.le_refl _) _
  have HC := Lib.hid (vclone_any w0 _ P A l css c (h.below hb1) hm)
  have HB := Lib.hid hb1
  have HP := Lib.hid hP
  have hx := heap_new (w := w) (o := .cells #[.int .i64 0, .int .i64 0, .string ⟨#[]⟩, .slice none 0 0, .slice none 0 0, .pointer none] 60) rfl
  have HX := Lib.hid hx
  have HL := Lib.hid h.lr
  clear h hm hb1 hP hx
  go_enter Tryz.func59, Tryz.ntmps59
  go_wp2_with (go_at_call 79; (with_reducible refine HC.out.mono ?_); rintro e1 w1 ⟨A', c', rfl, hv1, ha1, hc1, hb1⟩; have hx1 := (hb1.block _ (lt_of_heap HX.out)).trans HX.out; obtain ⟨a0, a1, a2, a3, a4, a5⟩ := cells6 hx1; have z0 := frozenN hx1 0; have z1 := frozenN hx1 1; have z2 := frozenN hx1 2; have z3 := frozenN hx1 3; have z4 := frozenN hx1 4; have z5 := frozenN hx1 5; obtain ⟨y1, y2, y3⟩ := own_block6 hx1 (.int .i64 4) (.int .i64 0) (.string ⟨#[]⟩) (.slice none 0 0) (.slice A' l.length c') (.pointer none) (below_then HB.out hb1) (Nat.le_refl _); have H2 := Lib.hid (And.intro y1 (And.intro y2 y3)); clear y1 y2 y3; have H1 := Lib.hid (And.intro hv1 (And.intro ha1 (And.intro hc1 hb1))); clear hv1 ha1 hc1 hb1 hx1)
  with_reducible refine tuple_ret _ _ _ _ _ _ _ _ _ _ _ _ _ H2.out.1 ?_
  refine ⟨A', c', rfl, ?_, H2.out.2.1⟩
  obtain ⟨hv1, ha1, hc1, hb1⟩ := H1.out
  have hrd := rd_keepP (P := fun b => w.heap.size + 1 ≤ b) hv1.rd (fun hn a ha => by have := ha1 hn a ha; rw [World.size_alloc] at this; exact this) (fun b hb _ => H2.out.2.2 b (by omega))
  refine Vs.vr ⟨hrd, HL.out.imp (fun a c => VR.keep (Tr.below H2.out.2.1))⟩ (fun hn a ha => HP.out _ ?_) hc1 4 0 []
  have := ha1 hn a ha
  rw [World.size_alloc] at this
  omega
end Go.Proofs.YtpdfjdomjklkbaaGreatDoor

namespace Go.Proofs.YtpdfjdomjklkbaaGreatDoor
open Go.ChangeShapes Go.WideShapes Go.ChangeAt Go.RowKit Go.Sort
set_option linter.unusedVariables false
set_option linter.unusedSimpArgs false

theorem bstr_app (a b : Str) : bstr a ++ bstr b = bstr (a ++ b) := by
  apply ByteArray.ext
  simp [bstr]
theorem bstr_get (a : Str) (k : Nat) (h : k < a.length) (h' : k < (bstr a).size) : (bstr a)[k] = a[k] := by
  show (bstr a).data[k] = _
  simp [bstr]
  rfl
theorem truth_any (w : World) (x : Bool) : Calls Tryz.prog 94 #[.bool x] w fun e w' => e = .returned (.int .i64 (if x = true then 1 else 0)) ∧ Below w.heap.size w w' := by
  cases x with
  | true =>
    go_enter Tryz.func94, Tryz.ntmps94
    go_wp2_with fail
    go_returns
    exact ⟨rfl, Below.refl _ _⟩
  | false =>
    go_enter Tryz.func94, Tryz.ntmps94
    go_wp2_with fail
    go_returns
    exact ⟨rfl, Below.refl _ _⟩
def joinOf (a b : Str) : Str × Int := if 2000 < a.length + b.length then ([], 2) else (a ++ b, 0)
set_option maxHeartbeats 1000000 in
theorem join_any (w : World) (a b : Str) (ha : a.length ≤ 4000000) (hb : b.length ≤ 4000000) : Calls Tryz.prog 82 #[.string (bstr a), .string (bstr b)] w fun e w' => e = .returned (.tuple #[.string (bstr (joinOf a b).1), .int .i64 (joinOf a b).2]) ∧ Below w.heap.size w w' := by
  have h1 : ((bstr a).size : Int) ≤ 4000000 := by rw [bstr_size]; omega
  have h2 : ((bstr b).size : Int) ≤ 4000000 := by rw [bstr_size]; omega
  by_cases h : 2000 < a.length + b.length
  · have e : joinOf a b = ([], 2) := by unfold joinOf; rw [if_pos h]
    have h3 : (2000 : Int) < ((bstr a).size : Int) + ((bstr b).size : Int) := by rw [bstr_size, bstr_size]; omega
    rw [e]
    clear e h
    go_enter Tryz.func82, Tryz.ntmps82
    go_wp2_with fail
    go_returns
    exact ⟨rfl, Below.refl _ _⟩
  · have e : joinOf a b = (a ++ b, 0) := by unfold joinOf; rw [if_neg h]
    have h3 : ¬ (2000 : Int) < ((bstr a).size : Int) + ((bstr b).size : Int) := by rw [bstr_size, bstr_size]; omega
    have h4 : (bstr a).size + (bstr b).size ≤ 2000 := by rw [bstr_size, bstr_size]; omega
    rw [e]
    clear e h
    go_enter Tryz.func82, Tryz.ntmps82
    go_wp2_with fail
    go_returns
    exact ⟨by rw [← bstr_app]; rfl, Below.refl _ _⟩
def byteOf (a : Str) (n : Int) : Int × Int := if n < 0 ∨ (a.length : Int) ≤ n then (0, 2) else (((a[n.toNat]?.getD 0).toNat : Int), 0)
set_option maxHeartbeats 1000000 in
theorem byte_any (w : World) (a : Str) (n : Int) (ha : a.length ≤ 4000000) : Calls Tryz.prog 83 #[.string (bstr a), .int .i64 n] w fun e w' => e = .returned (.tuple #[.int .i64 (byteOf a n).1, .int .i64 (byteOf a n).2]) ∧ Below w.heap.size w w' := by
  have h1 : ((bstr a).size : Int) ≤ 4000000 := by rw [bstr_size]; omega
  by_cases h : n < 0
  · have e : byteOf a n = (0, 2) := by unfold byteOf; rw [if_pos (.inl h)]
    rw [e]
    clear e
    go_enter Tryz.func83, Tryz.ntmps83
    go_wp2_with fail
    go_returns
    exact ⟨rfl, Below.refl _ _⟩
  · by_cases h' : (a.length : Int) ≤ n
    · have e : byteOf a n = (0, 2) := by unfold byteOf; rw [if_pos (.inr h')]
      have h3 : ((bstr a).size : Int) ≤ n := by rw [bstr_size]; omega
      rw [e]
      clear e
      go_enter Tryz.func83, Tryz.ntmps83
      go_wp2_with fail
      go_returns
      exact ⟨rfl, Below.refl _ _⟩
    · have e : byteOf a n = (((a[n.toNat]?.getD 0).toNat : Int), 0) := by unfold byteOf; rw [if_neg (by intro h; rcases h with h | h <;> contradiction)]
      have h3 : ¬ ((bstr a).size : Int) ≤ n := by rw [bstr_size]; omega
      rw [e]
      clear e
      go_enter Tryz.func83, Tryz.ntmps83
      go_wp2_with fail
      go_returns
      refine ⟨?_, Below.refl _ _⟩
      have hk : n.toNat < a.length := by omega
      rw [bstr_get a _ hk, IntWalk.wrap64_in _ (by have := (a[n.toNat]).toNat_lt; omega), List.getElem?_eq_getElem hk]
      rfl
/-- What an operator makes of two integers: the number, the fault, whether there is such an operator. -/
def intsOf (s : Str) (a b : Int) : Int × Int × Bool :=
  if s = [43] then (wrap64 (a + b), 0, true)
  else if s = [45] then (wrap64 (a - b), 0, true)
  else if s = [42] then (wrap64 (a * b), 0, true)
  else if s = [47] then (if b = 0 then (0, 1, true) else (wrap64 (a.tdiv b), 0, true))
  else if s = [60] then ((if a < b then 1 else 0), 0, true)
  else if s = [61, 61] then ((if a = b then 1 else 0), 0, true)
  else (0, 0, false)
theorem eqStr (s t : Str) : ((bstr s).toList == (bstr t).toList) = decide (s = t) := by rw [bstr_toList, bstr_toList]; by_cases h : s = t <;> simp [h]
set_option maxHeartbeats 4000000 in
theorem ints_any (w : World) (s : Str) (a b : Int) (ha : -9223372036854775808 ≤ a ∧ a ≤ 9223372036854775807) (hb : -9223372036854775808 ≤ b ∧ b ≤ 9223372036854775807) : Calls Tryz.prog 84 #[.string (bstr s), .int .i64 a, .int .i64 b] w fun e w' => e = .returned (.tuple #[.int .i64 (intsOf s a b).1, .int .i64 (intsOf s a b).2.1, .bool (intsOf s a b).2.2]) ∧ Below w.heap.size w w' := by
  by_cases h0 : s = [43]
  · subst h0
    have e : intsOf [43] a b = (wrap64 (a + b), 0, true) := by rfl
    rw [e]
    clear e
    have f0 : ((bstr [43]).toList == [43]) = true := by rw [bstr_toList]; rfl
    have f1 : ((bstr [43]).toList == [45]) = false := by rw [bstr_toList]; rfl
    have f2 : ((bstr [43]).toList == [42]) = false := by rw [bstr_toList]; rfl
    have f3 : ((bstr [43]).toList == [47]) = false := by rw [bstr_toList]; rfl
    have f4 : ((bstr [43]).toList == [60]) = false := by rw [bstr_toList]; rfl
    have f5 : ((bstr [43]).toList == [61, 61]) = false := by rw [bstr_toList]; rfl
    go_enter Tryz.func84, Tryz.ntmps84
    go_wp2_with fail
    go_returns
    exact ⟨rfl, Below.refl _ _⟩
  by_cases h1 : s = [45]
  · subst h1
    have e : intsOf [45] a b = (wrap64 (a - b), 0, true) := by rfl
    rw [e]
    clear e
    have f0 : ((bstr [45]).toList == [43]) = false := by rw [bstr_toList]; rfl
    have f1 : ((bstr [45]).toList == [45]) = true := by rw [bstr_toList]; rfl
    have f2 : ((bstr [45]).toList == [42]) = false := by rw [bstr_toList]; rfl
    have f3 : ((bstr [45]).toList == [47]) = false := by rw [bstr_toList]; rfl
    have f4 : ((bstr [45]).toList == [60]) = false := by rw [bstr_toList]; rfl
    have f5 : ((bstr [45]).toList == [61, 61]) = false := by rw [bstr_toList]; rfl
    go_enter Tryz.func84, Tryz.ntmps84
    go_wp2_with fail
    go_returns
    exact ⟨rfl, Below.refl _ _⟩
  by_cases h2 : s = [42]
  · subst h2
    have e : intsOf [42] a b = (wrap64 (a * b), 0, true) := by rfl
    rw [e]
    clear e
    have f0 : ((bstr [42]).toList == [43]) = false := by rw [bstr_toList]; rfl
    have f1 : ((bstr [42]).toList == [45]) = false := by rw [bstr_toList]; rfl
    have f2 : ((bstr [42]).toList == [42]) = true := by rw [bstr_toList]; rfl
    have f3 : ((bstr [42]).toList == [47]) = false := by rw [bstr_toList]; rfl
    have f4 : ((bstr [42]).toList == [60]) = false := by rw [bstr_toList]; rfl
    have f5 : ((bstr [42]).toList == [61, 61]) = false := by rw [bstr_toList]; rfl
    go_enter Tryz.func84, Tryz.ntmps84
    go_wp2_with fail
    go_returns
    exact ⟨rfl, Below.refl _ _⟩
  by_cases h3 : s = [47]
  · subst h3
    by_cases hb0 : b = 0
    · subst hb0
      have e : intsOf [47] a 0 = (0, 1, true) := by rfl
      rw [e]
      clear e
      have f0 : ((bstr [47]).toList == [43]) = false := by rw [bstr_toList]; rfl
      have f1 : ((bstr [47]).toList == [45]) = false := by rw [bstr_toList]; rfl
      have f2 : ((bstr [47]).toList == [42]) = false := by rw [bstr_toList]; rfl
      have f3 : ((bstr [47]).toList == [47]) = true := by rw [bstr_toList]; rfl
      have f4 : ((bstr [47]).toList == [60]) = false := by rw [bstr_toList]; rfl
      have f5 : ((bstr [47]).toList == [61, 61]) = false := by rw [bstr_toList]; rfl
      go_enter Tryz.func84, Tryz.ntmps84
      go_wp2_with fail
      go_returns
      exact ⟨rfl, Below.refl _ _⟩
    · have e : intsOf [47] a b = (wrap64 (a.tdiv b), 0, true) := by show (if b = 0 then _ else _) = _; rw [if_neg hb0]
      rw [e]
      clear e
      have f0 : ((bstr [47]).toList == [43]) = false := by rw [bstr_toList]; rfl
      have f1 : ((bstr [47]).toList == [45]) = false := by rw [bstr_toList]; rfl
      have f2 : ((bstr [47]).toList == [42]) = false := by rw [bstr_toList]; rfl
      have f3 : ((bstr [47]).toList == [47]) = true := by rw [bstr_toList]; rfl
      have f4 : ((bstr [47]).toList == [60]) = false := by rw [bstr_toList]; rfl
      have f5 : ((bstr [47]).toList == [61, 61]) = false := by rw [bstr_toList]; rfl
      go_enter Tryz.func84, Tryz.ntmps84
      go_wp2_with fail
      go_returns
      exact ⟨rfl, Below.refl _ _⟩
  by_cases h4 : s = [60]
  · subst h4
    have e : intsOf [60] a b = ((if a < b then 1 else 0), 0, true) := by rfl
    rw [e]
    clear e
    have f0 : ((bstr [60]).toList == [43]) = false := by rw [bstr_toList]; rfl
    have f1 : ((bstr [60]).toList == [45]) = false := by rw [bstr_toList]; rfl
    have f2 : ((bstr [60]).toList == [42]) = false := by rw [bstr_toList]; rfl
    have f3 : ((bstr [60]).toList == [47]) = false := by rw [bstr_toList]; rfl
    have f4 : ((bstr [60]).toList == [60]) = true := by rw [bstr_toList]; rfl
    have f5 : ((bstr [60]).toList == [61, 61]) = false := by rw [bstr_toList]; rfl
    have HC := Lib.hid (fun (x : Bool) (w : World) => truth_any w x)
    go_enter Tryz.func84, Tryz.ntmps84
    go_wp2_with (go_at_call 94; (with_reducible refine (HC.out _ _).mono ?_); rintro e1 w1 ⟨rfl, hb1⟩; clear HC)
    all_goals
      go_returns
      exact ⟨by simp [*], hb1⟩
  by_cases h5 : s = [61, 61]
  · subst h5
    have e : intsOf [61, 61] a b = ((if a = b then 1 else 0), 0, true) := by rfl
    rw [e]
    clear e
    have f0 : ((bstr [61, 61]).toList == [43]) = false := by rw [bstr_toList]; rfl
    have f1 : ((bstr [61, 61]).toList == [45]) = false := by rw [bstr_toList]; rfl
    have f2 : ((bstr [61, 61]).toList == [42]) = false := by rw [bstr_toList]; rfl
    have f3 : ((bstr [61, 61]).toList == [47]) = false := by rw [bstr_toList]; rfl
    have f4 : ((bstr [61, 61]).toList == [60]) = false := by rw [bstr_toList]; rfl
    have f5 : ((bstr [61, 61]).toList == [61, 61]) = true := by rw [bstr_toList]; rfl
    have HC := Lib.hid (fun (x : Bool) (w : World) => truth_any w x)
    go_enter Tryz.func84, Tryz.ntmps84
    go_wp2_with (go_at_call 94; (with_reducible refine (HC.out _ _).mono ?_); rintro e1 w1 ⟨rfl, hb1⟩; clear HC)
    all_goals
      go_returns
      exact ⟨by simp [*], hb1⟩
  have e : intsOf s a b = (0, 0, false) := by unfold intsOf; rw [if_neg h0, if_neg h1, if_neg h2, if_neg h3, if_neg h4, if_neg h5]
  rw [e]
  clear e
  have f0 : ((bstr s).toList == [43]) = false := by rw [bstr_toList]; simpa using h0
  have f1 : ((bstr s).toList == [45]) = false := by rw [bstr_toList]; simpa using h1
  have f2 : ((bstr s).toList == [42]) = false := by rw [bstr_toList]; simpa using h2
  have f3 : ((bstr s).toList == [47]) = false := by rw [bstr_toList]; simpa using h3
  have f4 : ((bstr s).toList == [60]) = false := by rw [bstr_toList]; simpa using h4
  have f5 : ((bstr s).toList == [61, 61]) = false := by rw [bstr_toList]; simpa using h5
  go_enter Tryz.func84, Tryz.ntmps84
  go_wp2_with fail
  go_returns
  exact ⟨rfl, Below.refl _ _⟩
end Go.Proofs.YtpdfjdomjklkbaaGreatDoor

namespace Go.Proofs.YtpdfjdomjklkbaaGreatDoor
open Go.ChangeShapes Go.WideShapes Go.ChangeAt Go.RowKit Go.Sort
set_option linter.unusedVariables false
set_option linter.unusedSimpArgs false

def St.oper (s : St) (o : Str) (x y : Val) : St :=
  if o = [94] ∧ x.sort = 2 ∧ y.sort = 2 then s.tell (.mk 2 0 (joinOf x.s y.s).1 [] none) (joinOf x.s y.s).2 true
  else if o = [35] ∧ x.sort = 2 ∧ y.sort = 1 then s.tell (.mk 1 (byteOf x.s y.n).1 [] [] none) (byteOf x.s y.n).2 true
  else if x.sort = 1 ∧ y.sort = 1 then s.tell (.mk 1 (intsOf o x.n y.n).1 [] [] none) (intsOf o x.n y.n).2.1 (intsOf o x.n y.n).2.2
  else s.tell (.mk 1 0 [] [] none) 0 false
section
variable {w0 w : World} {B mb : Nat} {s : St} {t i r v f nx nm : Value} {rcs vcs fcs : List (List Value)}
/-- A value without parts is told, or a fault. -/
theorem tellG_any (h : Rep w0 B mb s w t i r v f nx nm rcs vcs fcs) (hn : s.vals.length ≤ 100000000000) (sort n : Int) (st : Str) (k : Int) (is : Bool) :
    Calls Tryz.prog 58 #[.pointer (some ⟨mb, 0, none⟩), .agg #[.int .i64 sort, .int .i64 n, .string (bstr st), .slice none 0 0, .slice none 0 0, .pointer none], .int .i64 k, .bool is] w fun e w' => e = .returned (.tuple #[]) ∧ Post w0 B mb (Mv mb t r v f) w (s.tell (.mk sort n st [] none) k is) w' :=
  tellF_any h hn (.mk sort n st [] none) none 0 none k is (fun _ _ => plain_vr w0 w _ sort n st)
theorem tellH_any (h : Rep w0 B mb s w t i r v f nx nm rcs vcs fcs) (hn : s.vals.length ≤ 100000000000) (sort n : Int) (k : Int) (is : Bool) :
    Calls Tryz.prog 58 #[.pointer (some ⟨mb, 0, none⟩), .agg #[.int .i64 sort, .int .i64 n, .string ⟨#[]⟩, .slice none 0 0, .slice none 0 0, .pointer none], .int .i64 k, .bool is] w fun e w' => e = .returned (.tuple #[]) ∧ Post w0 B mb (Mv mb t r v f) w (s.tell (.mk sort n [] [] none) k is) w' :=
  tellG_any h hn sort n [] k is
set_option maxHeartbeats 4000000 in
theorem operJ_any (h : Rep w0 B mb s w t i r v f nx nm rcs vcs fcs) (hn : s.vals.length ≤ 100000000000) (o : Str) (x y : Val) (A : Option Addr) (c : Nat) (p : Option Addr) (A6 : Option Addr) (k6 : Nat) (q6 : Option Addr) (ho : o = [94]) (hx : x.sort = 2) (hy : y.sort = 2) (h1 : x.s.length ≤ 4000000) (h2 : y.s.length ≤ 4000000) :
    Calls Tryz.prog 62 #[.pointer (some ⟨mb, 0, none⟩), .string (bstr o), .agg #[.int .i64 x.sort, .int .i64 x.n, .string (bstr x.s), .slice none 0 0, .slice A x.l.length c, .pointer p], .agg #[.int .i64 y.sort, .int .i64 y.n, .string (bstr y.s), .slice none 0 0, .slice A6 y.l.length k6, .pointer q6]] w fun e w' => e = .returned (.tuple #[]) ∧ Post w0 B mb (Mv mb t r v f) w (s.oper o x y) w' := by
  have e : s.oper o x y = s.tell (.mk 2 0 (joinOf x.s y.s).1 [] none) (joinOf x.s y.s).2 true := by unfold St.oper; rw [if_pos ⟨ho, hx, hy⟩]
  rw [e, hx, hy]
  subst ho
  clear e hx hy
  have hb1 : Below w.heap.size w (w.alloc (.cells #[.int .i64 2, .int .i64 x.n, .string (bstr x.s), .slice none 0 0, .slice A x.l.length c, .pointer p] 60)) := (Below.refl _ _).alloc (Nat.le_refl _) _
  have hb2 : Below w.heap.size w ((w.alloc (.cells #[.int .i64 2, .int .i64 x.n, .string (bstr x.s), .slice none 0 0, .slice A x.l.length c, .pointer p] 60)).alloc (.cells #[.int .i64 2, .int .i64 y.n, .string (bstr y.s), .slice none 0 0, .slice A6 y.l.length k6, .pointer q6] 60)) := hb1.alloc (by rw [World.size_alloc]; omega) _
  have hb3 : Below w.heap.size w (((w.alloc (.cells #[.int .i64 2, .int .i64 x.n, .string (bstr x.s), .slice none 0 0, .slice A x.l.length c, .pointer p] 60)).alloc (.cells #[.int .i64 2, .int .i64 y.n, .string (bstr y.s), .slice none 0 0, .slice A6 y.l.length k6, .pointer q6] 60)).alloc (.cells #[.int .i64 2, .int .i64 0, .string ⟨#[]⟩, .slice none 0 0, .slice none 0 0, .pointer none] 60)) := hb2.alloc (by rw [World.size_alloc, World.size_alloc]; omega) _
  have s2 : ((w.alloc (.cells #[.int .i64 2, .int .i64 x.n, .string (bstr x.s), .slice none 0 0, .slice A x.l.length c, .pointer p] 60)).alloc (.cells #[.int .i64 2, .int .i64 y.n, .string (bstr y.s), .slice none 0 0, .slice A6 y.l.length k6, .pointer q6] 60)).heap.size = w.heap.size + 2 := by rw [World.size_alloc, World.size_alloc]
  have hX0 : (((w.alloc (.cells #[.int .i64 2, .int .i64 x.n, .string (bstr x.s), .slice none 0 0, .slice A x.l.length c, .pointer p] 60)).alloc (.cells #[.int .i64 2, .int .i64 y.n, .string (bstr y.s), .slice none 0 0, .slice A6 y.l.length k6, .pointer q6] 60)).alloc (.cells #[.int .i64 2, .int .i64 0, .string ⟨#[]⟩, .slice none 0 0, .slice none 0 0, .pointer none] 60)).heap[w.heap.size]? = some (.cells #[.int .i64 2, .int .i64 x.n, .string (bstr x.s), .slice none 0 0, .slice A x.l.length c, .pointer p] 60) := (Below.heap_alloc _ _ _ (by rw [s2]; omega)).trans ((Below.heap_alloc _ _ _ (by rw [World.size_alloc]; omega)).trans (heap_new rfl))
  have hX1 : (((w.alloc (.cells #[.int .i64 2, .int .i64 x.n, .string (bstr x.s), .slice none 0 0, .slice A x.l.length c, .pointer p] 60)).alloc (.cells #[.int .i64 2, .int .i64 y.n, .string (bstr y.s), .slice none 0 0, .slice A6 y.l.length k6, .pointer q6] 60)).alloc (.cells #[.int .i64 2, .int .i64 0, .string ⟨#[]⟩, .slice none 0 0, .slice none 0 0, .pointer none] 60)).heap[w.heap.size + 1]? = some (.cells #[.int .i64 2, .int .i64 y.n, .string (bstr y.s), .slice none 0 0, .slice A6 y.l.length k6, .pointer q6] 60) := (Below.heap_alloc _ _ _ (by rw [s2]; omega)).trans (heap_new (World.size_alloc _ _))
  have hX2 : (((w.alloc (.cells #[.int .i64 2, .int .i64 x.n, .string (bstr x.s), .slice none 0 0, .slice A x.l.length c, .pointer p] 60)).alloc (.cells #[.int .i64 2, .int .i64 y.n, .string (bstr y.s), .slice none 0 0, .slice A6 y.l.length k6, .pointer q6] 60)).alloc (.cells #[.int .i64 2, .int .i64 0, .string ⟨#[]⟩, .slice none 0 0, .slice none 0 0, .pointer none] 60)).heap[w.heap.size + 2]? = some (.cells #[.int .i64 2, .int .i64 0, .string ⟨#[]⟩, .slice none 0 0, .slice none 0 0, .pointer none] 60) := heap_new s2
  obtain ⟨a0, a1, a2, a3, a4, a5⟩ := cells6 hX0
  obtain ⟨d0, d1, d2, d3, d4, d5⟩ := cells6 hX1
  have HB3 := Lib.hid hb3
  have HX2 := Lib.hid hX2
  have HH := Lib.hid h
  have HN := Lib.hid hn
  have HBM := Lib.hid (fun (wr : World) (hb : Below w.heap.size w wr) => And.intro (Tr.below (P := Mv mb t r v f) hb) (hb.mono (Nat.le_of_lt (Nat.lt_of_le_of_lt h.base.2 h.lt))))
  have HC := Lib.hid (fun W => join_any W x.s y.s h1 h2)
  have f0 : ((bstr [94]).toList == [94]) = true := by rw [bstr_toList]; rfl
  clear h1 h2
  clear h hn hb1 hb2 hb3 hX0 hX1 hX2 s2
  go_enter Tryz.func62, Tryz.ntmps62
  go_wp2_with (first | (go_at_call 82; (with_reducible refine (HC.out _).mono ?_); rintro e1 w1 ⟨rfl, hb1⟩; have hq := (hb1.block _ (lt_of_heap HX2.out)).trans HX2.out; obtain ⟨g0, g1, g2, g3, g4, g5⟩ := cells6 hq; have z2 := frozenN hq 2; have gs : (w1.setCell ⟨w.heap.size + 2, 2, none⟩ (.string (bstr (joinOf x.s y.s).1))).cell? ⟨w.heap.size + 2, 2, none⟩ = some (.string (bstr (joinOf x.s y.s).1)) := (by rw [Lib.cell_of_heap (set_cells hq 2 _)]; rfl); have hbw : Below w.heap.size w (w1.setCell ⟨w.heap.size + 2, 2, none⟩ (.string (bstr (joinOf x.s y.s).1))) := (below_then HB3.out hb1).setCell (p := ⟨w.heap.size + 2, 2, none⟩) (by show w.heap.size ≤ w.heap.size + 2; omega) _; have HBW := Lib.hid hbw; have HT := Lib.hid (tellG_any (HH.out.below hbw) HN.out 2 0 (joinOf x.s y.s).1 (joinOf x.s y.s).2 true); clear hb1 hq hbw HC) | (go_at_call 58; (with_reducible refine HT.out.mono ?_); rintro e1 w2 ⟨rfl, hp⟩; have HP := Lib.hid hp; clear hp HT))
  go_returns
  with_reducible exact ⟨rfl, HP.out.mono (HBM.out _ HBW.out).1 (HBM.out _ HBW.out).2⟩
set_option maxHeartbeats 4000000 in
theorem operB_any (h : Rep w0 B mb s w t i r v f nx nm rcs vcs fcs) (hn : s.vals.length ≤ 100000000000) (o : Str) (x y : Val) (A : Option Addr) (c : Nat) (p : Option Addr) (A6 : Option Addr) (k6 : Nat) (q6 : Option Addr) (ho : o = [35]) (hx : x.sort = 2) (hy : y.sort = 1) (h1 : x.s.length ≤ 4000000) :
    Calls Tryz.prog 62 #[.pointer (some ⟨mb, 0, none⟩), .string (bstr o), .agg #[.int .i64 x.sort, .int .i64 x.n, .string (bstr x.s), .slice none 0 0, .slice A x.l.length c, .pointer p], .agg #[.int .i64 y.sort, .int .i64 y.n, .string (bstr y.s), .slice none 0 0, .slice A6 y.l.length k6, .pointer q6]] w fun e w' => e = .returned (.tuple #[]) ∧ Post w0 B mb (Mv mb t r v f) w (s.oper o x y) w' := by
  have e : s.oper o x y = s.tell (.mk 1 (byteOf x.s y.n).1 [] [] none) (byteOf x.s y.n).2 true := by unfold St.oper; rw [if_neg (by rw [hy]; simp), if_pos ⟨ho, hx, hy⟩]
  rw [e, hx, hy]
  subst ho
  clear e hx hy
  have hb1 : Below w.heap.size w (w.alloc (.cells #[.int .i64 2, .int .i64 x.n, .string (bstr x.s), .slice none 0 0, .slice A x.l.length c, .pointer p] 60)) := (Below.refl _ _).alloc (Nat.le_refl _) _
  have hb2 : Below w.heap.size w ((w.alloc (.cells #[.int .i64 2, .int .i64 x.n, .string (bstr x.s), .slice none 0 0, .slice A x.l.length c, .pointer p] 60)).alloc (.cells #[.int .i64 1, .int .i64 y.n, .string (bstr y.s), .slice none 0 0, .slice A6 y.l.length k6, .pointer q6] 60)) := hb1.alloc (by rw [World.size_alloc]; omega) _
  have hb3 : Below w.heap.size w (((w.alloc (.cells #[.int .i64 2, .int .i64 x.n, .string (bstr x.s), .slice none 0 0, .slice A x.l.length c, .pointer p] 60)).alloc (.cells #[.int .i64 1, .int .i64 y.n, .string (bstr y.s), .slice none 0 0, .slice A6 y.l.length k6, .pointer q6] 60)).alloc (.cells #[.int .i64 1, .int .i64 0, .string ⟨#[]⟩, .slice none 0 0, .slice none 0 0, .pointer none] 60)) := hb2.alloc (by rw [World.size_alloc, World.size_alloc]; omega) _
  have s2 : ((w.alloc (.cells #[.int .i64 2, .int .i64 x.n, .string (bstr x.s), .slice none 0 0, .slice A x.l.length c, .pointer p] 60)).alloc (.cells #[.int .i64 1, .int .i64 y.n, .string (bstr y.s), .slice none 0 0, .slice A6 y.l.length k6, .pointer q6] 60)).heap.size = w.heap.size + 2 := by rw [World.size_alloc, World.size_alloc]
  have hX0 : (((w.alloc (.cells #[.int .i64 2, .int .i64 x.n, .string (bstr x.s), .slice none 0 0, .slice A x.l.length c, .pointer p] 60)).alloc (.cells #[.int .i64 1, .int .i64 y.n, .string (bstr y.s), .slice none 0 0, .slice A6 y.l.length k6, .pointer q6] 60)).alloc (.cells #[.int .i64 1, .int .i64 0, .string ⟨#[]⟩, .slice none 0 0, .slice none 0 0, .pointer none] 60)).heap[w.heap.size]? = some (.cells #[.int .i64 2, .int .i64 x.n, .string (bstr x.s), .slice none 0 0, .slice A x.l.length c, .pointer p] 60) := (Below.heap_alloc _ _ _ (by rw [s2]; omega)).trans ((Below.heap_alloc _ _ _ (by rw [World.size_alloc]; omega)).trans (heap_new rfl))
  have hX1 : (((w.alloc (.cells #[.int .i64 2, .int .i64 x.n, .string (bstr x.s), .slice none 0 0, .slice A x.l.length c, .pointer p] 60)).alloc (.cells #[.int .i64 1, .int .i64 y.n, .string (bstr y.s), .slice none 0 0, .slice A6 y.l.length k6, .pointer q6] 60)).alloc (.cells #[.int .i64 1, .int .i64 0, .string ⟨#[]⟩, .slice none 0 0, .slice none 0 0, .pointer none] 60)).heap[w.heap.size + 1]? = some (.cells #[.int .i64 1, .int .i64 y.n, .string (bstr y.s), .slice none 0 0, .slice A6 y.l.length k6, .pointer q6] 60) := (Below.heap_alloc _ _ _ (by rw [s2]; omega)).trans (heap_new (World.size_alloc _ _))
  have hX2 : (((w.alloc (.cells #[.int .i64 2, .int .i64 x.n, .string (bstr x.s), .slice none 0 0, .slice A x.l.length c, .pointer p] 60)).alloc (.cells #[.int .i64 1, .int .i64 y.n, .string (bstr y.s), .slice none 0 0, .slice A6 y.l.length k6, .pointer q6] 60)).alloc (.cells #[.int .i64 1, .int .i64 0, .string ⟨#[]⟩, .slice none 0 0, .slice none 0 0, .pointer none] 60)).heap[w.heap.size + 2]? = some (.cells #[.int .i64 1, .int .i64 0, .string ⟨#[]⟩, .slice none 0 0, .slice none 0 0, .pointer none] 60) := heap_new s2
  obtain ⟨a0, a1, a2, a3, a4, a5⟩ := cells6 hX0
  obtain ⟨d0, d1, d2, d3, d4, d5⟩ := cells6 hX1
  have HB3 := Lib.hid hb3
  have HX2 := Lib.hid hX2
  have HH := Lib.hid h
  have HN := Lib.hid hn
  have HBM := Lib.hid (fun (wr : World) (hb : Below w.heap.size w wr) => And.intro (Tr.below (P := Mv mb t r v f) hb) (hb.mono (Nat.le_of_lt (Nat.lt_of_le_of_lt h.base.2 h.lt))))
  have HC := Lib.hid (fun W => byte_any W x.s y.n h1)
  have f0 : ((bstr [35]).toList == [94]) = false := by rw [bstr_toList]; rfl
  have f1 : ((bstr [35]).toList == [35]) = true := by rw [bstr_toList]; rfl
  clear h1
  clear h hn hb1 hb2 hb3 hX0 hX1 hX2 s2
  go_enter Tryz.func62, Tryz.ntmps62
  go_wp2_with (first | (go_at_call 83; (with_reducible refine (HC.out _).mono ?_); rintro e1 w1 ⟨rfl, hb1⟩; have hq := (hb1.block _ (lt_of_heap HX2.out)).trans HX2.out; obtain ⟨g0, g1, g2, g3, g4, g5⟩ := cells6 hq; have z1 := frozenN hq 1; have gs : (w1.setCell ⟨w.heap.size + 2, 1, none⟩ (.int .i64 (byteOf x.s y.n).1)).cell? ⟨w.heap.size + 2, 1, none⟩ = some (.int .i64 (byteOf x.s y.n).1) := (by rw [Lib.cell_of_heap (set_cells hq 1 _)]; rfl); have hbw : Below w.heap.size w (w1.setCell ⟨w.heap.size + 2, 1, none⟩ (.int .i64 (byteOf x.s y.n).1)) := (below_then HB3.out hb1).setCell (p := ⟨w.heap.size + 2, 1, none⟩) (by show w.heap.size ≤ w.heap.size + 2; omega) _; have HBW := Lib.hid hbw; have HT := Lib.hid (tellH_any (HH.out.below hbw) HN.out 1 (byteOf x.s y.n).1 (byteOf x.s y.n).2 true); clear hb1 hq hbw HC) | (go_at_call 58; (with_reducible refine HT.out.mono ?_); rintro e1 w2 ⟨rfl, hp⟩; have HP := Lib.hid hp; clear hp HT))
  go_returns
  with_reducible exact ⟨rfl, HP.out.mono (HBM.out _ HBW.out).1 (HBM.out _ HBW.out).2⟩
set_option maxHeartbeats 4000000 in
theorem operI_any (h : Rep w0 B mb s w t i r v f nx nm rcs vcs fcs) (hn : s.vals.length ≤ 100000000000) (o : Str) (x y : Val) (A : Option Addr) (c : Nat) (p : Option Addr) (A6 : Option Addr) (k6 : Nat) (q6 : Option Addr) (hx : x.sort = 1) (hy : y.sort = 1) (h1 : -9223372036854775808 ≤ x.n ∧ x.n ≤ 9223372036854775807) (h2 : -9223372036854775808 ≤ y.n ∧ y.n ≤ 9223372036854775807) :
    Calls Tryz.prog 62 #[.pointer (some ⟨mb, 0, none⟩), .string (bstr o), .agg #[.int .i64 x.sort, .int .i64 x.n, .string (bstr x.s), .slice none 0 0, .slice A x.l.length c, .pointer p], .agg #[.int .i64 y.sort, .int .i64 y.n, .string (bstr y.s), .slice none 0 0, .slice A6 y.l.length k6, .pointer q6]] w fun e w' => e = .returned (.tuple #[]) ∧ Post w0 B mb (Mv mb t r v f) w (s.oper o x y) w' := by
  have e : s.oper o x y = s.tell (.mk 1 (intsOf o x.n y.n).1 [] [] none) (intsOf o x.n y.n).2.1 (intsOf o x.n y.n).2.2 := by unfold St.oper; rw [if_neg (by rw [hx]; simp), if_neg (by rw [hx]; simp), if_pos ⟨hx, hy⟩]
  rw [e, hx, hy]
  clear e hx hy
  have hb1 : Below w.heap.size w (w.alloc (.cells #[.int .i64 1, .int .i64 x.n, .string (bstr x.s), .slice none 0 0, .slice A x.l.length c, .pointer p] 60)) := (Below.refl _ _).alloc (Nat.le_refl _) _
  have hb2 : Below w.heap.size w ((w.alloc (.cells #[.int .i64 1, .int .i64 x.n, .string (bstr x.s), .slice none 0 0, .slice A x.l.length c, .pointer p] 60)).alloc (.cells #[.int .i64 1, .int .i64 y.n, .string (bstr y.s), .slice none 0 0, .slice A6 y.l.length k6, .pointer q6] 60)) := hb1.alloc (by rw [World.size_alloc]; omega) _
  have hb3 : Below w.heap.size w (((w.alloc (.cells #[.int .i64 1, .int .i64 x.n, .string (bstr x.s), .slice none 0 0, .slice A x.l.length c, .pointer p] 60)).alloc (.cells #[.int .i64 1, .int .i64 y.n, .string (bstr y.s), .slice none 0 0, .slice A6 y.l.length k6, .pointer q6] 60)).alloc (.cells #[.int .i64 1, .int .i64 0, .string ⟨#[]⟩, .slice none 0 0, .slice none 0 0, .pointer none] 60)) := hb2.alloc (by rw [World.size_alloc, World.size_alloc]; omega) _
  have s2 : ((w.alloc (.cells #[.int .i64 1, .int .i64 x.n, .string (bstr x.s), .slice none 0 0, .slice A x.l.length c, .pointer p] 60)).alloc (.cells #[.int .i64 1, .int .i64 y.n, .string (bstr y.s), .slice none 0 0, .slice A6 y.l.length k6, .pointer q6] 60)).heap.size = w.heap.size + 2 := by rw [World.size_alloc, World.size_alloc]
  have hX0 : (((w.alloc (.cells #[.int .i64 1, .int .i64 x.n, .string (bstr x.s), .slice none 0 0, .slice A x.l.length c, .pointer p] 60)).alloc (.cells #[.int .i64 1, .int .i64 y.n, .string (bstr y.s), .slice none 0 0, .slice A6 y.l.length k6, .pointer q6] 60)).alloc (.cells #[.int .i64 1, .int .i64 0, .string ⟨#[]⟩, .slice none 0 0, .slice none 0 0, .pointer none] 60)).heap[w.heap.size]? = some (.cells #[.int .i64 1, .int .i64 x.n, .string (bstr x.s), .slice none 0 0, .slice A x.l.length c, .pointer p] 60) := (Below.heap_alloc _ _ _ (by rw [s2]; omega)).trans ((Below.heap_alloc _ _ _ (by rw [World.size_alloc]; omega)).trans (heap_new rfl))
  have hX1 : (((w.alloc (.cells #[.int .i64 1, .int .i64 x.n, .string (bstr x.s), .slice none 0 0, .slice A x.l.length c, .pointer p] 60)).alloc (.cells #[.int .i64 1, .int .i64 y.n, .string (bstr y.s), .slice none 0 0, .slice A6 y.l.length k6, .pointer q6] 60)).alloc (.cells #[.int .i64 1, .int .i64 0, .string ⟨#[]⟩, .slice none 0 0, .slice none 0 0, .pointer none] 60)).heap[w.heap.size + 1]? = some (.cells #[.int .i64 1, .int .i64 y.n, .string (bstr y.s), .slice none 0 0, .slice A6 y.l.length k6, .pointer q6] 60) := (Below.heap_alloc _ _ _ (by rw [s2]; omega)).trans (heap_new (World.size_alloc _ _))
  have hX2 : (((w.alloc (.cells #[.int .i64 1, .int .i64 x.n, .string (bstr x.s), .slice none 0 0, .slice A x.l.length c, .pointer p] 60)).alloc (.cells #[.int .i64 1, .int .i64 y.n, .string (bstr y.s), .slice none 0 0, .slice A6 y.l.length k6, .pointer q6] 60)).alloc (.cells #[.int .i64 1, .int .i64 0, .string ⟨#[]⟩, .slice none 0 0, .slice none 0 0, .pointer none] 60)).heap[w.heap.size + 2]? = some (.cells #[.int .i64 1, .int .i64 0, .string ⟨#[]⟩, .slice none 0 0, .slice none 0 0, .pointer none] 60) := heap_new s2
  obtain ⟨a0, a1, a2, a3, a4, a5⟩ := cells6 hX0
  obtain ⟨d0, d1, d2, d3, d4, d5⟩ := cells6 hX1
  have HB3 := Lib.hid hb3
  have HX2 := Lib.hid hX2
  have HH := Lib.hid h
  have HN := Lib.hid hn
  have HBM := Lib.hid (fun (wr : World) (hb : Below w.heap.size w wr) => And.intro (Tr.below (P := Mv mb t r v f) hb) (hb.mono (Nat.le_of_lt (Nat.lt_of_le_of_lt h.base.2 h.lt))))
  have HC := Lib.hid (fun W => ints_any W o x.n y.n h1 h2)
  obtain ⟨b0, f0⟩ : ∃ b0, ((bstr o).toList == [94]) = b0 := ⟨_, rfl⟩
  obtain ⟨b1, f1⟩ : ∃ b1, ((bstr o).toList == [35]) = b1 := ⟨_, rfl⟩
  clear h1 h2
  clear h hn hb1 hb2 hb3 hX0 hX1 hX2 s2
  cases b0 <;> cases b1
  all_goals
    go_enter Tryz.func62, Tryz.ntmps62
    go_wp2_with (first | (go_at_call 84; (with_reducible refine (HC.out _).mono ?_); rintro e1 w1 ⟨rfl, hb1⟩; have hq := (hb1.block _ (lt_of_heap HX2.out)).trans HX2.out; obtain ⟨g0, g1, g2, g3, g4, g5⟩ := cells6 hq; have z1 := frozenN hq 1; have gs : (w1.setCell ⟨w.heap.size + 2, 1, none⟩ (.int .i64 (intsOf o x.n y.n).1)).cell? ⟨w.heap.size + 2, 1, none⟩ = some (.int .i64 (intsOf o x.n y.n).1) := (by rw [Lib.cell_of_heap (set_cells hq 1 _)]; rfl); have hbw : Below w.heap.size w (w1.setCell ⟨w.heap.size + 2, 1, none⟩ (.int .i64 (intsOf o x.n y.n).1)) := (below_then HB3.out hb1).setCell (p := ⟨w.heap.size + 2, 1, none⟩) (by show w.heap.size ≤ w.heap.size + 2; omega) _; have HBW := Lib.hid hbw; have HT := Lib.hid (tellH_any (HH.out.below hbw) HN.out 1 (intsOf o x.n y.n).1 (intsOf o x.n y.n).2.1 (intsOf o x.n y.n).2.2); clear hb1 hq hbw HC) | (go_at_call 58; (with_reducible refine HT.out.mono ?_); rintro e1 w2 ⟨rfl, hp⟩; have HP := Lib.hid hp; clear hp HT))
    go_returns
    with_reducible exact ⟨rfl, HP.out.mono (HBM.out _ HBW.out).1 (HBM.out _ HBW.out).2⟩
set_option maxHeartbeats 4000000 in
theorem operN22_any (h : Rep w0 B mb s w t i r v f nx nm rcs vcs fcs) (hn : s.vals.length ≤ 100000000000) (o : Str) (x y : Val) (A : Option Addr) (c : Nat) (p : Option Addr) (A6 : Option Addr) (k6 : Nat) (q6 : Option Addr) (hx : x.sort = 2) (hy : y.sort = 2) (ho : ¬ o = [94]) :
    Calls Tryz.prog 62 #[.pointer (some ⟨mb, 0, none⟩), .string (bstr o), .agg #[.int .i64 x.sort, .int .i64 x.n, .string (bstr x.s), .slice none 0 0, .slice A x.l.length c, .pointer p], .agg #[.int .i64 y.sort, .int .i64 y.n, .string (bstr y.s), .slice none 0 0, .slice A6 y.l.length k6, .pointer q6]] w fun e w' => e = .returned (.tuple #[]) ∧ Post w0 B mb (Mv mb t r v f) w (s.oper o x y) w' := by
  have e : s.oper o x y = s.tell (.mk 1 0 [] [] none) 0 false := by unfold St.oper; rw [if_neg (fun k => ho k.1), if_neg (by rw [hy]; simp), if_neg (by rw [hx]; simp)]
  rw [e, hx, hy]
  clear e hx hy
  have hb1 : Below w.heap.size w (w.alloc (.cells #[.int .i64 2, .int .i64 x.n, .string (bstr x.s), .slice none 0 0, .slice A x.l.length c, .pointer p] 60)) := (Below.refl _ _).alloc (Nat.le_refl _) _
  have hb2 : Below w.heap.size w ((w.alloc (.cells #[.int .i64 2, .int .i64 x.n, .string (bstr x.s), .slice none 0 0, .slice A x.l.length c, .pointer p] 60)).alloc (.cells #[.int .i64 2, .int .i64 y.n, .string (bstr y.s), .slice none 0 0, .slice A6 y.l.length k6, .pointer q6] 60)) := hb1.alloc (by rw [World.size_alloc]; omega) _
  have hb3 : Below w.heap.size w (((w.alloc (.cells #[.int .i64 2, .int .i64 x.n, .string (bstr x.s), .slice none 0 0, .slice A x.l.length c, .pointer p] 60)).alloc (.cells #[.int .i64 2, .int .i64 y.n, .string (bstr y.s), .slice none 0 0, .slice A6 y.l.length k6, .pointer q6] 60)).alloc (.cells #[.int .i64 1, .int .i64 0, .string ⟨#[]⟩, .slice none 0 0, .slice none 0 0, .pointer none] 60)) := hb2.alloc (by rw [World.size_alloc, World.size_alloc]; omega) _
  have s2 : ((w.alloc (.cells #[.int .i64 2, .int .i64 x.n, .string (bstr x.s), .slice none 0 0, .slice A x.l.length c, .pointer p] 60)).alloc (.cells #[.int .i64 2, .int .i64 y.n, .string (bstr y.s), .slice none 0 0, .slice A6 y.l.length k6, .pointer q6] 60)).heap.size = w.heap.size + 2 := by rw [World.size_alloc, World.size_alloc]
  have hX0 : (((w.alloc (.cells #[.int .i64 2, .int .i64 x.n, .string (bstr x.s), .slice none 0 0, .slice A x.l.length c, .pointer p] 60)).alloc (.cells #[.int .i64 2, .int .i64 y.n, .string (bstr y.s), .slice none 0 0, .slice A6 y.l.length k6, .pointer q6] 60)).alloc (.cells #[.int .i64 1, .int .i64 0, .string ⟨#[]⟩, .slice none 0 0, .slice none 0 0, .pointer none] 60)).heap[w.heap.size]? = some (.cells #[.int .i64 2, .int .i64 x.n, .string (bstr x.s), .slice none 0 0, .slice A x.l.length c, .pointer p] 60) := (Below.heap_alloc _ _ _ (by rw [s2]; omega)).trans ((Below.heap_alloc _ _ _ (by rw [World.size_alloc]; omega)).trans (heap_new rfl))
  have hX1 : (((w.alloc (.cells #[.int .i64 2, .int .i64 x.n, .string (bstr x.s), .slice none 0 0, .slice A x.l.length c, .pointer p] 60)).alloc (.cells #[.int .i64 2, .int .i64 y.n, .string (bstr y.s), .slice none 0 0, .slice A6 y.l.length k6, .pointer q6] 60)).alloc (.cells #[.int .i64 1, .int .i64 0, .string ⟨#[]⟩, .slice none 0 0, .slice none 0 0, .pointer none] 60)).heap[w.heap.size + 1]? = some (.cells #[.int .i64 2, .int .i64 y.n, .string (bstr y.s), .slice none 0 0, .slice A6 y.l.length k6, .pointer q6] 60) := (Below.heap_alloc _ _ _ (by rw [s2]; omega)).trans (heap_new (World.size_alloc _ _))
  have hX2 : (((w.alloc (.cells #[.int .i64 2, .int .i64 x.n, .string (bstr x.s), .slice none 0 0, .slice A x.l.length c, .pointer p] 60)).alloc (.cells #[.int .i64 2, .int .i64 y.n, .string (bstr y.s), .slice none 0 0, .slice A6 y.l.length k6, .pointer q6] 60)).alloc (.cells #[.int .i64 1, .int .i64 0, .string ⟨#[]⟩, .slice none 0 0, .slice none 0 0, .pointer none] 60)).heap[w.heap.size + 2]? = some (.cells #[.int .i64 1, .int .i64 0, .string ⟨#[]⟩, .slice none 0 0, .slice none 0 0, .pointer none] 60) := heap_new s2
  obtain ⟨a0, a1, a2, a3, a4, a5⟩ := cells6 hX0
  obtain ⟨d0, d1, d2, d3, d4, d5⟩ := cells6 hX1
  have HB3 := Lib.hid hb3
  have HX2 := Lib.hid hX2
  have HH := Lib.hid h
  have HN := Lib.hid hn
  have HBM := Lib.hid (fun (wr : World) (hb : Below w.heap.size w wr) => And.intro (Tr.below (P := Mv mb t r v f) hb) (hb.mono (Nat.le_of_lt (Nat.lt_of_le_of_lt h.base.2 h.lt))))
  obtain ⟨g0, g1, g2, g3, g4, g5⟩ := cells6 HX2.out
  have HT := Lib.hid (tellH_any (h.below hb3) hn 1 0 0 false)
  have f0 : ((bstr o).toList == [94]) = false := by rw [bstr_toList]; simpa using ho
  clear ho
  obtain ⟨b1, f1⟩ : ∃ b1, ((bstr o).toList == [35]) = b1 := ⟨_, rfl⟩
  clear h hn hb1 hb2 hb3 hX0 hX1 hX2 s2
  cases b1
  all_goals
    go_enter Tryz.func62, Tryz.ntmps62
    go_wp2_with (go_at_call 58; (with_reducible refine HT.out.mono ?_); rintro e1 w2 ⟨rfl, hp⟩; have HP := Lib.hid hp; clear hp HT)
    go_returns
    with_reducible exact ⟨rfl, HP.out.mono (HBM.out _ HB3.out).1 (HBM.out _ HB3.out).2⟩
set_option maxHeartbeats 4000000 in
theorem operN21_any (h : Rep w0 B mb s w t i r v f nx nm rcs vcs fcs) (hn : s.vals.length ≤ 100000000000) (o : Str) (x y : Val) (A : Option Addr) (c : Nat) (p : Option Addr) (A6 : Option Addr) (k6 : Nat) (q6 : Option Addr) (hx : x.sort = 2) (hy : y.sort = 1) (ho : ¬ o = [35]) :
    Calls Tryz.prog 62 #[.pointer (some ⟨mb, 0, none⟩), .string (bstr o), .agg #[.int .i64 x.sort, .int .i64 x.n, .string (bstr x.s), .slice none 0 0, .slice A x.l.length c, .pointer p], .agg #[.int .i64 y.sort, .int .i64 y.n, .string (bstr y.s), .slice none 0 0, .slice A6 y.l.length k6, .pointer q6]] w fun e w' => e = .returned (.tuple #[]) ∧ Post w0 B mb (Mv mb t r v f) w (s.oper o x y) w' := by
  have e : s.oper o x y = s.tell (.mk 1 0 [] [] none) 0 false := by unfold St.oper; rw [if_neg (by rw [hy]; simp), if_neg (fun k => ho k.1), if_neg (by rw [hx]; simp)]
  rw [e, hx, hy]
  clear e hx hy
  have hb1 : Below w.heap.size w (w.alloc (.cells #[.int .i64 2, .int .i64 x.n, .string (bstr x.s), .slice none 0 0, .slice A x.l.length c, .pointer p] 60)) := (Below.refl _ _).alloc (Nat.le_refl _) _
  have hb2 : Below w.heap.size w ((w.alloc (.cells #[.int .i64 2, .int .i64 x.n, .string (bstr x.s), .slice none 0 0, .slice A x.l.length c, .pointer p] 60)).alloc (.cells #[.int .i64 1, .int .i64 y.n, .string (bstr y.s), .slice none 0 0, .slice A6 y.l.length k6, .pointer q6] 60)) := hb1.alloc (by rw [World.size_alloc]; omega) _
  have hb3 : Below w.heap.size w (((w.alloc (.cells #[.int .i64 2, .int .i64 x.n, .string (bstr x.s), .slice none 0 0, .slice A x.l.length c, .pointer p] 60)).alloc (.cells #[.int .i64 1, .int .i64 y.n, .string (bstr y.s), .slice none 0 0, .slice A6 y.l.length k6, .pointer q6] 60)).alloc (.cells #[.int .i64 1, .int .i64 0, .string ⟨#[]⟩, .slice none 0 0, .slice none 0 0, .pointer none] 60)) := hb2.alloc (by rw [World.size_alloc, World.size_alloc]; omega) _
  have s2 : ((w.alloc (.cells #[.int .i64 2, .int .i64 x.n, .string (bstr x.s), .slice none 0 0, .slice A x.l.length c, .pointer p] 60)).alloc (.cells #[.int .i64 1, .int .i64 y.n, .string (bstr y.s), .slice none 0 0, .slice A6 y.l.length k6, .pointer q6] 60)).heap.size = w.heap.size + 2 := by rw [World.size_alloc, World.size_alloc]
  have hX0 : (((w.alloc (.cells #[.int .i64 2, .int .i64 x.n, .string (bstr x.s), .slice none 0 0, .slice A x.l.length c, .pointer p] 60)).alloc (.cells #[.int .i64 1, .int .i64 y.n, .string (bstr y.s), .slice none 0 0, .slice A6 y.l.length k6, .pointer q6] 60)).alloc (.cells #[.int .i64 1, .int .i64 0, .string ⟨#[]⟩, .slice none 0 0, .slice none 0 0, .pointer none] 60)).heap[w.heap.size]? = some (.cells #[.int .i64 2, .int .i64 x.n, .string (bstr x.s), .slice none 0 0, .slice A x.l.length c, .pointer p] 60) := (Below.heap_alloc _ _ _ (by rw [s2]; omega)).trans ((Below.heap_alloc _ _ _ (by rw [World.size_alloc]; omega)).trans (heap_new rfl))
  have hX1 : (((w.alloc (.cells #[.int .i64 2, .int .i64 x.n, .string (bstr x.s), .slice none 0 0, .slice A x.l.length c, .pointer p] 60)).alloc (.cells #[.int .i64 1, .int .i64 y.n, .string (bstr y.s), .slice none 0 0, .slice A6 y.l.length k6, .pointer q6] 60)).alloc (.cells #[.int .i64 1, .int .i64 0, .string ⟨#[]⟩, .slice none 0 0, .slice none 0 0, .pointer none] 60)).heap[w.heap.size + 1]? = some (.cells #[.int .i64 1, .int .i64 y.n, .string (bstr y.s), .slice none 0 0, .slice A6 y.l.length k6, .pointer q6] 60) := (Below.heap_alloc _ _ _ (by rw [s2]; omega)).trans (heap_new (World.size_alloc _ _))
  have hX2 : (((w.alloc (.cells #[.int .i64 2, .int .i64 x.n, .string (bstr x.s), .slice none 0 0, .slice A x.l.length c, .pointer p] 60)).alloc (.cells #[.int .i64 1, .int .i64 y.n, .string (bstr y.s), .slice none 0 0, .slice A6 y.l.length k6, .pointer q6] 60)).alloc (.cells #[.int .i64 1, .int .i64 0, .string ⟨#[]⟩, .slice none 0 0, .slice none 0 0, .pointer none] 60)).heap[w.heap.size + 2]? = some (.cells #[.int .i64 1, .int .i64 0, .string ⟨#[]⟩, .slice none 0 0, .slice none 0 0, .pointer none] 60) := heap_new s2
  obtain ⟨a0, a1, a2, a3, a4, a5⟩ := cells6 hX0
  obtain ⟨d0, d1, d2, d3, d4, d5⟩ := cells6 hX1
  have HB3 := Lib.hid hb3
  have HX2 := Lib.hid hX2
  have HH := Lib.hid h
  have HN := Lib.hid hn
  have HBM := Lib.hid (fun (wr : World) (hb : Below w.heap.size w wr) => And.intro (Tr.below (P := Mv mb t r v f) hb) (hb.mono (Nat.le_of_lt (Nat.lt_of_le_of_lt h.base.2 h.lt))))
  obtain ⟨g0, g1, g2, g3, g4, g5⟩ := cells6 HX2.out
  have HT := Lib.hid (tellH_any (h.below hb3) hn 1 0 0 false)
  obtain ⟨b0, f0⟩ : ∃ b0, ((bstr o).toList == [94]) = b0 := ⟨_, rfl⟩
  have f1 : ((bstr o).toList == [35]) = false := by rw [bstr_toList]; simpa using ho
  clear ho
  clear h hn hb1 hb2 hb3 hX0 hX1 hX2 s2
  cases b0
  all_goals
    go_enter Tryz.func62, Tryz.ntmps62
    go_wp2_with (go_at_call 58; (with_reducible refine HT.out.mono ?_); rintro e1 w2 ⟨rfl, hp⟩; have HP := Lib.hid hp; clear hp HT)
    go_returns
    with_reducible exact ⟨rfl, HP.out.mono (HBM.out _ HB3.out).1 (HBM.out _ HB3.out).2⟩
set_option maxHeartbeats 4000000 in
theorem operN2n_any (h : Rep w0 B mb s w t i r v f nx nm rcs vcs fcs) (hn : s.vals.length ≤ 100000000000) (o : Str) (x y : Val) (A : Option Addr) (c : Nat) (p : Option Addr) (A6 : Option Addr) (k6 : Nat) (q6 : Option Addr) (hx : x.sort = 2) (hy1 : ¬ y.sort = 1) (hy2 : ¬ y.sort = 2)  :
    Calls Tryz.prog 62 #[.pointer (some ⟨mb, 0, none⟩), .string (bstr o), .agg #[.int .i64 x.sort, .int .i64 x.n, .string (bstr x.s), .slice none 0 0, .slice A x.l.length c, .pointer p], .agg #[.int .i64 y.sort, .int .i64 y.n, .string (bstr y.s), .slice none 0 0, .slice A6 y.l.length k6, .pointer q6]] w fun e w' => e = .returned (.tuple #[]) ∧ Post w0 B mb (Mv mb t r v f) w (s.oper o x y) w' := by
  have e : s.oper o x y = s.tell (.mk 1 0 [] [] none) 0 false := by unfold St.oper; rw [if_neg (fun k => hy2 k.2.2), if_neg (fun k => hy1 k.2.2), if_neg (by rw [hx]; simp)]
  rw [e, hx]
  clear e hx
  have hb1 : Below w.heap.size w (w.alloc (.cells #[.int .i64 2, .int .i64 x.n, .string (bstr x.s), .slice none 0 0, .slice A x.l.length c, .pointer p] 60)) := (Below.refl _ _).alloc (Nat.le_refl _) _
  have hb2 : Below w.heap.size w ((w.alloc (.cells #[.int .i64 2, .int .i64 x.n, .string (bstr x.s), .slice none 0 0, .slice A x.l.length c, .pointer p] 60)).alloc (.cells #[.int .i64 y.sort, .int .i64 y.n, .string (bstr y.s), .slice none 0 0, .slice A6 y.l.length k6, .pointer q6] 60)) := hb1.alloc (by rw [World.size_alloc]; omega) _
  have hb3 : Below w.heap.size w (((w.alloc (.cells #[.int .i64 2, .int .i64 x.n, .string (bstr x.s), .slice none 0 0, .slice A x.l.length c, .pointer p] 60)).alloc (.cells #[.int .i64 y.sort, .int .i64 y.n, .string (bstr y.s), .slice none 0 0, .slice A6 y.l.length k6, .pointer q6] 60)).alloc (.cells #[.int .i64 1, .int .i64 0, .string ⟨#[]⟩, .slice none 0 0, .slice none 0 0, .pointer none] 60)) := hb2.alloc (by rw [World.size_alloc, World.size_alloc]; omega) _
  have s2 : ((w.alloc (.cells #[.int .i64 2, .int .i64 x.n, .string (bstr x.s), .slice none 0 0, .slice A x.l.length c, .pointer p] 60)).alloc (.cells #[.int .i64 y.sort, .int .i64 y.n, .string (bstr y.s), .slice none 0 0, .slice A6 y.l.length k6, .pointer q6] 60)).heap.size = w.heap.size + 2 := by rw [World.size_alloc, World.size_alloc]
  have hX0 : (((w.alloc (.cells #[.int .i64 2, .int .i64 x.n, .string (bstr x.s), .slice none 0 0, .slice A x.l.length c, .pointer p] 60)).alloc (.cells #[.int .i64 y.sort, .int .i64 y.n, .string (bstr y.s), .slice none 0 0, .slice A6 y.l.length k6, .pointer q6] 60)).alloc (.cells #[.int .i64 1, .int .i64 0, .string ⟨#[]⟩, .slice none 0 0, .slice none 0 0, .pointer none] 60)).heap[w.heap.size]? = some (.cells #[.int .i64 2, .int .i64 x.n, .string (bstr x.s), .slice none 0 0, .slice A x.l.length c, .pointer p] 60) := (Below.heap_alloc _ _ _ (by rw [s2]; omega)).trans ((Below.heap_alloc _ _ _ (by rw [World.size_alloc]; omega)).trans (heap_new rfl))
  have hX1 : (((w.alloc (.cells #[.int .i64 2, .int .i64 x.n, .string (bstr x.s), .slice none 0 0, .slice A x.l.length c, .pointer p] 60)).alloc (.cells #[.int .i64 y.sort, .int .i64 y.n, .string (bstr y.s), .slice none 0 0, .slice A6 y.l.length k6, .pointer q6] 60)).alloc (.cells #[.int .i64 1, .int .i64 0, .string ⟨#[]⟩, .slice none 0 0, .slice none 0 0, .pointer none] 60)).heap[w.heap.size + 1]? = some (.cells #[.int .i64 y.sort, .int .i64 y.n, .string (bstr y.s), .slice none 0 0, .slice A6 y.l.length k6, .pointer q6] 60) := (Below.heap_alloc _ _ _ (by rw [s2]; omega)).trans (heap_new (World.size_alloc _ _))
  have hX2 : (((w.alloc (.cells #[.int .i64 2, .int .i64 x.n, .string (bstr x.s), .slice none 0 0, .slice A x.l.length c, .pointer p] 60)).alloc (.cells #[.int .i64 y.sort, .int .i64 y.n, .string (bstr y.s), .slice none 0 0, .slice A6 y.l.length k6, .pointer q6] 60)).alloc (.cells #[.int .i64 1, .int .i64 0, .string ⟨#[]⟩, .slice none 0 0, .slice none 0 0, .pointer none] 60)).heap[w.heap.size + 2]? = some (.cells #[.int .i64 1, .int .i64 0, .string ⟨#[]⟩, .slice none 0 0, .slice none 0 0, .pointer none] 60) := heap_new s2
  obtain ⟨a0, a1, a2, a3, a4, a5⟩ := cells6 hX0
  obtain ⟨d0, d1, d2, d3, d4, d5⟩ := cells6 hX1
  have HB3 := Lib.hid hb3
  have HX2 := Lib.hid hX2
  have HH := Lib.hid h
  have HN := Lib.hid hn
  have HBM := Lib.hid (fun (wr : World) (hb : Below w.heap.size w wr) => And.intro (Tr.below (P := Mv mb t r v f) hb) (hb.mono (Nat.le_of_lt (Nat.lt_of_le_of_lt h.base.2 h.lt))))
  obtain ⟨g0, g1, g2, g3, g4, g5⟩ := cells6 HX2.out
  have HT := Lib.hid (tellH_any (h.below hb3) hn 1 0 0 false)
  obtain ⟨b0, f0⟩ : ∃ b0, ((bstr o).toList == [94]) = b0 := ⟨_, rfl⟩
  obtain ⟨b1, f1⟩ : ∃ b1, ((bstr o).toList == [35]) = b1 := ⟨_, rfl⟩
  clear h hn hb1 hb2 hb3 hX0 hX1 hX2 s2
  cases b0 <;> cases b1
  all_goals
    go_enter Tryz.func62, Tryz.ntmps62
    go_wp2_with (go_at_call 58; (with_reducible refine HT.out.mono ?_); rintro e1 w2 ⟨rfl, hp⟩; have HP := Lib.hid hp; clear hp HT)
    go_returns
    with_reducible exact ⟨rfl, HP.out.mono (HBM.out _ HB3.out).1 (HBM.out _ HB3.out).2⟩
set_option maxHeartbeats 4000000 in
theorem operN12_any (h : Rep w0 B mb s w t i r v f nx nm rcs vcs fcs) (hn : s.vals.length ≤ 100000000000) (o : Str) (x y : Val) (A : Option Addr) (c : Nat) (p : Option Addr) (A6 : Option Addr) (k6 : Nat) (q6 : Option Addr) (hx : x.sort = 1) (hy : y.sort = 2)  :
    Calls Tryz.prog 62 #[.pointer (some ⟨mb, 0, none⟩), .string (bstr o), .agg #[.int .i64 x.sort, .int .i64 x.n, .string (bstr x.s), .slice none 0 0, .slice A x.l.length c, .pointer p], .agg #[.int .i64 y.sort, .int .i64 y.n, .string (bstr y.s), .slice none 0 0, .slice A6 y.l.length k6, .pointer q6]] w fun e w' => e = .returned (.tuple #[]) ∧ Post w0 B mb (Mv mb t r v f) w (s.oper o x y) w' := by
  have e : s.oper o x y = s.tell (.mk 1 0 [] [] none) 0 false := by unfold St.oper; rw [if_neg (by rw [hx]; simp), if_neg (by rw [hx]; simp), if_neg (by rw [hy]; simp)]
  rw [e, hx, hy]
  clear e hx hy
  have hb1 : Below w.heap.size w (w.alloc (.cells #[.int .i64 1, .int .i64 x.n, .string (bstr x.s), .slice none 0 0, .slice A x.l.length c, .pointer p] 60)) := (Below.refl _ _).alloc (Nat.le_refl _) _
  have hb2 : Below w.heap.size w ((w.alloc (.cells #[.int .i64 1, .int .i64 x.n, .string (bstr x.s), .slice none 0 0, .slice A x.l.length c, .pointer p] 60)).alloc (.cells #[.int .i64 2, .int .i64 y.n, .string (bstr y.s), .slice none 0 0, .slice A6 y.l.length k6, .pointer q6] 60)) := hb1.alloc (by rw [World.size_alloc]; omega) _
  have hb3 : Below w.heap.size w (((w.alloc (.cells #[.int .i64 1, .int .i64 x.n, .string (bstr x.s), .slice none 0 0, .slice A x.l.length c, .pointer p] 60)).alloc (.cells #[.int .i64 2, .int .i64 y.n, .string (bstr y.s), .slice none 0 0, .slice A6 y.l.length k6, .pointer q6] 60)).alloc (.cells #[.int .i64 1, .int .i64 0, .string ⟨#[]⟩, .slice none 0 0, .slice none 0 0, .pointer none] 60)) := hb2.alloc (by rw [World.size_alloc, World.size_alloc]; omega) _
  have s2 : ((w.alloc (.cells #[.int .i64 1, .int .i64 x.n, .string (bstr x.s), .slice none 0 0, .slice A x.l.length c, .pointer p] 60)).alloc (.cells #[.int .i64 2, .int .i64 y.n, .string (bstr y.s), .slice none 0 0, .slice A6 y.l.length k6, .pointer q6] 60)).heap.size = w.heap.size + 2 := by rw [World.size_alloc, World.size_alloc]
  have hX0 : (((w.alloc (.cells #[.int .i64 1, .int .i64 x.n, .string (bstr x.s), .slice none 0 0, .slice A x.l.length c, .pointer p] 60)).alloc (.cells #[.int .i64 2, .int .i64 y.n, .string (bstr y.s), .slice none 0 0, .slice A6 y.l.length k6, .pointer q6] 60)).alloc (.cells #[.int .i64 1, .int .i64 0, .string ⟨#[]⟩, .slice none 0 0, .slice none 0 0, .pointer none] 60)).heap[w.heap.size]? = some (.cells #[.int .i64 1, .int .i64 x.n, .string (bstr x.s), .slice none 0 0, .slice A x.l.length c, .pointer p] 60) := (Below.heap_alloc _ _ _ (by rw [s2]; omega)).trans ((Below.heap_alloc _ _ _ (by rw [World.size_alloc]; omega)).trans (heap_new rfl))
  have hX1 : (((w.alloc (.cells #[.int .i64 1, .int .i64 x.n, .string (bstr x.s), .slice none 0 0, .slice A x.l.length c, .pointer p] 60)).alloc (.cells #[.int .i64 2, .int .i64 y.n, .string (bstr y.s), .slice none 0 0, .slice A6 y.l.length k6, .pointer q6] 60)).alloc (.cells #[.int .i64 1, .int .i64 0, .string ⟨#[]⟩, .slice none 0 0, .slice none 0 0, .pointer none] 60)).heap[w.heap.size + 1]? = some (.cells #[.int .i64 2, .int .i64 y.n, .string (bstr y.s), .slice none 0 0, .slice A6 y.l.length k6, .pointer q6] 60) := (Below.heap_alloc _ _ _ (by rw [s2]; omega)).trans (heap_new (World.size_alloc _ _))
  have hX2 : (((w.alloc (.cells #[.int .i64 1, .int .i64 x.n, .string (bstr x.s), .slice none 0 0, .slice A x.l.length c, .pointer p] 60)).alloc (.cells #[.int .i64 2, .int .i64 y.n, .string (bstr y.s), .slice none 0 0, .slice A6 y.l.length k6, .pointer q6] 60)).alloc (.cells #[.int .i64 1, .int .i64 0, .string ⟨#[]⟩, .slice none 0 0, .slice none 0 0, .pointer none] 60)).heap[w.heap.size + 2]? = some (.cells #[.int .i64 1, .int .i64 0, .string ⟨#[]⟩, .slice none 0 0, .slice none 0 0, .pointer none] 60) := heap_new s2
  obtain ⟨a0, a1, a2, a3, a4, a5⟩ := cells6 hX0
  obtain ⟨d0, d1, d2, d3, d4, d5⟩ := cells6 hX1
  have HB3 := Lib.hid hb3
  have HX2 := Lib.hid hX2
  have HH := Lib.hid h
  have HN := Lib.hid hn
  have HBM := Lib.hid (fun (wr : World) (hb : Below w.heap.size w wr) => And.intro (Tr.below (P := Mv mb t r v f) hb) (hb.mono (Nat.le_of_lt (Nat.lt_of_le_of_lt h.base.2 h.lt))))
  obtain ⟨g0, g1, g2, g3, g4, g5⟩ := cells6 HX2.out
  have HT := Lib.hid (tellH_any (h.below hb3) hn 1 0 0 false)
  obtain ⟨b0, f0⟩ : ∃ b0, ((bstr o).toList == [94]) = b0 := ⟨_, rfl⟩
  obtain ⟨b1, f1⟩ : ∃ b1, ((bstr o).toList == [35]) = b1 := ⟨_, rfl⟩
  clear h hn hb1 hb2 hb3 hX0 hX1 hX2 s2
  cases b0 <;> cases b1
  all_goals
    go_enter Tryz.func62, Tryz.ntmps62
    go_wp2_with (go_at_call 58; (with_reducible refine HT.out.mono ?_); rintro e1 w2 ⟨rfl, hp⟩; have HP := Lib.hid hp; clear hp HT)
    go_returns
    with_reducible exact ⟨rfl, HP.out.mono (HBM.out _ HB3.out).1 (HBM.out _ HB3.out).2⟩
set_option maxHeartbeats 4000000 in
theorem operN1n_any (h : Rep w0 B mb s w t i r v f nx nm rcs vcs fcs) (hn : s.vals.length ≤ 100000000000) (o : Str) (x y : Val) (A : Option Addr) (c : Nat) (p : Option Addr) (A6 : Option Addr) (k6 : Nat) (q6 : Option Addr) (hx : x.sort = 1) (hy1 : ¬ y.sort = 1) (hy2 : ¬ y.sort = 2)  :
    Calls Tryz.prog 62 #[.pointer (some ⟨mb, 0, none⟩), .string (bstr o), .agg #[.int .i64 x.sort, .int .i64 x.n, .string (bstr x.s), .slice none 0 0, .slice A x.l.length c, .pointer p], .agg #[.int .i64 y.sort, .int .i64 y.n, .string (bstr y.s), .slice none 0 0, .slice A6 y.l.length k6, .pointer q6]] w fun e w' => e = .returned (.tuple #[]) ∧ Post w0 B mb (Mv mb t r v f) w (s.oper o x y) w' := by
  have e : s.oper o x y = s.tell (.mk 1 0 [] [] none) 0 false := by unfold St.oper; rw [if_neg (by rw [hx]; simp), if_neg (by rw [hx]; simp), if_neg (fun k => hy1 k.2)]
  rw [e, hx]
  clear e hx
  have hb1 : Below w.heap.size w (w.alloc (.cells #[.int .i64 1, .int .i64 x.n, .string (bstr x.s), .slice none 0 0, .slice A x.l.length c, .pointer p] 60)) := (Below.refl _ _).alloc (Nat.le_refl _) _
  have hb2 : Below w.heap.size w ((w.alloc (.cells #[.int .i64 1, .int .i64 x.n, .string (bstr x.s), .slice none 0 0, .slice A x.l.length c, .pointer p] 60)).alloc (.cells #[.int .i64 y.sort, .int .i64 y.n, .string (bstr y.s), .slice none 0 0, .slice A6 y.l.length k6, .pointer q6] 60)) := hb1.alloc (by rw [World.size_alloc]; omega) _
  have hb3 : Below w.heap.size w (((w.alloc (.cells #[.int .i64 1, .int .i64 x.n, .string (bstr x.s), .slice none 0 0, .slice A x.l.length c, .pointer p] 60)).alloc (.cells #[.int .i64 y.sort, .int .i64 y.n, .string (bstr y.s), .slice none 0 0, .slice A6 y.l.length k6, .pointer q6] 60)).alloc (.cells #[.int .i64 1, .int .i64 0, .string ⟨#[]⟩, .slice none 0 0, .slice none 0 0, .pointer none] 60)) := hb2.alloc (by rw [World.size_alloc, World.size_alloc]; omega) _
  have s2 : ((w.alloc (.cells #[.int .i64 1, .int .i64 x.n, .string (bstr x.s), .slice none 0 0, .slice A x.l.length c, .pointer p] 60)).alloc (.cells #[.int .i64 y.sort, .int .i64 y.n, .string (bstr y.s), .slice none 0 0, .slice A6 y.l.length k6, .pointer q6] 60)).heap.size = w.heap.size + 2 := by rw [World.size_alloc, World.size_alloc]
  have hX0 : (((w.alloc (.cells #[.int .i64 1, .int .i64 x.n, .string (bstr x.s), .slice none 0 0, .slice A x.l.length c, .pointer p] 60)).alloc (.cells #[.int .i64 y.sort, .int .i64 y.n, .string (bstr y.s), .slice none 0 0, .slice A6 y.l.length k6, .pointer q6] 60)).alloc (.cells #[.int .i64 1, .int .i64 0, .string ⟨#[]⟩, .slice none 0 0, .slice none 0 0, .pointer none] 60)).heap[w.heap.size]? = some (.cells #[.int .i64 1, .int .i64 x.n, .string (bstr x.s), .slice none 0 0, .slice A x.l.length c, .pointer p] 60) := (Below.heap_alloc _ _ _ (by rw [s2]; omega)).trans ((Below.heap_alloc _ _ _ (by rw [World.size_alloc]; omega)).trans (heap_new rfl))
  have hX1 : (((w.alloc (.cells #[.int .i64 1, .int .i64 x.n, .string (bstr x.s), .slice none 0 0, .slice A x.l.length c, .pointer p] 60)).alloc (.cells #[.int .i64 y.sort, .int .i64 y.n, .string (bstr y.s), .slice none 0 0, .slice A6 y.l.length k6, .pointer q6] 60)).alloc (.cells #[.int .i64 1, .int .i64 0, .string ⟨#[]⟩, .slice none 0 0, .slice none 0 0, .pointer none] 60)).heap[w.heap.size + 1]? = some (.cells #[.int .i64 y.sort, .int .i64 y.n, .string (bstr y.s), .slice none 0 0, .slice A6 y.l.length k6, .pointer q6] 60) := (Below.heap_alloc _ _ _ (by rw [s2]; omega)).trans (heap_new (World.size_alloc _ _))
  have hX2 : (((w.alloc (.cells #[.int .i64 1, .int .i64 x.n, .string (bstr x.s), .slice none 0 0, .slice A x.l.length c, .pointer p] 60)).alloc (.cells #[.int .i64 y.sort, .int .i64 y.n, .string (bstr y.s), .slice none 0 0, .slice A6 y.l.length k6, .pointer q6] 60)).alloc (.cells #[.int .i64 1, .int .i64 0, .string ⟨#[]⟩, .slice none 0 0, .slice none 0 0, .pointer none] 60)).heap[w.heap.size + 2]? = some (.cells #[.int .i64 1, .int .i64 0, .string ⟨#[]⟩, .slice none 0 0, .slice none 0 0, .pointer none] 60) := heap_new s2
  obtain ⟨a0, a1, a2, a3, a4, a5⟩ := cells6 hX0
  obtain ⟨d0, d1, d2, d3, d4, d5⟩ := cells6 hX1
  have HB3 := Lib.hid hb3
  have HX2 := Lib.hid hX2
  have HH := Lib.hid h
  have HN := Lib.hid hn
  have HBM := Lib.hid (fun (wr : World) (hb : Below w.heap.size w wr) => And.intro (Tr.below (P := Mv mb t r v f) hb) (hb.mono (Nat.le_of_lt (Nat.lt_of_le_of_lt h.base.2 h.lt))))
  obtain ⟨g0, g1, g2, g3, g4, g5⟩ := cells6 HX2.out
  have HT := Lib.hid (tellH_any (h.below hb3) hn 1 0 0 false)
  obtain ⟨b0, f0⟩ : ∃ b0, ((bstr o).toList == [94]) = b0 := ⟨_, rfl⟩
  obtain ⟨b1, f1⟩ : ∃ b1, ((bstr o).toList == [35]) = b1 := ⟨_, rfl⟩
  clear h hn hb1 hb2 hb3 hX0 hX1 hX2 s2
  cases b0 <;> cases b1
  all_goals
    go_enter Tryz.func62, Tryz.ntmps62
    go_wp2_with (go_at_call 58; (with_reducible refine HT.out.mono ?_); rintro e1 w2 ⟨rfl, hp⟩; have HP := Lib.hid hp; clear hp HT)
    go_returns
    with_reducible exact ⟨rfl, HP.out.mono (HBM.out _ HB3.out).1 (HBM.out _ HB3.out).2⟩
set_option maxHeartbeats 4000000 in
theorem operNn2_any (h : Rep w0 B mb s w t i r v f nx nm rcs vcs fcs) (hn : s.vals.length ≤ 100000000000) (o : Str) (x y : Val) (A : Option Addr) (c : Nat) (p : Option Addr) (A6 : Option Addr) (k6 : Nat) (q6 : Option Addr) (hx1 : ¬ x.sort = 1) (hx2 : ¬ x.sort = 2) (hy : y.sort = 2)  :
    Calls Tryz.prog 62 #[.pointer (some ⟨mb, 0, none⟩), .string (bstr o), .agg #[.int .i64 x.sort, .int .i64 x.n, .string (bstr x.s), .slice none 0 0, .slice A x.l.length c, .pointer p], .agg #[.int .i64 y.sort, .int .i64 y.n, .string (bstr y.s), .slice none 0 0, .slice A6 y.l.length k6, .pointer q6]] w fun e w' => e = .returned (.tuple #[]) ∧ Post w0 B mb (Mv mb t r v f) w (s.oper o x y) w' := by
  have e : s.oper o x y = s.tell (.mk 1 0 [] [] none) 0 false := by unfold St.oper; rw [if_neg (fun k => hx2 k.2.1), if_neg (fun k => hx2 k.2.1), if_neg (fun k => hx1 k.1)]
  rw [e, hy]
  clear e hy
  have hb1 : Below w.heap.size w (w.alloc (.cells #[.int .i64 x.sort, .int .i64 x.n, .string (bstr x.s), .slice none 0 0, .slice A x.l.length c, .pointer p] 60)) := (Below.refl _ _).alloc (Nat.le_refl _) _
  have hb2 : Below w.heap.size w ((w.alloc (.cells #[.int .i64 x.sort, .int .i64 x.n, .string (bstr x.s), .slice none 0 0, .slice A x.l.length c, .pointer p] 60)).alloc (.cells #[.int .i64 2, .int .i64 y.n, .string (bstr y.s), .slice none 0 0, .slice A6 y.l.length k6, .pointer q6] 60)) := hb1.alloc (by rw [World.size_alloc]; omega) _
  have hb3 : Below w.heap.size w (((w.alloc (.cells #[.int .i64 x.sort, .int .i64 x.n, .string (bstr x.s), .slice none 0 0, .slice A x.l.length c, .pointer p] 60)).alloc (.cells #[.int .i64 2, .int .i64 y.n, .string (bstr y.s), .slice none 0 0, .slice A6 y.l.length k6, .pointer q6] 60)).alloc (.cells #[.int .i64 1, .int .i64 0, .string ⟨#[]⟩, .slice none 0 0, .slice none 0 0, .pointer none] 60)) := hb2.alloc (by rw [World.size_alloc, World.size_alloc]; omega) _
  have s2 : ((w.alloc (.cells #[.int .i64 x.sort, .int .i64 x.n, .string (bstr x.s), .slice none 0 0, .slice A x.l.length c, .pointer p] 60)).alloc (.cells #[.int .i64 2, .int .i64 y.n, .string (bstr y.s), .slice none 0 0, .slice A6 y.l.length k6, .pointer q6] 60)).heap.size = w.heap.size + 2 := by rw [World.size_alloc, World.size_alloc]
  have hX0 : (((w.alloc (.cells #[.int .i64 x.sort, .int .i64 x.n, .string (bstr x.s), .slice none 0 0, .slice A x.l.length c, .pointer p] 60)).alloc (.cells #[.int .i64 2, .int .i64 y.n, .string (bstr y.s), .slice none 0 0, .slice A6 y.l.length k6, .pointer q6] 60)).alloc (.cells #[.int .i64 1, .int .i64 0, .string ⟨#[]⟩, .slice none 0 0, .slice none 0 0, .pointer none] 60)).heap[w.heap.size]? = some (.cells #[.int .i64 x.sort, .int .i64 x.n, .string (bstr x.s), .slice none 0 0, .slice A x.l.length c, .pointer p] 60) := (Below.heap_alloc _ _ _ (by rw [s2]; omega)).trans ((Below.heap_alloc _ _ _ (by rw [World.size_alloc]; omega)).trans (heap_new rfl))
  have hX1 : (((w.alloc (.cells #[.int .i64 x.sort, .int .i64 x.n, .string (bstr x.s), .slice none 0 0, .slice A x.l.length c, .pointer p] 60)).alloc (.cells #[.int .i64 2, .int .i64 y.n, .string (bstr y.s), .slice none 0 0, .slice A6 y.l.length k6, .pointer q6] 60)).alloc (.cells #[.int .i64 1, .int .i64 0, .string ⟨#[]⟩, .slice none 0 0, .slice none 0 0, .pointer none] 60)).heap[w.heap.size + 1]? = some (.cells #[.int .i64 2, .int .i64 y.n, .string (bstr y.s), .slice none 0 0, .slice A6 y.l.length k6, .pointer q6] 60) := (Below.heap_alloc _ _ _ (by rw [s2]; omega)).trans (heap_new (World.size_alloc _ _))
  have hX2 : (((w.alloc (.cells #[.int .i64 x.sort, .int .i64 x.n, .string (bstr x.s), .slice none 0 0, .slice A x.l.length c, .pointer p] 60)).alloc (.cells #[.int .i64 2, .int .i64 y.n, .string (bstr y.s), .slice none 0 0, .slice A6 y.l.length k6, .pointer q6] 60)).alloc (.cells #[.int .i64 1, .int .i64 0, .string ⟨#[]⟩, .slice none 0 0, .slice none 0 0, .pointer none] 60)).heap[w.heap.size + 2]? = some (.cells #[.int .i64 1, .int .i64 0, .string ⟨#[]⟩, .slice none 0 0, .slice none 0 0, .pointer none] 60) := heap_new s2
  obtain ⟨a0, a1, a2, a3, a4, a5⟩ := cells6 hX0
  obtain ⟨d0, d1, d2, d3, d4, d5⟩ := cells6 hX1
  have HB3 := Lib.hid hb3
  have HX2 := Lib.hid hX2
  have HH := Lib.hid h
  have HN := Lib.hid hn
  have HBM := Lib.hid (fun (wr : World) (hb : Below w.heap.size w wr) => And.intro (Tr.below (P := Mv mb t r v f) hb) (hb.mono (Nat.le_of_lt (Nat.lt_of_le_of_lt h.base.2 h.lt))))
  obtain ⟨g0, g1, g2, g3, g4, g5⟩ := cells6 HX2.out
  have HT := Lib.hid (tellH_any (h.below hb3) hn 1 0 0 false)
  obtain ⟨b0, f0⟩ : ∃ b0, ((bstr o).toList == [94]) = b0 := ⟨_, rfl⟩
  obtain ⟨b1, f1⟩ : ∃ b1, ((bstr o).toList == [35]) = b1 := ⟨_, rfl⟩
  clear h hn hb1 hb2 hb3 hX0 hX1 hX2 s2
  cases b0 <;> cases b1
  all_goals
    go_enter Tryz.func62, Tryz.ntmps62
    go_wp2_with (go_at_call 58; (with_reducible refine HT.out.mono ?_); rintro e1 w2 ⟨rfl, hp⟩; have HP := Lib.hid hp; clear hp HT)
    go_returns
    with_reducible exact ⟨rfl, HP.out.mono (HBM.out _ HB3.out).1 (HBM.out _ HB3.out).2⟩
set_option maxHeartbeats 4000000 in
theorem operNn1_any (h : Rep w0 B mb s w t i r v f nx nm rcs vcs fcs) (hn : s.vals.length ≤ 100000000000) (o : Str) (x y : Val) (A : Option Addr) (c : Nat) (p : Option Addr) (A6 : Option Addr) (k6 : Nat) (q6 : Option Addr) (hx1 : ¬ x.sort = 1) (hx2 : ¬ x.sort = 2) (hy : y.sort = 1)  :
    Calls Tryz.prog 62 #[.pointer (some ⟨mb, 0, none⟩), .string (bstr o), .agg #[.int .i64 x.sort, .int .i64 x.n, .string (bstr x.s), .slice none 0 0, .slice A x.l.length c, .pointer p], .agg #[.int .i64 y.sort, .int .i64 y.n, .string (bstr y.s), .slice none 0 0, .slice A6 y.l.length k6, .pointer q6]] w fun e w' => e = .returned (.tuple #[]) ∧ Post w0 B mb (Mv mb t r v f) w (s.oper o x y) w' := by
  have e : s.oper o x y = s.tell (.mk 1 0 [] [] none) 0 false := by unfold St.oper; rw [if_neg (fun k => hx2 k.2.1), if_neg (fun k => hx2 k.2.1), if_neg (fun k => hx1 k.1)]
  rw [e, hy]
  clear e hy
  have hb1 : Below w.heap.size w (w.alloc (.cells #[.int .i64 x.sort, .int .i64 x.n, .string (bstr x.s), .slice none 0 0, .slice A x.l.length c, .pointer p] 60)) := (Below.refl _ _).alloc (Nat.le_refl _) _
  have hb2 : Below w.heap.size w ((w.alloc (.cells #[.int .i64 x.sort, .int .i64 x.n, .string (bstr x.s), .slice none 0 0, .slice A x.l.length c, .pointer p] 60)).alloc (.cells #[.int .i64 1, .int .i64 y.n, .string (bstr y.s), .slice none 0 0, .slice A6 y.l.length k6, .pointer q6] 60)) := hb1.alloc (by rw [World.size_alloc]; omega) _
  have hb3 : Below w.heap.size w (((w.alloc (.cells #[.int .i64 x.sort, .int .i64 x.n, .string (bstr x.s), .slice none 0 0, .slice A x.l.length c, .pointer p] 60)).alloc (.cells #[.int .i64 1, .int .i64 y.n, .string (bstr y.s), .slice none 0 0, .slice A6 y.l.length k6, .pointer q6] 60)).alloc (.cells #[.int .i64 1, .int .i64 0, .string ⟨#[]⟩, .slice none 0 0, .slice none 0 0, .pointer none] 60)) := hb2.alloc (by rw [World.size_alloc, World.size_alloc]; omega) _
  have s2 : ((w.alloc (.cells #[.int .i64 x.sort, .int .i64 x.n, .string (bstr x.s), .slice none 0 0, .slice A x.l.length c, .pointer p] 60)).alloc (.cells #[.int .i64 1, .int .i64 y.n, .string (bstr y.s), .slice none 0 0, .slice A6 y.l.length k6, .pointer q6] 60)).heap.size = w.heap.size + 2 := by rw [World.size_alloc, World.size_alloc]
  have hX0 : (((w.alloc (.cells #[.int .i64 x.sort, .int .i64 x.n, .string (bstr x.s), .slice none 0 0, .slice A x.l.length c, .pointer p] 60)).alloc (.cells #[.int .i64 1, .int .i64 y.n, .string (bstr y.s), .slice none 0 0, .slice A6 y.l.length k6, .pointer q6] 60)).alloc (.cells #[.int .i64 1, .int .i64 0, .string ⟨#[]⟩, .slice none 0 0, .slice none 0 0, .pointer none] 60)).heap[w.heap.size]? = some (.cells #[.int .i64 x.sort, .int .i64 x.n, .string (bstr x.s), .slice none 0 0, .slice A x.l.length c, .pointer p] 60) := (Below.heap_alloc _ _ _ (by rw [s2]; omega)).trans ((Below.heap_alloc _ _ _ (by rw [World.size_alloc]; omega)).trans (heap_new rfl))
  have hX1 : (((w.alloc (.cells #[.int .i64 x.sort, .int .i64 x.n, .string (bstr x.s), .slice none 0 0, .slice A x.l.length c, .pointer p] 60)).alloc (.cells #[.int .i64 1, .int .i64 y.n, .string (bstr y.s), .slice none 0 0, .slice A6 y.l.length k6, .pointer q6] 60)).alloc (.cells #[.int .i64 1, .int .i64 0, .string ⟨#[]⟩, .slice none 0 0, .slice none 0 0, .pointer none] 60)).heap[w.heap.size + 1]? = some (.cells #[.int .i64 1, .int .i64 y.n, .string (bstr y.s), .slice none 0 0, .slice A6 y.l.length k6, .pointer q6] 60) := (Below.heap_alloc _ _ _ (by rw [s2]; omega)).trans (heap_new (World.size_alloc _ _))
  have hX2 : (((w.alloc (.cells #[.int .i64 x.sort, .int .i64 x.n, .string (bstr x.s), .slice none 0 0, .slice A x.l.length c, .pointer p] 60)).alloc (.cells #[.int .i64 1, .int .i64 y.n, .string (bstr y.s), .slice none 0 0, .slice A6 y.l.length k6, .pointer q6] 60)).alloc (.cells #[.int .i64 1, .int .i64 0, .string ⟨#[]⟩, .slice none 0 0, .slice none 0 0, .pointer none] 60)).heap[w.heap.size + 2]? = some (.cells #[.int .i64 1, .int .i64 0, .string ⟨#[]⟩, .slice none 0 0, .slice none 0 0, .pointer none] 60) := heap_new s2
  obtain ⟨a0, a1, a2, a3, a4, a5⟩ := cells6 hX0
  obtain ⟨d0, d1, d2, d3, d4, d5⟩ := cells6 hX1
  have HB3 := Lib.hid hb3
  have HX2 := Lib.hid hX2
  have HH := Lib.hid h
  have HN := Lib.hid hn
  have HBM := Lib.hid (fun (wr : World) (hb : Below w.heap.size w wr) => And.intro (Tr.below (P := Mv mb t r v f) hb) (hb.mono (Nat.le_of_lt (Nat.lt_of_le_of_lt h.base.2 h.lt))))
  obtain ⟨g0, g1, g2, g3, g4, g5⟩ := cells6 HX2.out
  have HT := Lib.hid (tellH_any (h.below hb3) hn 1 0 0 false)
  obtain ⟨b0, f0⟩ : ∃ b0, ((bstr o).toList == [94]) = b0 := ⟨_, rfl⟩
  obtain ⟨b1, f1⟩ : ∃ b1, ((bstr o).toList == [35]) = b1 := ⟨_, rfl⟩
  clear h hn hb1 hb2 hb3 hX0 hX1 hX2 s2
  cases b0 <;> cases b1
  all_goals
    go_enter Tryz.func62, Tryz.ntmps62
    go_wp2_with (go_at_call 58; (with_reducible refine HT.out.mono ?_); rintro e1 w2 ⟨rfl, hp⟩; have HP := Lib.hid hp; clear hp HT)
    go_returns
    with_reducible exact ⟨rfl, HP.out.mono (HBM.out _ HB3.out).1 (HBM.out _ HB3.out).2⟩
set_option maxHeartbeats 4000000 in
theorem operNnn_any (h : Rep w0 B mb s w t i r v f nx nm rcs vcs fcs) (hn : s.vals.length ≤ 100000000000) (o : Str) (x y : Val) (A : Option Addr) (c : Nat) (p : Option Addr) (A6 : Option Addr) (k6 : Nat) (q6 : Option Addr) (hx1 : ¬ x.sort = 1) (hx2 : ¬ x.sort = 2) (hy1 : ¬ y.sort = 1) (hy2 : ¬ y.sort = 2)  :
    Calls Tryz.prog 62 #[.pointer (some ⟨mb, 0, none⟩), .string (bstr o), .agg #[.int .i64 x.sort, .int .i64 x.n, .string (bstr x.s), .slice none 0 0, .slice A x.l.length c, .pointer p], .agg #[.int .i64 y.sort, .int .i64 y.n, .string (bstr y.s), .slice none 0 0, .slice A6 y.l.length k6, .pointer q6]] w fun e w' => e = .returned (.tuple #[]) ∧ Post w0 B mb (Mv mb t r v f) w (s.oper o x y) w' := by
  have e : s.oper o x y = s.tell (.mk 1 0 [] [] none) 0 false := by unfold St.oper; rw [if_neg (fun k => hx2 k.2.1), if_neg (fun k => hx2 k.2.1), if_neg (fun k => hx1 k.1)]
  rw [e]
  clear e
  have hb1 : Below w.heap.size w (w.alloc (.cells #[.int .i64 x.sort, .int .i64 x.n, .string (bstr x.s), .slice none 0 0, .slice A x.l.length c, .pointer p] 60)) := (Below.refl _ _).alloc (Nat.le_refl _) _
  have hb2 : Below w.heap.size w ((w.alloc (.cells #[.int .i64 x.sort, .int .i64 x.n, .string (bstr x.s), .slice none 0 0, .slice A x.l.length c, .pointer p] 60)).alloc (.cells #[.int .i64 y.sort, .int .i64 y.n, .string (bstr y.s), .slice none 0 0, .slice A6 y.l.length k6, .pointer q6] 60)) := hb1.alloc (by rw [World.size_alloc]; omega) _
  have hb3 : Below w.heap.size w (((w.alloc (.cells #[.int .i64 x.sort, .int .i64 x.n, .string (bstr x.s), .slice none 0 0, .slice A x.l.length c, .pointer p] 60)).alloc (.cells #[.int .i64 y.sort, .int .i64 y.n, .string (bstr y.s), .slice none 0 0, .slice A6 y.l.length k6, .pointer q6] 60)).alloc (.cells #[.int .i64 1, .int .i64 0, .string ⟨#[]⟩, .slice none 0 0, .slice none 0 0, .pointer none] 60)) := hb2.alloc (by rw [World.size_alloc, World.size_alloc]; omega) _
  have s2 : ((w.alloc (.cells #[.int .i64 x.sort, .int .i64 x.n, .string (bstr x.s), .slice none 0 0, .slice A x.l.length c, .pointer p] 60)).alloc (.cells #[.int .i64 y.sort, .int .i64 y.n, .string (bstr y.s), .slice none 0 0, .slice A6 y.l.length k6, .pointer q6] 60)).heap.size = w.heap.size + 2 := by rw [World.size_alloc, World.size_alloc]
  have hX0 : (((w.alloc (.cells #[.int .i64 x.sort, .int .i64 x.n, .string (bstr x.s), .slice none 0 0, .slice A x.l.length c, .pointer p] 60)).alloc (.cells #[.int .i64 y.sort, .int .i64 y.n, .string (bstr y.s), .slice none 0 0, .slice A6 y.l.length k6, .pointer q6] 60)).alloc (.cells #[.int .i64 1, .int .i64 0, .string ⟨#[]⟩, .slice none 0 0, .slice none 0 0, .pointer none] 60)).heap[w.heap.size]? = some (.cells #[.int .i64 x.sort, .int .i64 x.n, .string (bstr x.s), .slice none 0 0, .slice A x.l.length c, .pointer p] 60) := (Below.heap_alloc _ _ _ (by rw [s2]; omega)).trans ((Below.heap_alloc _ _ _ (by rw [World.size_alloc]; omega)).trans (heap_new rfl))
  have hX1 : (((w.alloc (.cells #[.int .i64 x.sort, .int .i64 x.n, .string (bstr x.s), .slice none 0 0, .slice A x.l.length c, .pointer p] 60)).alloc (.cells #[.int .i64 y.sort, .int .i64 y.n, .string (bstr y.s), .slice none 0 0, .slice A6 y.l.length k6, .pointer q6] 60)).alloc (.cells #[.int .i64 1, .int .i64 0, .string ⟨#[]⟩, .slice none 0 0, .slice none 0 0, .pointer none] 60)).heap[w.heap.size + 1]? = some (.cells #[.int .i64 y.sort, .int .i64 y.n, .string (bstr y.s), .slice none 0 0, .slice A6 y.l.length k6, .pointer q6] 60) := (Below.heap_alloc _ _ _ (by rw [s2]; omega)).trans (heap_new (World.size_alloc _ _))
  have hX2 : (((w.alloc (.cells #[.int .i64 x.sort, .int .i64 x.n, .string (bstr x.s), .slice none 0 0, .slice A x.l.length c, .pointer p] 60)).alloc (.cells #[.int .i64 y.sort, .int .i64 y.n, .string (bstr y.s), .slice none 0 0, .slice A6 y.l.length k6, .pointer q6] 60)).alloc (.cells #[.int .i64 1, .int .i64 0, .string ⟨#[]⟩, .slice none 0 0, .slice none 0 0, .pointer none] 60)).heap[w.heap.size + 2]? = some (.cells #[.int .i64 1, .int .i64 0, .string ⟨#[]⟩, .slice none 0 0, .slice none 0 0, .pointer none] 60) := heap_new s2
  obtain ⟨a0, a1, a2, a3, a4, a5⟩ := cells6 hX0
  obtain ⟨d0, d1, d2, d3, d4, d5⟩ := cells6 hX1
  have HB3 := Lib.hid hb3
  have HX2 := Lib.hid hX2
  have HH := Lib.hid h
  have HN := Lib.hid hn
  have HBM := Lib.hid (fun (wr : World) (hb : Below w.heap.size w wr) => And.intro (Tr.below (P := Mv mb t r v f) hb) (hb.mono (Nat.le_of_lt (Nat.lt_of_le_of_lt h.base.2 h.lt))))
  obtain ⟨g0, g1, g2, g3, g4, g5⟩ := cells6 HX2.out
  have HT := Lib.hid (tellH_any (h.below hb3) hn 1 0 0 false)
  obtain ⟨b0, f0⟩ : ∃ b0, ((bstr o).toList == [94]) = b0 := ⟨_, rfl⟩
  obtain ⟨b1, f1⟩ : ∃ b1, ((bstr o).toList == [35]) = b1 := ⟨_, rfl⟩
  clear h hn hb1 hb2 hb3 hX0 hX1 hX2 s2
  cases b0 <;> cases b1
  all_goals
    go_enter Tryz.func62, Tryz.ntmps62
    go_wp2_with (go_at_call 58; (with_reducible refine HT.out.mono ?_); rintro e1 w2 ⟨rfl, hp⟩; have HP := Lib.hid hp; clear hp HT)
    go_returns
    with_reducible exact ⟨rfl, HP.out.mono (HBM.out _ HB3.out).1 (HBM.out _ HB3.out).2⟩
set_option maxHeartbeats 4000000 in
theorem oper_any (h : Rep w0 B mb s w t i r v f nx nm rcs vcs fcs) (hn : s.vals.length ≤ 100000000000) (o : Str) (x y : Val) (A : Option Addr) (c : Nat) (p : Option Addr) (A6 : Option Addr) (k6 : Nat) (q6 : Option Addr) (h1 : x.s.length ≤ 4000000) (h2 : y.s.length ≤ 4000000) (h3 : -9223372036854775808 ≤ x.n ∧ x.n ≤ 9223372036854775807) (h4 : -9223372036854775808 ≤ y.n ∧ y.n ≤ 9223372036854775807) :
    Calls Tryz.prog 62 #[.pointer (some ⟨mb, 0, none⟩), .string (bstr o), .agg #[.int .i64 x.sort, .int .i64 x.n, .string (bstr x.s), .slice none 0 0, .slice A x.l.length c, .pointer p], .agg #[.int .i64 y.sort, .int .i64 y.n, .string (bstr y.s), .slice none 0 0, .slice A6 y.l.length k6, .pointer q6]] w fun e w' => e = .returned (.tuple #[]) ∧ Post w0 B mb (Mv mb t r v f) w (s.oper o x y) w' := by
  by_cases x2 : x.sort = 2
  · by_cases y2 : y.sort = 2
    · by_cases ho : o = [94]
      · exact operJ_any h hn o x y A c p A6 k6 q6 ho x2 y2 h1 h2
      · exact operN22_any h hn o x y A c p A6 k6 q6 x2 y2 ho
    · by_cases y1 : y.sort = 1
      · by_cases ho : o = [35]
        · exact operB_any h hn o x y A c p A6 k6 q6 ho x2 y1 h1
        · exact operN21_any h hn o x y A c p A6 k6 q6 x2 y1 ho
      · exact operN2n_any h hn o x y A c p A6 k6 q6 x2 y1 y2
  · by_cases x1 : x.sort = 1
    · by_cases y1 : y.sort = 1
      · exact operI_any h hn o x y A c p A6 k6 q6 x1 y1 h3 h4
      · by_cases y2 : y.sort = 2
        · exact operN12_any h hn o x y A c p A6 k6 q6 x1 y2
        · exact operN1n_any h hn o x y A c p A6 k6 q6 x1 y1 y2
    · by_cases y2 : y.sort = 2
      · exact operNn2_any h hn o x y A c p A6 k6 q6 x1 x2 y2
      · by_cases y1 : y.sort = 1
        · exact operNn1_any h hn o x y A c p A6 k6 q6 x1 x2 y1
        · exact operNnn_any h hn o x y A c p A6 k6 q6 x1 x2 y1 y2
end
end Go.Proofs.YtpdfjdomjklkbaaGreatDoor

namespace Go.Proofs.YtpdfjdomjklkbaaGreatDoor
open Go.ChangeShapes Go.WideShapes Go.ChangeAt Go.RowKit Go.Sort
set_option linter.unusedVariables false
set_option linter.unusedSimpArgs false

def isTup (z y : Val) (m : Int) : Bool := decide (z.sort = 4 ∧ y.sort = 1 ∧ 0 ≤ y.n ∧ y.n < z.l.length + m)
set_option maxHeartbeats 4000000 in
theorem isTupA (w : World) (b1 b2 : Nat) (a k m : Int) (s1 s2 : Int) (A : Option Addr) (n c : Nat) (u1 u2 u3 u5 v2 v3 v4 v5 : Value) (h1 : w.heap[b1]? = some (.cells #[.int .i64 s1, u1, u2, u3, .slice A n c, u5] 60)) (h2 : w.heap[b2]? = some (.cells #[.int .i64 s2, .int .i64 k, v2, v3, v4, v5] 60)) (hm : 0 ≤ m ∧ m ≤ 1) (hn : n ≤ 100000000000) (hs : ¬ s1 = 4) :
    Calls Tryz.prog 80 #[.pointer (some ⟨b1, 0, none⟩), .pointer (some ⟨b2, 0, none⟩), .int .i64 m] w fun e w' => e = .returned (.bool false) ∧ Below w.heap.size w w' := by
  obtain ⟨a0, a1, a2, a3, a4, a5⟩ := cells6 h1
  obtain ⟨d0, d1, d2, d3, d4, d5⟩ := cells6 h2
  have e1 : (s1 == 4) = false := by simpa using hs
  clear h1 h2
  go_enter Tryz.func80, Tryz.ntmps80
  go_upto_region 1 with fail
  go_quiet (fail)
  all_goals
    go_wp2_with fail
    go_returns
    exact ⟨rfl, ⟨rfl, rfl, rfl, Nat.le_refl _, fun _ _ => rfl⟩⟩
set_option maxHeartbeats 4000000 in
theorem isTupB (w : World) (b1 b2 : Nat) (a k m : Int) (s1 s2 : Int) (A : Option Addr) (n c : Nat) (u1 u2 u3 u5 v2 v3 v4 v5 : Value) (h1 : w.heap[b1]? = some (.cells #[.int .i64 4, u1, u2, u3, .slice A n c, u5] 60)) (h2 : w.heap[b2]? = some (.cells #[.int .i64 s2, .int .i64 k, v2, v3, v4, v5] 60)) (hm : 0 ≤ m ∧ m ≤ 1) (hn : n ≤ 100000000000) (hs : ¬ s2 = 1) :
    Calls Tryz.prog 80 #[.pointer (some ⟨b1, 0, none⟩), .pointer (some ⟨b2, 0, none⟩), .int .i64 m] w fun e w' => e = .returned (.bool false) ∧ Below w.heap.size w w' := by
  obtain ⟨a0, a1, a2, a3, a4, a5⟩ := cells6 h1
  obtain ⟨d0, d1, d2, d3, d4, d5⟩ := cells6 h2
  have e1 : (s2 == 1) = false := by simpa using hs
  clear h1 h2
  go_enter Tryz.func80, Tryz.ntmps80
  go_upto_region 1 with fail
  go_quiet (fail)
  all_goals
    go_wp2_with fail
    go_returns
    exact ⟨rfl, ⟨rfl, rfl, rfl, Nat.le_refl _, fun _ _ => rfl⟩⟩
set_option maxHeartbeats 4000000 in
theorem isTupC (w : World) (b1 b2 : Nat) (a k m : Int) (s1 s2 : Int) (A : Option Addr) (n c : Nat) (u1 u2 u3 u5 v2 v3 v4 v5 : Value) (h1 : w.heap[b1]? = some (.cells #[.int .i64 4, u1, u2, u3, .slice A n c, u5] 60)) (h2 : w.heap[b2]? = some (.cells #[.int .i64 1, .int .i64 k, v2, v3, v4, v5] 60)) (hm : 0 ≤ m ∧ m ≤ 1) (hn : n ≤ 100000000000) (hk : ¬ 0 ≤ k) :
    Calls Tryz.prog 80 #[.pointer (some ⟨b1, 0, none⟩), .pointer (some ⟨b2, 0, none⟩), .int .i64 m] w fun e w' => e = .returned (.bool false) ∧ Below w.heap.size w w' := by
  obtain ⟨a0, a1, a2, a3, a4, a5⟩ := cells6 h1
  obtain ⟨d0, d1, d2, d3, d4, d5⟩ := cells6 h2
  have e1 : decide (0 ≤ k) = false := decide_eq_false hk
  clear h1 h2
  go_enter Tryz.func80, Tryz.ntmps80
  go_upto_region 1 with fail
  go_quiet (fail)
  all_goals
    go_wp2_with fail
    go_returns
    exact ⟨rfl, ⟨rfl, rfl, rfl, Nat.le_refl _, fun _ _ => rfl⟩⟩
set_option maxHeartbeats 4000000 in
theorem isTupD (w : World) (b1 b2 : Nat) (a k m : Int) (s1 s2 : Int) (A : Option Addr) (n c : Nat) (u1 u2 u3 u5 v2 v3 v4 v5 : Value) (h1 : w.heap[b1]? = some (.cells #[.int .i64 4, u1, u2, u3, .slice A n c, u5] 60)) (h2 : w.heap[b2]? = some (.cells #[.int .i64 1, .int .i64 k, v2, v3, v4, v5] 60)) (hm : 0 ≤ m ∧ m ≤ 1) (hn : n ≤ 100000000000) (hk : 0 ≤ k) (hl : ¬ k < (n : Int) + m) :
    Calls Tryz.prog 80 #[.pointer (some ⟨b1, 0, none⟩), .pointer (some ⟨b2, 0, none⟩), .int .i64 m] w fun e w' => e = .returned (.bool false) ∧ Below w.heap.size w w' := by
  obtain ⟨a0, a1, a2, a3, a4, a5⟩ := cells6 h1
  obtain ⟨d0, d1, d2, d3, d4, d5⟩ := cells6 h2
  have e1 : decide (0 ≤ k) = true := decide_eq_true hk
  have e2 : decide (k < (n : Int) + m) = false := decide_eq_false hl
  have e3 : (n : Int) ≤ 100000000000 := by omega
  clear h1 h2
  go_enter Tryz.func80, Tryz.ntmps80
  go_upto_region 1 with fail
  go_quiet (fail)
  all_goals
    go_wp2_with fail
    go_returns
    exact ⟨rfl, ⟨rfl, rfl, rfl, Nat.le_refl _, fun _ _ => rfl⟩⟩
set_option maxHeartbeats 4000000 in
theorem isTupE (w : World) (b1 b2 : Nat) (a k m : Int) (s1 s2 : Int) (A : Option Addr) (n c : Nat) (u1 u2 u3 u5 v2 v3 v4 v5 : Value) (h1 : w.heap[b1]? = some (.cells #[.int .i64 4, u1, u2, u3, .slice A n c, u5] 60)) (h2 : w.heap[b2]? = some (.cells #[.int .i64 1, .int .i64 k, v2, v3, v4, v5] 60)) (hm : 0 ≤ m ∧ m ≤ 1) (hn : n ≤ 100000000000) (hk : 0 ≤ k) (hl : k < (n : Int) + m) :
    Calls Tryz.prog 80 #[.pointer (some ⟨b1, 0, none⟩), .pointer (some ⟨b2, 0, none⟩), .int .i64 m] w fun e w' => e = .returned (.bool true) ∧ Below w.heap.size w w' := by
  obtain ⟨a0, a1, a2, a3, a4, a5⟩ := cells6 h1
  obtain ⟨d0, d1, d2, d3, d4, d5⟩ := cells6 h2
  have e1 : decide (0 ≤ k) = true := decide_eq_true hk
  have e2 : decide (k < (n : Int) + m) = true := decide_eq_true hl
  have e3 : (n : Int) ≤ 100000000000 := by omega
  clear h1 h2
  go_enter Tryz.func80, Tryz.ntmps80
  go_upto_region 1 with fail
  go_quiet (fail)
  all_goals
    go_wp2_with fail
    go_returns
    exact ⟨rfl, ⟨rfl, rfl, rfl, Nat.le_refl _, fun _ _ => rfl⟩⟩
theorem isTuple_any (w : World) (b1 b2 : Nat) (z y : Val) (m : Int) (A A6 : Option Addr) (c k6 : Nat) (p q6 : Option Addr) (h1 : w.heap[b1]? = some (.cells #[.int .i64 z.sort, .int .i64 z.n, .string (bstr z.s), .slice none 0 0, .slice A z.l.length c, .pointer p] 60)) (h2 : w.heap[b2]? = some (.cells #[.int .i64 y.sort, .int .i64 y.n, .string (bstr y.s), .slice none 0 0, .slice A6 y.l.length k6, .pointer q6] 60)) (hm : 0 ≤ m ∧ m ≤ 1) (hn : z.l.length ≤ 100000000000) :
    Calls Tryz.prog 80 #[.pointer (some ⟨b1, 0, none⟩), .pointer (some ⟨b2, 0, none⟩), .int .i64 m] w fun e w' => e = .returned (.bool (isTup z y m)) ∧ Below w.heap.size w w' := by
  by_cases c1 : z.sort = 4
  · rw [c1] at h1
    by_cases c2 : y.sort = 1
    · rw [c2] at h2
      by_cases c3 : 0 ≤ y.n
      · by_cases c4 : y.n < (z.l.length : Int) + m
        · rw [show isTup z y m = true from decide_eq_true ⟨c1, c2, c3, c4⟩]
          exact isTupE w b1 b2 0 y.n m 0 0 A z.l.length c _ _ _ _ _ _ _ _ h1 h2 hm hn c3 c4
        · rw [show isTup z y m = false from decide_eq_false (fun k => c4 k.2.2.2)]
          exact isTupD w b1 b2 0 y.n m 0 0 A z.l.length c _ _ _ _ _ _ _ _ h1 h2 hm hn c3 c4
      · rw [show isTup z y m = false from decide_eq_false (fun k => c3 k.2.2.1)]
        exact isTupC w b1 b2 0 y.n m 0 0 A z.l.length c _ _ _ _ _ _ _ _ h1 h2 hm hn c3
    · rw [show isTup z y m = false from decide_eq_false (fun k => c2 k.2.1)]
      exact isTupB w b1 b2 0 y.n m 0 _ A z.l.length c _ _ _ _ _ _ _ _ h1 h2 hm hn c2
  · rw [show isTup z y m = false from decide_eq_false (fun k => c1 k.1)]
    exact isTupA w b1 b2 0 y.n m _ _ A z.l.length c _ _ _ _ _ _ _ _ h1 h2 hm hn c1
end Go.Proofs.YtpdfjdomjklkbaaGreatDoor
