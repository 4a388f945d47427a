/-
  The machine: an operator. (Made by gen_mar.py.)
  Whether a value is a tuple, and another an offset of it. (Made by gen_mas.py.)
  Whether an expression has as many parts as its kind asks for. (Made by gen_mat.py.)
  core's machine begins an expression: its simple kinds.
  core's machine begins an expression: its simple kinds. (Made by gen_mav.py.)
  core's machine begins a function.
-/
import Derived.Test.YtpdfjdomjklkbaaDoorK02
import Derived.BigQuiet
import Derived.StillTailTactics
namespace Go.Proofs.YtpdfjdomjklkbaaDoor
open Go.ChangeShapes Go.WideShapes Go.ChangeAt Go.RowKit Go.Sort
set_option linter.unusedVariables false
set_option linter.unusedSimpArgs false

def St.oper (s : St) (o : Str) (x y : Val) : St :=
  if o = [94] ∧ x.sort = 2 ∧ y.sort = 2 then s.tell (.mk 2 0 (joinOf x.s y.s).1 [] none) (joinOf x.s y.s).2 true
  else if o = [35] ∧ x.sort = 2 ∧ y.sort = 1 then s.tell (.mk 1 (byteOf x.s y.n).1 [] [] none) (byteOf x.s y.n).2 true
  else if x.sort = 1 ∧ y.sort = 1 then s.tell (.mk 1 (intsOf o x.n y.n).1 [] [] none) (intsOf o x.n y.n).2.1 (intsOf o x.n y.n).2.2
  else s.tell (.mk 1 0 [] [] none) 0 false
section
variable {w0 w : World} {B mb : Nat} {s : St} {t i r v f nx nm : Value} {rcs vcs fcs : List (List Value)}
/-- A value without parts is told, or a fault. -/
theorem tellG_any (h : Rep w0 B mb s w t i r v f nx nm rcs vcs fcs) (hn : s.vals.length ≤ 100000000000) (sort n : Int) (st : Str) (k : Int) (is : Bool) :
    Calls Tryd.prog 35 #[.pointer (some ⟨mb, 0, none⟩), .agg #[.int .i64 sort, .int .i64 n, .string (bstr st), .slice none 0 0, .slice none 0 0, .pointer none], .int .i64 k, .bool is] w fun e w' => e = .returned (.tuple #[]) ∧ Post w0 B mb (Mv mb t r v f) w (s.tell (.mk sort n st [] none) k is) w' :=
  tellF_any h hn (.mk sort n st [] none) none 0 none k is (fun _ _ => plain_vr w0 w _ sort n st)
theorem tellH_any (h : Rep w0 B mb s w t i r v f nx nm rcs vcs fcs) (hn : s.vals.length ≤ 100000000000) (sort n : Int) (k : Int) (is : Bool) :
    Calls Tryd.prog 35 #[.pointer (some ⟨mb, 0, none⟩), .agg #[.int .i64 sort, .int .i64 n, .string ⟨#[]⟩, .slice none 0 0, .slice none 0 0, .pointer none], .int .i64 k, .bool is] w fun e w' => e = .returned (.tuple #[]) ∧ Post w0 B mb (Mv mb t r v f) w (s.tell (.mk sort n [] [] none) k is) w' :=
  tellG_any h hn sort n [] k is
set_option maxHeartbeats 4000000 in
theorem operJ_any (h : Rep w0 B mb s w t i r v f nx nm rcs vcs fcs) (hn : s.vals.length ≤ 100000000000) (o : Str) (x y : Val) (A : Option Addr) (c : Nat) (p : Option Addr) (A6 : Option Addr) (k6 : Nat) (q6 : Option Addr) (ho : o = [94]) (hx : x.sort = 2) (hy : y.sort = 2) (h1 : x.s.length ≤ 4000000) (h2 : y.s.length ≤ 4000000) :
    Calls Tryd.prog 39 #[.pointer (some ⟨mb, 0, none⟩), .string (bstr o), .agg #[.int .i64 x.sort, .int .i64 x.n, .string (bstr x.s), .slice none 0 0, .slice A x.l.length c, .pointer p], .agg #[.int .i64 y.sort, .int .i64 y.n, .string (bstr y.s), .slice none 0 0, .slice A6 y.l.length k6, .pointer q6]] w fun e w' => e = .returned (.tuple #[]) ∧ Post w0 B mb (Mv mb t r v f) w (s.oper o x y) w' := by
  have e : s.oper o x y = s.tell (.mk 2 0 (joinOf x.s y.s).1 [] none) (joinOf x.s y.s).2 true := by unfold St.oper; rw [if_pos ⟨ho, hx, hy⟩]
  rw [e, hx, hy]
  subst ho
  clear e hx hy
  have hb1 : Below w.heap.size w (w.alloc (.cells #[.int .i64 2, .int .i64 x.n, .string (bstr x.s), .slice none 0 0, .slice A x.l.length c, .pointer p] 50)) := (Below.refl _ _).alloc (Nat.le_refl _) _
  have hb2 : Below w.heap.size w ((w.alloc (.cells #[.int .i64 2, .int .i64 x.n, .string (bstr x.s), .slice none 0 0, .slice A x.l.length c, .pointer p] 50)).alloc (.cells #[.int .i64 2, .int .i64 y.n, .string (bstr y.s), .slice none 0 0, .slice A6 y.l.length k6, .pointer q6] 50)) := hb1.alloc (by rw [World.size_alloc]; omega) _
  have hb3 : Below w.heap.size w (((w.alloc (.cells #[.int .i64 2, .int .i64 x.n, .string (bstr x.s), .slice none 0 0, .slice A x.l.length c, .pointer p] 50)).alloc (.cells #[.int .i64 2, .int .i64 y.n, .string (bstr y.s), .slice none 0 0, .slice A6 y.l.length k6, .pointer q6] 50)).alloc (.cells #[.int .i64 2, .int .i64 0, .string ⟨#[]⟩, .slice none 0 0, .slice none 0 0, .pointer none] 50)) := hb2.alloc (by rw [World.size_alloc, World.size_alloc]; omega) _
  have s2 : ((w.alloc (.cells #[.int .i64 2, .int .i64 x.n, .string (bstr x.s), .slice none 0 0, .slice A x.l.length c, .pointer p] 50)).alloc (.cells #[.int .i64 2, .int .i64 y.n, .string (bstr y.s), .slice none 0 0, .slice A6 y.l.length k6, .pointer q6] 50)).heap.size = w.heap.size + 2 := by rw [World.size_alloc, World.size_alloc]
  have hX0 : (((w.alloc (.cells #[.int .i64 2, .int .i64 x.n, .string (bstr x.s), .slice none 0 0, .slice A x.l.length c, .pointer p] 50)).alloc (.cells #[.int .i64 2, .int .i64 y.n, .string (bstr y.s), .slice none 0 0, .slice A6 y.l.length k6, .pointer q6] 50)).alloc (.cells #[.int .i64 2, .int .i64 0, .string ⟨#[]⟩, .slice none 0 0, .slice none 0 0, .pointer none] 50)).heap[w.heap.size]? = some (.cells #[.int .i64 2, .int .i64 x.n, .string (bstr x.s), .slice none 0 0, .slice A x.l.length c, .pointer p] 50) := (Below.heap_alloc _ _ _ (by rw [s2]; omega)).trans ((Below.heap_alloc _ _ _ (by rw [World.size_alloc]; omega)).trans (heap_new rfl))
  have hX1 : (((w.alloc (.cells #[.int .i64 2, .int .i64 x.n, .string (bstr x.s), .slice none 0 0, .slice A x.l.length c, .pointer p] 50)).alloc (.cells #[.int .i64 2, .int .i64 y.n, .string (bstr y.s), .slice none 0 0, .slice A6 y.l.length k6, .pointer q6] 50)).alloc (.cells #[.int .i64 2, .int .i64 0, .string ⟨#[]⟩, .slice none 0 0, .slice none 0 0, .pointer none] 50)).heap[w.heap.size + 1]? = some (.cells #[.int .i64 2, .int .i64 y.n, .string (bstr y.s), .slice none 0 0, .slice A6 y.l.length k6, .pointer q6] 50) := (Below.heap_alloc _ _ _ (by rw [s2]; omega)).trans (heap_new (World.size_alloc _ _))
  have hX2 : (((w.alloc (.cells #[.int .i64 2, .int .i64 x.n, .string (bstr x.s), .slice none 0 0, .slice A x.l.length c, .pointer p] 50)).alloc (.cells #[.int .i64 2, .int .i64 y.n, .string (bstr y.s), .slice none 0 0, .slice A6 y.l.length k6, .pointer q6] 50)).alloc (.cells #[.int .i64 2, .int .i64 0, .string ⟨#[]⟩, .slice none 0 0, .slice none 0 0, .pointer none] 50)).heap[w.heap.size + 2]? = some (.cells #[.int .i64 2, .int .i64 0, .string ⟨#[]⟩, .slice none 0 0, .slice none 0 0, .pointer none] 50) := heap_new s2
  obtain ⟨a0, a1, a2, a3, a4, a5⟩ := cells6 hX0
  obtain ⟨d0, d1, d2, d3, d4, d5⟩ := cells6 hX1
  have HB3 := Lib.hid hb3
  have HX2 := Lib.hid hX2
  have HH := Lib.hid h
  have HN := Lib.hid hn
  have HBM := Lib.hid (fun (wr : World) (hb : Below w.heap.size w wr) => And.intro (Tr.below (P := Mv mb t r v f) hb) (hb.mono (Nat.le_of_lt (Nat.lt_of_le_of_lt h.base.2 h.lt))))
  have HC := Lib.hid (fun W => join_any W x.s y.s h1 h2)
  have f0 : ((bstr [94]).toList == [94]) = true := by rw [bstr_toList]; rfl
  clear h1 h2
  clear h hn hb1 hb2 hb3 hX0 hX1 hX2 s2
  go_enter Tryd.func39, Tryd.ntmps39
  go_wp2_with (first | (go_at_call 48; (with_reducible refine (HC.out _).mono ?_); rintro e1 w1 ⟨rfl, hb1⟩; have hq := (hb1.block _ (lt_of_heap HX2.out)).trans HX2.out; obtain ⟨g0, g1, g2, g3, g4, g5⟩ := cells6 hq; have z2 := frozenN hq 2; have gs : (w1.setCell ⟨w.heap.size + 2, 2, none⟩ (.string (bstr (joinOf x.s y.s).1))).cell? ⟨w.heap.size + 2, 2, none⟩ = some (.string (bstr (joinOf x.s y.s).1)) := (by rw [Lib.cell_of_heap (set_cells hq 2 _)]; rfl); have hbw : Below w.heap.size w (w1.setCell ⟨w.heap.size + 2, 2, none⟩ (.string (bstr (joinOf x.s y.s).1))) := (below_then HB3.out hb1).setCell (p := ⟨w.heap.size + 2, 2, none⟩) (by show w.heap.size ≤ w.heap.size + 2; omega) _; have HBW := Lib.hid hbw; have HT := Lib.hid (tellG_any (HH.out.below hbw) HN.out 2 0 (joinOf x.s y.s).1 (joinOf x.s y.s).2 true); clear hb1 hq hbw HC) | (go_at_call 35; (with_reducible refine HT.out.mono ?_); rintro e1 w2 ⟨rfl, hp⟩; have HP := Lib.hid hp; clear hp HT))
  go_returns
  with_reducible exact ⟨rfl, HP.out.mono (HBM.out _ HBW.out).1 (HBM.out _ HBW.out).2⟩
set_option maxHeartbeats 4000000 in
theorem operB_any (h : Rep w0 B mb s w t i r v f nx nm rcs vcs fcs) (hn : s.vals.length ≤ 100000000000) (o : Str) (x y : Val) (A : Option Addr) (c : Nat) (p : Option Addr) (A6 : Option Addr) (k6 : Nat) (q6 : Option Addr) (ho : o = [35]) (hx : x.sort = 2) (hy : y.sort = 1) (h1 : x.s.length ≤ 4000000) :
    Calls Tryd.prog 39 #[.pointer (some ⟨mb, 0, none⟩), .string (bstr o), .agg #[.int .i64 x.sort, .int .i64 x.n, .string (bstr x.s), .slice none 0 0, .slice A x.l.length c, .pointer p], .agg #[.int .i64 y.sort, .int .i64 y.n, .string (bstr y.s), .slice none 0 0, .slice A6 y.l.length k6, .pointer q6]] w fun e w' => e = .returned (.tuple #[]) ∧ Post w0 B mb (Mv mb t r v f) w (s.oper o x y) w' := by
  have e : s.oper o x y = s.tell (.mk 1 (byteOf x.s y.n).1 [] [] none) (byteOf x.s y.n).2 true := by unfold St.oper; rw [if_neg (by rw [hy]; simp), if_pos ⟨ho, hx, hy⟩]
  rw [e, hx, hy]
  subst ho
  clear e hx hy
  have hb1 : Below w.heap.size w (w.alloc (.cells #[.int .i64 2, .int .i64 x.n, .string (bstr x.s), .slice none 0 0, .slice A x.l.length c, .pointer p] 50)) := (Below.refl _ _).alloc (Nat.le_refl _) _
  have hb2 : Below w.heap.size w ((w.alloc (.cells #[.int .i64 2, .int .i64 x.n, .string (bstr x.s), .slice none 0 0, .slice A x.l.length c, .pointer p] 50)).alloc (.cells #[.int .i64 1, .int .i64 y.n, .string (bstr y.s), .slice none 0 0, .slice A6 y.l.length k6, .pointer q6] 50)) := hb1.alloc (by rw [World.size_alloc]; omega) _
  have hb3 : Below w.heap.size w (((w.alloc (.cells #[.int .i64 2, .int .i64 x.n, .string (bstr x.s), .slice none 0 0, .slice A x.l.length c, .pointer p] 50)).alloc (.cells #[.int .i64 1, .int .i64 y.n, .string (bstr y.s), .slice none 0 0, .slice A6 y.l.length k6, .pointer q6] 50)).alloc (.cells #[.int .i64 1, .int .i64 0, .string ⟨#[]⟩, .slice none 0 0, .slice none 0 0, .pointer none] 50)) := hb2.alloc (by rw [World.size_alloc, World.size_alloc]; omega) _
  have s2 : ((w.alloc (.cells #[.int .i64 2, .int .i64 x.n, .string (bstr x.s), .slice none 0 0, .slice A x.l.length c, .pointer p] 50)).alloc (.cells #[.int .i64 1, .int .i64 y.n, .string (bstr y.s), .slice none 0 0, .slice A6 y.l.length k6, .pointer q6] 50)).heap.size = w.heap.size + 2 := by rw [World.size_alloc, World.size_alloc]
  have hX0 : (((w.alloc (.cells #[.int .i64 2, .int .i64 x.n, .string (bstr x.s), .slice none 0 0, .slice A x.l.length c, .pointer p] 50)).alloc (.cells #[.int .i64 1, .int .i64 y.n, .string (bstr y.s), .slice none 0 0, .slice A6 y.l.length k6, .pointer q6] 50)).alloc (.cells #[.int .i64 1, .int .i64 0, .string ⟨#[]⟩, .slice none 0 0, .slice none 0 0, .pointer none] 50)).heap[w.heap.size]? = some (.cells #[.int .i64 2, .int .i64 x.n, .string (bstr x.s), .slice none 0 0, .slice A x.l.length c, .pointer p] 50) := (Below.heap_alloc _ _ _ (by rw [s2]; omega)).trans ((Below.heap_alloc _ _ _ (by rw [World.size_alloc]; omega)).trans (heap_new rfl))
  have hX1 : (((w.alloc (.cells #[.int .i64 2, .int .i64 x.n, .string (bstr x.s), .slice none 0 0, .slice A x.l.length c, .pointer p] 50)).alloc (.cells #[.int .i64 1, .int .i64 y.n, .string (bstr y.s), .slice none 0 0, .slice A6 y.l.length k6, .pointer q6] 50)).alloc (.cells #[.int .i64 1, .int .i64 0, .string ⟨#[]⟩, .slice none 0 0, .slice none 0 0, .pointer none] 50)).heap[w.heap.size + 1]? = some (.cells #[.int .i64 1, .int .i64 y.n, .string (bstr y.s), .slice none 0 0, .slice A6 y.l.length k6, .pointer q6] 50) := (Below.heap_alloc _ _ _ (by rw [s2]; omega)).trans (heap_new (World.size_alloc _ _))
  have hX2 : (((w.alloc (.cells #[.int .i64 2, .int .i64 x.n, .string (bstr x.s), .slice none 0 0, .slice A x.l.length c, .pointer p] 50)).alloc (.cells #[.int .i64 1, .int .i64 y.n, .string (bstr y.s), .slice none 0 0, .slice A6 y.l.length k6, .pointer q6] 50)).alloc (.cells #[.int .i64 1, .int .i64 0, .string ⟨#[]⟩, .slice none 0 0, .slice none 0 0, .pointer none] 50)).heap[w.heap.size + 2]? = some (.cells #[.int .i64 1, .int .i64 0, .string ⟨#[]⟩, .slice none 0 0, .slice none 0 0, .pointer none] 50) := heap_new s2
  obtain ⟨a0, a1, a2, a3, a4, a5⟩ := cells6 hX0
  obtain ⟨d0, d1, d2, d3, d4, d5⟩ := cells6 hX1
  have HB3 := Lib.hid hb3
  have HX2 := Lib.hid hX2
  have HH := Lib.hid h
  have HN := Lib.hid hn
  have HBM := Lib.hid (fun (wr : World) (hb : Below w.heap.size w wr) => And.intro (Tr.below (P := Mv mb t r v f) hb) (hb.mono (Nat.le_of_lt (Nat.lt_of_le_of_lt h.base.2 h.lt))))
  have HC := Lib.hid (fun W => byte_any W x.s y.n h1)
  have f0 : ((bstr [35]).toList == [94]) = false := by rw [bstr_toList]; rfl
  have f1 : ((bstr [35]).toList == [35]) = true := by rw [bstr_toList]; rfl
  clear h1
  clear h hn hb1 hb2 hb3 hX0 hX1 hX2 s2
  go_enter Tryd.func39, Tryd.ntmps39
  go_wp2_with (first | (go_at_call 49; (with_reducible refine (HC.out _).mono ?_); rintro e1 w1 ⟨rfl, hb1⟩; have hq := (hb1.block _ (lt_of_heap HX2.out)).trans HX2.out; obtain ⟨g0, g1, g2, g3, g4, g5⟩ := cells6 hq; have z1 := frozenN hq 1; have gs : (w1.setCell ⟨w.heap.size + 2, 1, none⟩ (.int .i64 (byteOf x.s y.n).1)).cell? ⟨w.heap.size + 2, 1, none⟩ = some (.int .i64 (byteOf x.s y.n).1) := (by rw [Lib.cell_of_heap (set_cells hq 1 _)]; rfl); have hbw : Below w.heap.size w (w1.setCell ⟨w.heap.size + 2, 1, none⟩ (.int .i64 (byteOf x.s y.n).1)) := (below_then HB3.out hb1).setCell (p := ⟨w.heap.size + 2, 1, none⟩) (by show w.heap.size ≤ w.heap.size + 2; omega) _; have HBW := Lib.hid hbw; have HT := Lib.hid (tellH_any (HH.out.below hbw) HN.out 1 (byteOf x.s y.n).1 (byteOf x.s y.n).2 true); clear hb1 hq hbw HC) | (go_at_call 35; (with_reducible refine HT.out.mono ?_); rintro e1 w2 ⟨rfl, hp⟩; have HP := Lib.hid hp; clear hp HT))
  go_returns
  with_reducible exact ⟨rfl, HP.out.mono (HBM.out _ HBW.out).1 (HBM.out _ HBW.out).2⟩
set_option maxHeartbeats 4000000 in
theorem operI_any (h : Rep w0 B mb s w t i r v f nx nm rcs vcs fcs) (hn : s.vals.length ≤ 100000000000) (o : Str) (x y : Val) (A : Option Addr) (c : Nat) (p : Option Addr) (A6 : Option Addr) (k6 : Nat) (q6 : Option Addr) (hx : x.sort = 1) (hy : y.sort = 1) (h1 : -9223372036854775808 ≤ x.n ∧ x.n ≤ 9223372036854775807) (h2 : -9223372036854775808 ≤ y.n ∧ y.n ≤ 9223372036854775807) :
    Calls Tryd.prog 39 #[.pointer (some ⟨mb, 0, none⟩), .string (bstr o), .agg #[.int .i64 x.sort, .int .i64 x.n, .string (bstr x.s), .slice none 0 0, .slice A x.l.length c, .pointer p], .agg #[.int .i64 y.sort, .int .i64 y.n, .string (bstr y.s), .slice none 0 0, .slice A6 y.l.length k6, .pointer q6]] w fun e w' => e = .returned (.tuple #[]) ∧ Post w0 B mb (Mv mb t r v f) w (s.oper o x y) w' := by
  have e : s.oper o x y = s.tell (.mk 1 (intsOf o x.n y.n).1 [] [] none) (intsOf o x.n y.n).2.1 (intsOf o x.n y.n).2.2 := by unfold St.oper; rw [if_neg (by rw [hx]; simp), if_neg (by rw [hx]; simp), if_pos ⟨hx, hy⟩]
  rw [e, hx, hy]
  clear e hx hy
  have hb1 : Below w.heap.size w (w.alloc (.cells #[.int .i64 1, .int .i64 x.n, .string (bstr x.s), .slice none 0 0, .slice A x.l.length c, .pointer p] 50)) := (Below.refl _ _).alloc (Nat.le_refl _) _
  have hb2 : Below w.heap.size w ((w.alloc (.cells #[.int .i64 1, .int .i64 x.n, .string (bstr x.s), .slice none 0 0, .slice A x.l.length c, .pointer p] 50)).alloc (.cells #[.int .i64 1, .int .i64 y.n, .string (bstr y.s), .slice none 0 0, .slice A6 y.l.length k6, .pointer q6] 50)) := hb1.alloc (by rw [World.size_alloc]; omega) _
  have hb3 : Below w.heap.size w (((w.alloc (.cells #[.int .i64 1, .int .i64 x.n, .string (bstr x.s), .slice none 0 0, .slice A x.l.length c, .pointer p] 50)).alloc (.cells #[.int .i64 1, .int .i64 y.n, .string (bstr y.s), .slice none 0 0, .slice A6 y.l.length k6, .pointer q6] 50)).alloc (.cells #[.int .i64 1, .int .i64 0, .string ⟨#[]⟩, .slice none 0 0, .slice none 0 0, .pointer none] 50)) := hb2.alloc (by rw [World.size_alloc, World.size_alloc]; omega) _
  have s2 : ((w.alloc (.cells #[.int .i64 1, .int .i64 x.n, .string (bstr x.s), .slice none 0 0, .slice A x.l.length c, .pointer p] 50)).alloc (.cells #[.int .i64 1, .int .i64 y.n, .string (bstr y.s), .slice none 0 0, .slice A6 y.l.length k6, .pointer q6] 50)).heap.size = w.heap.size + 2 := by rw [World.size_alloc, World.size_alloc]
  have hX0 : (((w.alloc (.cells #[.int .i64 1, .int .i64 x.n, .string (bstr x.s), .slice none 0 0, .slice A x.l.length c, .pointer p] 50)).alloc (.cells #[.int .i64 1, .int .i64 y.n, .string (bstr y.s), .slice none 0 0, .slice A6 y.l.length k6, .pointer q6] 50)).alloc (.cells #[.int .i64 1, .int .i64 0, .string ⟨#[]⟩, .slice none 0 0, .slice none 0 0, .pointer none] 50)).heap[w.heap.size]? = some (.cells #[.int .i64 1, .int .i64 x.n, .string (bstr x.s), .slice none 0 0, .slice A x.l.length c, .pointer p] 50) := (Below.heap_alloc _ _ _ (by rw [s2]; omega)).trans ((Below.heap_alloc _ _ _ (by rw [World.size_alloc]; omega)).trans (heap_new rfl))
  have hX1 : (((w.alloc (.cells #[.int .i64 1, .int .i64 x.n, .string (bstr x.s), .slice none 0 0, .slice A x.l.length c, .pointer p] 50)).alloc (.cells #[.int .i64 1, .int .i64 y.n, .string (bstr y.s), .slice none 0 0, .slice A6 y.l.length k6, .pointer q6] 50)).alloc (.cells #[.int .i64 1, .int .i64 0, .string ⟨#[]⟩, .slice none 0 0, .slice none 0 0, .pointer none] 50)).heap[w.heap.size + 1]? = some (.cells #[.int .i64 1, .int .i64 y.n, .string (bstr y.s), .slice none 0 0, .slice A6 y.l.length k6, .pointer q6] 50) := (Below.heap_alloc _ _ _ (by rw [s2]; omega)).trans (heap_new (World.size_alloc _ _))
  have hX2 : (((w.alloc (.cells #[.int .i64 1, .int .i64 x.n, .string (bstr x.s), .slice none 0 0, .slice A x.l.length c, .pointer p] 50)).alloc (.cells #[.int .i64 1, .int .i64 y.n, .string (bstr y.s), .slice none 0 0, .slice A6 y.l.length k6, .pointer q6] 50)).alloc (.cells #[.int .i64 1, .int .i64 0, .string ⟨#[]⟩, .slice none 0 0, .slice none 0 0, .pointer none] 50)).heap[w.heap.size + 2]? = some (.cells #[.int .i64 1, .int .i64 0, .string ⟨#[]⟩, .slice none 0 0, .slice none 0 0, .pointer none] 50) := heap_new s2
  obtain ⟨a0, a1, a2, a3, a4, a5⟩ := cells6 hX0
  obtain ⟨d0, d1, d2, d3, d4, d5⟩ := cells6 hX1
  have HB3 := Lib.hid hb3
  have HX2 := Lib.hid hX2
  have HH := Lib.hid h
  have HN := Lib.hid hn
  have HBM := Lib.hid (fun (wr : World) (hb : Below w.heap.size w wr) => And.intro (Tr.below (P := Mv mb t r v f) hb) (hb.mono (Nat.le_of_lt (Nat.lt_of_le_of_lt h.base.2 h.lt))))
  have HC := Lib.hid (fun W => ints_any W o x.n y.n h1 h2)
  obtain ⟨b0, f0⟩ : ∃ b0, ((bstr o).toList == [94]) = b0 := ⟨_, rfl⟩
  obtain ⟨b1, f1⟩ : ∃ b1, ((bstr o).toList == [35]) = b1 := ⟨_, rfl⟩
  clear h1 h2
  clear h hn hb1 hb2 hb3 hX0 hX1 hX2 s2
  cases b0 <;> cases b1
  all_goals
    go_enter Tryd.func39, Tryd.ntmps39
    go_wp2_with (first | (go_at_call 50; (with_reducible refine (HC.out _).mono ?_); rintro e1 w1 ⟨rfl, hb1⟩; have hq := (hb1.block _ (lt_of_heap HX2.out)).trans HX2.out; obtain ⟨g0, g1, g2, g3, g4, g5⟩ := cells6 hq; have z1 := frozenN hq 1; have gs : (w1.setCell ⟨w.heap.size + 2, 1, none⟩ (.int .i64 (intsOf o x.n y.n).1)).cell? ⟨w.heap.size + 2, 1, none⟩ = some (.int .i64 (intsOf o x.n y.n).1) := (by rw [Lib.cell_of_heap (set_cells hq 1 _)]; rfl); have hbw : Below w.heap.size w (w1.setCell ⟨w.heap.size + 2, 1, none⟩ (.int .i64 (intsOf o x.n y.n).1)) := (below_then HB3.out hb1).setCell (p := ⟨w.heap.size + 2, 1, none⟩) (by show w.heap.size ≤ w.heap.size + 2; omega) _; have HBW := Lib.hid hbw; have HT := Lib.hid (tellH_any (HH.out.below hbw) HN.out 1 (intsOf o x.n y.n).1 (intsOf o x.n y.n).2.1 (intsOf o x.n y.n).2.2); clear hb1 hq hbw HC) | (go_at_call 35; (with_reducible refine HT.out.mono ?_); rintro e1 w2 ⟨rfl, hp⟩; have HP := Lib.hid hp; clear hp HT))
    go_returns
    with_reducible exact ⟨rfl, HP.out.mono (HBM.out _ HBW.out).1 (HBM.out _ HBW.out).2⟩
set_option maxHeartbeats 4000000 in
theorem operN22_any (h : Rep w0 B mb s w t i r v f nx nm rcs vcs fcs) (hn : s.vals.length ≤ 100000000000) (o : Str) (x y : Val) (A : Option Addr) (c : Nat) (p : Option Addr) (A6 : Option Addr) (k6 : Nat) (q6 : Option Addr) (hx : x.sort = 2) (hy : y.sort = 2) (ho : ¬ o = [94]) :
    Calls Tryd.prog 39 #[.pointer (some ⟨mb, 0, none⟩), .string (bstr o), .agg #[.int .i64 x.sort, .int .i64 x.n, .string (bstr x.s), .slice none 0 0, .slice A x.l.length c, .pointer p], .agg #[.int .i64 y.sort, .int .i64 y.n, .string (bstr y.s), .slice none 0 0, .slice A6 y.l.length k6, .pointer q6]] w fun e w' => e = .returned (.tuple #[]) ∧ Post w0 B mb (Mv mb t r v f) w (s.oper o x y) w' := by
  have e : s.oper o x y = s.tell (.mk 1 0 [] [] none) 0 false := by unfold St.oper; rw [if_neg (fun k => ho k.1), if_neg (by rw [hy]; simp), if_neg (by rw [hx]; simp)]
  rw [e, hx, hy]
  clear e hx hy
  have hb1 : Below w.heap.size w (w.alloc (.cells #[.int .i64 2, .int .i64 x.n, .string (bstr x.s), .slice none 0 0, .slice A x.l.length c, .pointer p] 50)) := (Below.refl _ _).alloc (Nat.le_refl _) _
  have hb2 : Below w.heap.size w ((w.alloc (.cells #[.int .i64 2, .int .i64 x.n, .string (bstr x.s), .slice none 0 0, .slice A x.l.length c, .pointer p] 50)).alloc (.cells #[.int .i64 2, .int .i64 y.n, .string (bstr y.s), .slice none 0 0, .slice A6 y.l.length k6, .pointer q6] 50)) := hb1.alloc (by rw [World.size_alloc]; omega) _
  have hb3 : Below w.heap.size w (((w.alloc (.cells #[.int .i64 2, .int .i64 x.n, .string (bstr x.s), .slice none 0 0, .slice A x.l.length c, .pointer p] 50)).alloc (.cells #[.int .i64 2, .int .i64 y.n, .string (bstr y.s), .slice none 0 0, .slice A6 y.l.length k6, .pointer q6] 50)).alloc (.cells #[.int .i64 1, .int .i64 0, .string ⟨#[]⟩, .slice none 0 0, .slice none 0 0, .pointer none] 50)) := hb2.alloc (by rw [World.size_alloc, World.size_alloc]; omega) _
  have s2 : ((w.alloc (.cells #[.int .i64 2, .int .i64 x.n, .string (bstr x.s), .slice none 0 0, .slice A x.l.length c, .pointer p] 50)).alloc (.cells #[.int .i64 2, .int .i64 y.n, .string (bstr y.s), .slice none 0 0, .slice A6 y.l.length k6, .pointer q6] 50)).heap.size = w.heap.size + 2 := by rw [World.size_alloc, World.size_alloc]
  have hX0 : (((w.alloc (.cells #[.int .i64 2, .int .i64 x.n, .string (bstr x.s), .slice none 0 0, .slice A x.l.length c, .pointer p] 50)).alloc (.cells #[.int .i64 2, .int .i64 y.n, .string (bstr y.s), .slice none 0 0, .slice A6 y.l.length k6, .pointer q6] 50)).alloc (.cells #[.int .i64 1, .int .i64 0, .string ⟨#[]⟩, .slice none 0 0, .slice none 0 0, .pointer none] 50)).heap[w.heap.size]? = some (.cells #[.int .i64 2, .int .i64 x.n, .string (bstr x.s), .slice none 0 0, .slice A x.l.length c, .pointer p] 50) := (Below.heap_alloc _ _ _ (by rw [s2]; omega)).trans ((Below.heap_alloc _ _ _ (by rw [World.size_alloc]; omega)).trans (heap_new rfl))
  have hX1 : (((w.alloc (.cells #[.int .i64 2, .int .i64 x.n, .string (bstr x.s), .slice none 0 0, .slice A x.l.length c, .pointer p] 50)).alloc (.cells #[.int .i64 2, .int .i64 y.n, .string (bstr y.s), .slice none 0 0, .slice A6 y.l.length k6, .pointer q6] 50)).alloc (.cells #[.int .i64 1, .int .i64 0, .string ⟨#[]⟩, .slice none 0 0, .slice none 0 0, .pointer none] 50)).heap[w.heap.size + 1]? = some (.cells #[.int .i64 2, .int .i64 y.n, .string (bstr y.s), .slice none 0 0, .slice A6 y.l.length k6, .pointer q6] 50) := (Below.heap_alloc _ _ _ (by rw [s2]; omega)).trans (heap_new (World.size_alloc _ _))
  have hX2 : (((w.alloc (.cells #[.int .i64 2, .int .i64 x.n, .string (bstr x.s), .slice none 0 0, .slice A x.l.length c, .pointer p] 50)).alloc (.cells #[.int .i64 2, .int .i64 y.n, .string (bstr y.s), .slice none 0 0, .slice A6 y.l.length k6, .pointer q6] 50)).alloc (.cells #[.int .i64 1, .int .i64 0, .string ⟨#[]⟩, .slice none 0 0, .slice none 0 0, .pointer none] 50)).heap[w.heap.size + 2]? = some (.cells #[.int .i64 1, .int .i64 0, .string ⟨#[]⟩, .slice none 0 0, .slice none 0 0, .pointer none] 50) := heap_new s2
  obtain ⟨a0, a1, a2, a3, a4, a5⟩ := cells6 hX0
  obtain ⟨d0, d1, d2, d3, d4, d5⟩ := cells6 hX1
  have HB3 := Lib.hid hb3
  have HX2 := Lib.hid hX2
  have HH := Lib.hid h
  have HN := Lib.hid hn
  have HBM := Lib.hid (fun (wr : World) (hb : Below w.heap.size w wr) => And.intro (Tr.below (P := Mv mb t r v f) hb) (hb.mono (Nat.le_of_lt (Nat.lt_of_le_of_lt h.base.2 h.lt))))
  obtain ⟨g0, g1, g2, g3, g4, g5⟩ := cells6 HX2.out
  have HT := Lib.hid (tellH_any (h.below hb3) hn 1 0 0 false)
  have f0 : ((bstr o).toList == [94]) = false := by rw [bstr_toList]; simpa using ho
  clear ho
  obtain ⟨b1, f1⟩ : ∃ b1, ((bstr o).toList == [35]) = b1 := ⟨_, rfl⟩
  clear h hn hb1 hb2 hb3 hX0 hX1 hX2 s2
  cases b1
  all_goals
    go_enter Tryd.func39, Tryd.ntmps39
    go_wp2_with (go_at_call 35; (with_reducible refine HT.out.mono ?_); rintro e1 w2 ⟨rfl, hp⟩; have HP := Lib.hid hp; clear hp HT)
    go_returns
    with_reducible exact ⟨rfl, HP.out.mono (HBM.out _ HB3.out).1 (HBM.out _ HB3.out).2⟩
set_option maxHeartbeats 4000000 in
theorem operN21_any (h : Rep w0 B mb s w t i r v f nx nm rcs vcs fcs) (hn : s.vals.length ≤ 100000000000) (o : Str) (x y : Val) (A : Option Addr) (c : Nat) (p : Option Addr) (A6 : Option Addr) (k6 : Nat) (q6 : Option Addr) (hx : x.sort = 2) (hy : y.sort = 1) (ho : ¬ o = [35]) :
    Calls Tryd.prog 39 #[.pointer (some ⟨mb, 0, none⟩), .string (bstr o), .agg #[.int .i64 x.sort, .int .i64 x.n, .string (bstr x.s), .slice none 0 0, .slice A x.l.length c, .pointer p], .agg #[.int .i64 y.sort, .int .i64 y.n, .string (bstr y.s), .slice none 0 0, .slice A6 y.l.length k6, .pointer q6]] w fun e w' => e = .returned (.tuple #[]) ∧ Post w0 B mb (Mv mb t r v f) w (s.oper o x y) w' := by
  have e : s.oper o x y = s.tell (.mk 1 0 [] [] none) 0 false := by unfold St.oper; rw [if_neg (by rw [hy]; simp), if_neg (fun k => ho k.1), if_neg (by rw [hx]; simp)]
  rw [e, hx, hy]
  clear e hx hy
  have hb1 : Below w.heap.size w (w.alloc (.cells #[.int .i64 2, .int .i64 x.n, .string (bstr x.s), .slice none 0 0, .slice A x.l.length c, .pointer p] 50)) := (Below.refl _ _).alloc (Nat.le_refl _) _
  have hb2 : Below w.heap.size w ((w.alloc (.cells #[.int .i64 2, .int .i64 x.n, .string (bstr x.s), .slice none 0 0, .slice A x.l.length c, .pointer p] 50)).alloc (.cells #[.int .i64 1, .int .i64 y.n, .string (bstr y.s), .slice none 0 0, .slice A6 y.l.length k6, .pointer q6] 50)) := hb1.alloc (by rw [World.size_alloc]; omega) _
  have hb3 : Below w.heap.size w (((w.alloc (.cells #[.int .i64 2, .int .i64 x.n, .string (bstr x.s), .slice none 0 0, .slice A x.l.length c, .pointer p] 50)).alloc (.cells #[.int .i64 1, .int .i64 y.n, .string (bstr y.s), .slice none 0 0, .slice A6 y.l.length k6, .pointer q6] 50)).alloc (.cells #[.int .i64 1, .int .i64 0, .string ⟨#[]⟩, .slice none 0 0, .slice none 0 0, .pointer none] 50)) := hb2.alloc (by rw [World.size_alloc, World.size_alloc]; omega) _
  have s2 : ((w.alloc (.cells #[.int .i64 2, .int .i64 x.n, .string (bstr x.s), .slice none 0 0, .slice A x.l.length c, .pointer p] 50)).alloc (.cells #[.int .i64 1, .int .i64 y.n, .string (bstr y.s), .slice none 0 0, .slice A6 y.l.length k6, .pointer q6] 50)).heap.size = w.heap.size + 2 := by rw [World.size_alloc, World.size_alloc]
  have hX0 : (((w.alloc (.cells #[.int .i64 2, .int .i64 x.n, .string (bstr x.s), .slice none 0 0, .slice A x.l.length c, .pointer p] 50)).alloc (.cells #[.int .i64 1, .int .i64 y.n, .string (bstr y.s), .slice none 0 0, .slice A6 y.l.length k6, .pointer q6] 50)).alloc (.cells #[.int .i64 1, .int .i64 0, .string ⟨#[]⟩, .slice none 0 0, .slice none 0 0, .pointer none] 50)).heap[w.heap.size]? = some (.cells #[.int .i64 2, .int .i64 x.n, .string (bstr x.s), .slice none 0 0, .slice A x.l.length c, .pointer p] 50) := (Below.heap_alloc _ _ _ (by rw [s2]; omega)).trans ((Below.heap_alloc _ _ _ (by rw [World.size_alloc]; omega)).trans (heap_new rfl))
  have hX1 : (((w.alloc (.cells #[.int .i64 2, .int .i64 x.n, .string (bstr x.s), .slice none 0 0, .slice A x.l.length c, .pointer p] 50)).alloc (.cells #[.int .i64 1, .int .i64 y.n, .string (bstr y.s), .slice none 0 0, .slice A6 y.l.length k6, .pointer q6] 50)).alloc (.cells #[.int .i64 1, .int .i64 0, .string ⟨#[]⟩, .slice none 0 0, .slice none 0 0, .pointer none] 50)).heap[w.heap.size + 1]? = some (.cells #[.int .i64 1, .int .i64 y.n, .string (bstr y.s), .slice none 0 0, .slice A6 y.l.length k6, .pointer q6] 50) := (Below.heap_alloc _ _ _ (by rw [s2]; omega)).trans (heap_new (World.size_alloc _ _))
  have hX2 : (((w.alloc (.cells #[.int .i64 2, .int .i64 x.n, .string (bstr x.s), .slice none 0 0, .slice A x.l.length c, .pointer p] 50)).alloc (.cells #[.int .i64 1, .int .i64 y.n, .string (bstr y.s), .slice none 0 0, .slice A6 y.l.length k6, .pointer q6] 50)).alloc (.cells #[.int .i64 1, .int .i64 0, .string ⟨#[]⟩, .slice none 0 0, .slice none 0 0, .pointer none] 50)).heap[w.heap.size + 2]? = some (.cells #[.int .i64 1, .int .i64 0, .string ⟨#[]⟩, .slice none 0 0, .slice none 0 0, .pointer none] 50) := heap_new s2
  obtain ⟨a0, a1, a2, a3, a4, a5⟩ := cells6 hX0
  obtain ⟨d0, d1, d2, d3, d4, d5⟩ := cells6 hX1
  have HB3 := Lib.hid hb3
  have HX2 := Lib.hid hX2
  have HH := Lib.hid h
  have HN := Lib.hid hn
  have HBM := Lib.hid (fun (wr : World) (hb : Below w.heap.size w wr) => And.intro (Tr.below (P := Mv mb t r v f) hb) (hb.mono (Nat.le_of_lt (Nat.lt_of_le_of_lt h.base.2 h.lt))))
  obtain ⟨g0, g1, g2, g3, g4, g5⟩ := cells6 HX2.out
  have HT := Lib.hid (tellH_any (h.below hb3) hn 1 0 0 false)
  obtain ⟨b0, f0⟩ : ∃ b0, ((bstr o).toList == [94]) = b0 := ⟨_, rfl⟩
  have f1 : ((bstr o).toList == [35]) = false := by rw [bstr_toList]; simpa using ho
  clear ho
  clear h hn hb1 hb2 hb3 hX0 hX1 hX2 s2
  cases b0
  all_goals
    go_enter Tryd.func39, Tryd.ntmps39
    go_wp2_with (go_at_call 35; (with_reducible refine HT.out.mono ?_); rintro e1 w2 ⟨rfl, hp⟩; have HP := Lib.hid hp; clear hp HT)
    go_returns
    with_reducible exact ⟨rfl, HP.out.mono (HBM.out _ HB3.out).1 (HBM.out _ HB3.out).2⟩
set_option maxHeartbeats 4000000 in
theorem operN2n_any (h : Rep w0 B mb s w t i r v f nx nm rcs vcs fcs) (hn : s.vals.length ≤ 100000000000) (o : Str) (x y : Val) (A : Option Addr) (c : Nat) (p : Option Addr) (A6 : Option Addr) (k6 : Nat) (q6 : Option Addr) (hx : x.sort = 2) (hy1 : ¬ y.sort = 1) (hy2 : ¬ y.sort = 2)  :
    Calls Tryd.prog 39 #[.pointer (some ⟨mb, 0, none⟩), .string (bstr o), .agg #[.int .i64 x.sort, .int .i64 x.n, .string (bstr x.s), .slice none 0 0, .slice A x.l.length c, .pointer p], .agg #[.int .i64 y.sort, .int .i64 y.n, .string (bstr y.s), .slice none 0 0, .slice A6 y.l.length k6, .pointer q6]] w fun e w' => e = .returned (.tuple #[]) ∧ Post w0 B mb (Mv mb t r v f) w (s.oper o x y) w' := by
  have e : s.oper o x y = s.tell (.mk 1 0 [] [] none) 0 false := by unfold St.oper; rw [if_neg (fun k => hy2 k.2.2), if_neg (fun k => hy1 k.2.2), if_neg (by rw [hx]; simp)]
  rw [e, hx]
  clear e hx
  have hb1 : Below w.heap.size w (w.alloc (.cells #[.int .i64 2, .int .i64 x.n, .string (bstr x.s), .slice none 0 0, .slice A x.l.length c, .pointer p] 50)) := (Below.refl _ _).alloc (Nat.le_refl _) _
  have hb2 : Below w.heap.size w ((w.alloc (.cells #[.int .i64 2, .int .i64 x.n, .string (bstr x.s), .slice none 0 0, .slice A x.l.length c, .pointer p] 50)).alloc (.cells #[.int .i64 y.sort, .int .i64 y.n, .string (bstr y.s), .slice none 0 0, .slice A6 y.l.length k6, .pointer q6] 50)) := hb1.alloc (by rw [World.size_alloc]; omega) _
  have hb3 : Below w.heap.size w (((w.alloc (.cells #[.int .i64 2, .int .i64 x.n, .string (bstr x.s), .slice none 0 0, .slice A x.l.length c, .pointer p] 50)).alloc (.cells #[.int .i64 y.sort, .int .i64 y.n, .string (bstr y.s), .slice none 0 0, .slice A6 y.l.length k6, .pointer q6] 50)).alloc (.cells #[.int .i64 1, .int .i64 0, .string ⟨#[]⟩, .slice none 0 0, .slice none 0 0, .pointer none] 50)) := hb2.alloc (by rw [World.size_alloc, World.size_alloc]; omega) _
  have s2 : ((w.alloc (.cells #[.int .i64 2, .int .i64 x.n, .string (bstr x.s), .slice none 0 0, .slice A x.l.length c, .pointer p] 50)).alloc (.cells #[.int .i64 y.sort, .int .i64 y.n, .string (bstr y.s), .slice none 0 0, .slice A6 y.l.length k6, .pointer q6] 50)).heap.size = w.heap.size + 2 := by rw [World.size_alloc, World.size_alloc]
  have hX0 : (((w.alloc (.cells #[.int .i64 2, .int .i64 x.n, .string (bstr x.s), .slice none 0 0, .slice A x.l.length c, .pointer p] 50)).alloc (.cells #[.int .i64 y.sort, .int .i64 y.n, .string (bstr y.s), .slice none 0 0, .slice A6 y.l.length k6, .pointer q6] 50)).alloc (.cells #[.int .i64 1, .int .i64 0, .string ⟨#[]⟩, .slice none 0 0, .slice none 0 0, .pointer none] 50)).heap[w.heap.size]? = some (.cells #[.int .i64 2, .int .i64 x.n, .string (bstr x.s), .slice none 0 0, .slice A x.l.length c, .pointer p] 50) := (Below.heap_alloc _ _ _ (by rw [s2]; omega)).trans ((Below.heap_alloc _ _ _ (by rw [World.size_alloc]; omega)).trans (heap_new rfl))
  have hX1 : (((w.alloc (.cells #[.int .i64 2, .int .i64 x.n, .string (bstr x.s), .slice none 0 0, .slice A x.l.length c, .pointer p] 50)).alloc (.cells #[.int .i64 y.sort, .int .i64 y.n, .string (bstr y.s), .slice none 0 0, .slice A6 y.l.length k6, .pointer q6] 50)).alloc (.cells #[.int .i64 1, .int .i64 0, .string ⟨#[]⟩, .slice none 0 0, .slice none 0 0, .pointer none] 50)).heap[w.heap.size + 1]? = some (.cells #[.int .i64 y.sort, .int .i64 y.n, .string (bstr y.s), .slice none 0 0, .slice A6 y.l.length k6, .pointer q6] 50) := (Below.heap_alloc _ _ _ (by rw [s2]; omega)).trans (heap_new (World.size_alloc _ _))
  have hX2 : (((w.alloc (.cells #[.int .i64 2, .int .i64 x.n, .string (bstr x.s), .slice none 0 0, .slice A x.l.length c, .pointer p] 50)).alloc (.cells #[.int .i64 y.sort, .int .i64 y.n, .string (bstr y.s), .slice none 0 0, .slice A6 y.l.length k6, .pointer q6] 50)).alloc (.cells #[.int .i64 1, .int .i64 0, .string ⟨#[]⟩, .slice none 0 0, .slice none 0 0, .pointer none] 50)).heap[w.heap.size + 2]? = some (.cells #[.int .i64 1, .int .i64 0, .string ⟨#[]⟩, .slice none 0 0, .slice none 0 0, .pointer none] 50) := heap_new s2
  obtain ⟨a0, a1, a2, a3, a4, a5⟩ := cells6 hX0
  obtain ⟨d0, d1, d2, d3, d4, d5⟩ := cells6 hX1
  have HB3 := Lib.hid hb3
  have HX2 := Lib.hid hX2
  have HH := Lib.hid h
  have HN := Lib.hid hn
  have HBM := Lib.hid (fun (wr : World) (hb : Below w.heap.size w wr) => And.intro (Tr.below (P := Mv mb t r v f) hb) (hb.mono (Nat.le_of_lt (Nat.lt_of_le_of_lt h.base.2 h.lt))))
  obtain ⟨g0, g1, g2, g3, g4, g5⟩ := cells6 HX2.out
  have HT := Lib.hid (tellH_any (h.below hb3) hn 1 0 0 false)
  obtain ⟨b0, f0⟩ : ∃ b0, ((bstr o).toList == [94]) = b0 := ⟨_, rfl⟩
  obtain ⟨b1, f1⟩ : ∃ b1, ((bstr o).toList == [35]) = b1 := ⟨_, rfl⟩
  clear h hn hb1 hb2 hb3 hX0 hX1 hX2 s2
  cases b0 <;> cases b1
  all_goals
    go_enter Tryd.func39, Tryd.ntmps39
    go_wp2_with (go_at_call 35; (with_reducible refine HT.out.mono ?_); rintro e1 w2 ⟨rfl, hp⟩; have HP := Lib.hid hp; clear hp HT)
    go_returns
    with_reducible exact ⟨rfl, HP.out.mono (HBM.out _ HB3.out).1 (HBM.out _ HB3.out).2⟩
set_option maxHeartbeats 4000000 in
theorem operN12_any (h : Rep w0 B mb s w t i r v f nx nm rcs vcs fcs) (hn : s.vals.length ≤ 100000000000) (o : Str) (x y : Val) (A : Option Addr) (c : Nat) (p : Option Addr) (A6 : Option Addr) (k6 : Nat) (q6 : Option Addr) (hx : x.sort = 1) (hy : y.sort = 2)  :
    Calls Tryd.prog 39 #[.pointer (some ⟨mb, 0, none⟩), .string (bstr o), .agg #[.int .i64 x.sort, .int .i64 x.n, .string (bstr x.s), .slice none 0 0, .slice A x.l.length c, .pointer p], .agg #[.int .i64 y.sort, .int .i64 y.n, .string (bstr y.s), .slice none 0 0, .slice A6 y.l.length k6, .pointer q6]] w fun e w' => e = .returned (.tuple #[]) ∧ Post w0 B mb (Mv mb t r v f) w (s.oper o x y) w' := by
  have e : s.oper o x y = s.tell (.mk 1 0 [] [] none) 0 false := by unfold St.oper; rw [if_neg (by rw [hx]; simp), if_neg (by rw [hx]; simp), if_neg (by rw [hy]; simp)]
  rw [e, hx, hy]
  clear e hx hy
  have hb1 : Below w.heap.size w (w.alloc (.cells #[.int .i64 1, .int .i64 x.n, .string (bstr x.s), .slice none 0 0, .slice A x.l.length c, .pointer p] 50)) := (Below.refl _ _).alloc (Nat.le_refl _) _
  have hb2 : Below w.heap.size w ((w.alloc (.cells #[.int .i64 1, .int .i64 x.n, .string (bstr x.s), .slice none 0 0, .slice A x.l.length c, .pointer p] 50)).alloc (.cells #[.int .i64 2, .int .i64 y.n, .string (bstr y.s), .slice none 0 0, .slice A6 y.l.length k6, .pointer q6] 50)) := hb1.alloc (by rw [World.size_alloc]; omega) _
  have hb3 : Below w.heap.size w (((w.alloc (.cells #[.int .i64 1, .int .i64 x.n, .string (bstr x.s), .slice none 0 0, .slice A x.l.length c, .pointer p] 50)).alloc (.cells #[.int .i64 2, .int .i64 y.n, .string (bstr y.s), .slice none 0 0, .slice A6 y.l.length k6, .pointer q6] 50)).alloc (.cells #[.int .i64 1, .int .i64 0, .string ⟨#[]⟩, .slice none 0 0, .slice none 0 0, .pointer none] 50)) := hb2.alloc (by rw [World.size_alloc, World.size_alloc]; omega) _
  have s2 : ((w.alloc (.cells #[.int .i64 1, .int .i64 x.n, .string (bstr x.s), .slice none 0 0, .slice A x.l.length c, .pointer p] 50)).alloc (.cells #[.int .i64 2, .int .i64 y.n, .string (bstr y.s), .slice none 0 0, .slice A6 y.l.length k6, .pointer q6] 50)).heap.size = w.heap.size + 2 := by rw [World.size_alloc, World.size_alloc]
  have hX0 : (((w.alloc (.cells #[.int .i64 1, .int .i64 x.n, .string (bstr x.s), .slice none 0 0, .slice A x.l.length c, .pointer p] 50)).alloc (.cells #[.int .i64 2, .int .i64 y.n, .string (bstr y.s), .slice none 0 0, .slice A6 y.l.length k6, .pointer q6] 50)).alloc (.cells #[.int .i64 1, .int .i64 0, .string ⟨#[]⟩, .slice none 0 0, .slice none 0 0, .pointer none] 50)).heap[w.heap.size]? = some (.cells #[.int .i64 1, .int .i64 x.n, .string (bstr x.s), .slice none 0 0, .slice A x.l.length c, .pointer p] 50) := (Below.heap_alloc _ _ _ (by rw [s2]; omega)).trans ((Below.heap_alloc _ _ _ (by rw [World.size_alloc]; omega)).trans (heap_new rfl))
  have hX1 : (((w.alloc (.cells #[.int .i64 1, .int .i64 x.n, .string (bstr x.s), .slice none 0 0, .slice A x.l.length c, .pointer p] 50)).alloc (.cells #[.int .i64 2, .int .i64 y.n, .string (bstr y.s), .slice none 0 0, .slice A6 y.l.length k6, .pointer q6] 50)).alloc (.cells #[.int .i64 1, .int .i64 0, .string ⟨#[]⟩, .slice none 0 0, .slice none 0 0, .pointer none] 50)).heap[w.heap.size + 1]? = some (.cells #[.int .i64 2, .int .i64 y.n, .string (bstr y.s), .slice none 0 0, .slice A6 y.l.length k6, .pointer q6] 50) := (Below.heap_alloc _ _ _ (by rw [s2]; omega)).trans (heap_new (World.size_alloc _ _))
  have hX2 : (((w.alloc (.cells #[.int .i64 1, .int .i64 x.n, .string (bstr x.s), .slice none 0 0, .slice A x.l.length c, .pointer p] 50)).alloc (.cells #[.int .i64 2, .int .i64 y.n, .string (bstr y.s), .slice none 0 0, .slice A6 y.l.length k6, .pointer q6] 50)).alloc (.cells #[.int .i64 1, .int .i64 0, .string ⟨#[]⟩, .slice none 0 0, .slice none 0 0, .pointer none] 50)).heap[w.heap.size + 2]? = some (.cells #[.int .i64 1, .int .i64 0, .string ⟨#[]⟩, .slice none 0 0, .slice none 0 0, .pointer none] 50) := heap_new s2
  obtain ⟨a0, a1, a2, a3, a4, a5⟩ := cells6 hX0
  obtain ⟨d0, d1, d2, d3, d4, d5⟩ := cells6 hX1
  have HB3 := Lib.hid hb3
  have HX2 := Lib.hid hX2
  have HH := Lib.hid h
  have HN := Lib.hid hn
  have HBM := Lib.hid (fun (wr : World) (hb : Below w.heap.size w wr) => And.intro (Tr.below (P := Mv mb t r v f) hb) (hb.mono (Nat.le_of_lt (Nat.lt_of_le_of_lt h.base.2 h.lt))))
  obtain ⟨g0, g1, g2, g3, g4, g5⟩ := cells6 HX2.out
  have HT := Lib.hid (tellH_any (h.below hb3) hn 1 0 0 false)
  obtain ⟨b0, f0⟩ : ∃ b0, ((bstr o).toList == [94]) = b0 := ⟨_, rfl⟩
  obtain ⟨b1, f1⟩ : ∃ b1, ((bstr o).toList == [35]) = b1 := ⟨_, rfl⟩
  clear h hn hb1 hb2 hb3 hX0 hX1 hX2 s2
  cases b0 <;> cases b1
  all_goals
    go_enter Tryd.func39, Tryd.ntmps39
    go_wp2_with (go_at_call 35; (with_reducible refine HT.out.mono ?_); rintro e1 w2 ⟨rfl, hp⟩; have HP := Lib.hid hp; clear hp HT)
    go_returns
    with_reducible exact ⟨rfl, HP.out.mono (HBM.out _ HB3.out).1 (HBM.out _ HB3.out).2⟩
set_option maxHeartbeats 4000000 in
theorem operN1n_any (h : Rep w0 B mb s w t i r v f nx nm rcs vcs fcs) (hn : s.vals.length ≤ 100000000000) (o : Str) (x y : Val) (A : Option Addr) (c : Nat) (p : Option Addr) (A6 : Option Addr) (k6 : Nat) (q6 : Option Addr) (hx : x.sort = 1) (hy1 : ¬ y.sort = 1) (hy2 : ¬ y.sort = 2)  :
    Calls Tryd.prog 39 #[.pointer (some ⟨mb, 0, none⟩), .string (bstr o), .agg #[.int .i64 x.sort, .int .i64 x.n, .string (bstr x.s), .slice none 0 0, .slice A x.l.length c, .pointer p], .agg #[.int .i64 y.sort, .int .i64 y.n, .string (bstr y.s), .slice none 0 0, .slice A6 y.l.length k6, .pointer q6]] w fun e w' => e = .returned (.tuple #[]) ∧ Post w0 B mb (Mv mb t r v f) w (s.oper o x y) w' := by
  have e : s.oper o x y = s.tell (.mk 1 0 [] [] none) 0 false := by unfold St.oper; rw [if_neg (by rw [hx]; simp), if_neg (by rw [hx]; simp), if_neg (fun k => hy1 k.2)]
  rw [e, hx]
  clear e hx
  have hb1 : Below w.heap.size w (w.alloc (.cells #[.int .i64 1, .int .i64 x.n, .string (bstr x.s), .slice none 0 0, .slice A x.l.length c, .pointer p] 50)) := (Below.refl _ _).alloc (Nat.le_refl _) _
  have hb2 : Below w.heap.size w ((w.alloc (.cells #[.int .i64 1, .int .i64 x.n, .string (bstr x.s), .slice none 0 0, .slice A x.l.length c, .pointer p] 50)).alloc (.cells #[.int .i64 y.sort, .int .i64 y.n, .string (bstr y.s), .slice none 0 0, .slice A6 y.l.length k6, .pointer q6] 50)) := hb1.alloc (by rw [World.size_alloc]; omega) _
  have hb3 : Below w.heap.size w (((w.alloc (.cells #[.int .i64 1, .int .i64 x.n, .string (bstr x.s), .slice none 0 0, .slice A x.l.length c, .pointer p] 50)).alloc (.cells #[.int .i64 y.sort, .int .i64 y.n, .string (bstr y.s), .slice none 0 0, .slice A6 y.l.length k6, .pointer q6] 50)).alloc (.cells #[.int .i64 1, .int .i64 0, .string ⟨#[]⟩, .slice none 0 0, .slice none 0 0, .pointer none] 50)) := hb2.alloc (by rw [World.size_alloc, World.size_alloc]; omega) _
  have s2 : ((w.alloc (.cells #[.int .i64 1, .int .i64 x.n, .string (bstr x.s), .slice none 0 0, .slice A x.l.length c, .pointer p] 50)).alloc (.cells #[.int .i64 y.sort, .int .i64 y.n, .string (bstr y.s), .slice none 0 0, .slice A6 y.l.length k6, .pointer q6] 50)).heap.size = w.heap.size + 2 := by rw [World.size_alloc, World.size_alloc]
  have hX0 : (((w.alloc (.cells #[.int .i64 1, .int .i64 x.n, .string (bstr x.s), .slice none 0 0, .slice A x.l.length c, .pointer p] 50)).alloc (.cells #[.int .i64 y.sort, .int .i64 y.n, .string (bstr y.s), .slice none 0 0, .slice A6 y.l.length k6, .pointer q6] 50)).alloc (.cells #[.int .i64 1, .int .i64 0, .string ⟨#[]⟩, .slice none 0 0, .slice none 0 0, .pointer none] 50)).heap[w.heap.size]? = some (.cells #[.int .i64 1, .int .i64 x.n, .string (bstr x.s), .slice none 0 0, .slice A x.l.length c, .pointer p] 50) := (Below.heap_alloc _ _ _ (by rw [s2]; omega)).trans ((Below.heap_alloc _ _ _ (by rw [World.size_alloc]; omega)).trans (heap_new rfl))
  have hX1 : (((w.alloc (.cells #[.int .i64 1, .int .i64 x.n, .string (bstr x.s), .slice none 0 0, .slice A x.l.length c, .pointer p] 50)).alloc (.cells #[.int .i64 y.sort, .int .i64 y.n, .string (bstr y.s), .slice none 0 0, .slice A6 y.l.length k6, .pointer q6] 50)).alloc (.cells #[.int .i64 1, .int .i64 0, .string ⟨#[]⟩, .slice none 0 0, .slice none 0 0, .pointer none] 50)).heap[w.heap.size + 1]? = some (.cells #[.int .i64 y.sort, .int .i64 y.n, .string (bstr y.s), .slice none 0 0, .slice A6 y.l.length k6, .pointer q6] 50) := (Below.heap_alloc _ _ _ (by rw [s2]; omega)).trans (heap_new (World.size_alloc _ _))
  have hX2 : (((w.alloc (.cells #[.int .i64 1, .int .i64 x.n, .string (bstr x.s), .slice none 0 0, .slice A x.l.length c, .pointer p] 50)).alloc (.cells #[.int .i64 y.sort, .int .i64 y.n, .string (bstr y.s), .slice none 0 0, .slice A6 y.l.length k6, .pointer q6] 50)).alloc (.cells #[.int .i64 1, .int .i64 0, .string ⟨#[]⟩, .slice none 0 0, .slice none 0 0, .pointer none] 50)).heap[w.heap.size + 2]? = some (.cells #[.int .i64 1, .int .i64 0, .string ⟨#[]⟩, .slice none 0 0, .slice none 0 0, .pointer none] 50) := heap_new s2
  obtain ⟨a0, a1, a2, a3, a4, a5⟩ := cells6 hX0
  obtain ⟨d0, d1, d2, d3, d4, d5⟩ := cells6 hX1
  have HB3 := Lib.hid hb3
  have HX2 := Lib.hid hX2
  have HH := Lib.hid h
  have HN := Lib.hid hn
  have HBM := Lib.hid (fun (wr : World) (hb : Below w.heap.size w wr) => And.intro (Tr.below (P := Mv mb t r v f) hb) (hb.mono (Nat.le_of_lt (Nat.lt_of_le_of_lt h.base.2 h.lt))))
  obtain ⟨g0, g1, g2, g3, g4, g5⟩ := cells6 HX2.out
  have HT := Lib.hid (tellH_any (h.below hb3) hn 1 0 0 false)
  obtain ⟨b0, f0⟩ : ∃ b0, ((bstr o).toList == [94]) = b0 := ⟨_, rfl⟩
  obtain ⟨b1, f1⟩ : ∃ b1, ((bstr o).toList == [35]) = b1 := ⟨_, rfl⟩
  clear h hn hb1 hb2 hb3 hX0 hX1 hX2 s2
  cases b0 <;> cases b1
  all_goals
    go_enter Tryd.func39, Tryd.ntmps39
    go_wp2_with (go_at_call 35; (with_reducible refine HT.out.mono ?_); rintro e1 w2 ⟨rfl, hp⟩; have HP := Lib.hid hp; clear hp HT)
    go_returns
    with_reducible exact ⟨rfl, HP.out.mono (HBM.out _ HB3.out).1 (HBM.out _ HB3.out).2⟩
set_option maxHeartbeats 4000000 in
theorem operNn2_any (h : Rep w0 B mb s w t i r v f nx nm rcs vcs fcs) (hn : s.vals.length ≤ 100000000000) (o : Str) (x y : Val) (A : Option Addr) (c : Nat) (p : Option Addr) (A6 : Option Addr) (k6 : Nat) (q6 : Option Addr) (hx1 : ¬ x.sort = 1) (hx2 : ¬ x.sort = 2) (hy : y.sort = 2)  :
    Calls Tryd.prog 39 #[.pointer (some ⟨mb, 0, none⟩), .string (bstr o), .agg #[.int .i64 x.sort, .int .i64 x.n, .string (bstr x.s), .slice none 0 0, .slice A x.l.length c, .pointer p], .agg #[.int .i64 y.sort, .int .i64 y.n, .string (bstr y.s), .slice none 0 0, .slice A6 y.l.length k6, .pointer q6]] w fun e w' => e = .returned (.tuple #[]) ∧ Post w0 B mb (Mv mb t r v f) w (s.oper o x y) w' := by
  have e : s.oper o x y = s.tell (.mk 1 0 [] [] none) 0 false := by unfold St.oper; rw [if_neg (fun k => hx2 k.2.1), if_neg (fun k => hx2 k.2.1), if_neg (fun k => hx1 k.1)]
  rw [e, hy]
  clear e hy
  have hb1 : Below w.heap.size w (w.alloc (.cells #[.int .i64 x.sort, .int .i64 x.n, .string (bstr x.s), .slice none 0 0, .slice A x.l.length c, .pointer p] 50)) := (Below.refl _ _).alloc (Nat.le_refl _) _
  have hb2 : Below w.heap.size w ((w.alloc (.cells #[.int .i64 x.sort, .int .i64 x.n, .string (bstr x.s), .slice none 0 0, .slice A x.l.length c, .pointer p] 50)).alloc (.cells #[.int .i64 2, .int .i64 y.n, .string (bstr y.s), .slice none 0 0, .slice A6 y.l.length k6, .pointer q6] 50)) := hb1.alloc (by rw [World.size_alloc]; omega) _
  have hb3 : Below w.heap.size w (((w.alloc (.cells #[.int .i64 x.sort, .int .i64 x.n, .string (bstr x.s), .slice none 0 0, .slice A x.l.length c, .pointer p] 50)).alloc (.cells #[.int .i64 2, .int .i64 y.n, .string (bstr y.s), .slice none 0 0, .slice A6 y.l.length k6, .pointer q6] 50)).alloc (.cells #[.int .i64 1, .int .i64 0, .string ⟨#[]⟩, .slice none 0 0, .slice none 0 0, .pointer none] 50)) := hb2.alloc (by rw [World.size_alloc, World.size_alloc]; omega) _
  have s2 : ((w.alloc (.cells #[.int .i64 x.sort, .int .i64 x.n, .string (bstr x.s), .slice none 0 0, .slice A x.l.length c, .pointer p] 50)).alloc (.cells #[.int .i64 2, .int .i64 y.n, .string (bstr y.s), .slice none 0 0, .slice A6 y.l.length k6, .pointer q6] 50)).heap.size = w.heap.size + 2 := by rw [World.size_alloc, World.size_alloc]
  have hX0 : (((w.alloc (.cells #[.int .i64 x.sort, .int .i64 x.n, .string (bstr x.s), .slice none 0 0, .slice A x.l.length c, .pointer p] 50)).alloc (.cells #[.int .i64 2, .int .i64 y.n, .string (bstr y.s), .slice none 0 0, .slice A6 y.l.length k6, .pointer q6] 50)).alloc (.cells #[.int .i64 1, .int .i64 0, .string ⟨#[]⟩, .slice none 0 0, .slice none 0 0, .pointer none] 50)).heap[w.heap.size]? = some (.cells #[.int .i64 x.sort, .int .i64 x.n, .string (bstr x.s), .slice none 0 0, .slice A x.l.length c, .pointer p] 50) := (Below.heap_alloc _ _ _ (by rw [s2]; omega)).trans ((Below.heap_alloc _ _ _ (by rw [World.size_alloc]; omega)).trans (heap_new rfl))
  have hX1 : (((w.alloc (.cells #[.int .i64 x.sort, .int .i64 x.n, .string (bstr x.s), .slice none 0 0, .slice A x.l.length c, .pointer p] 50)).alloc (.cells #[.int .i64 2, .int .i64 y.n, .string (bstr y.s), .slice none 0 0, .slice A6 y.l.length k6, .pointer q6] 50)).alloc (.cells #[.int .i64 1, .int .i64 0, .string ⟨#[]⟩, .slice none 0 0, .slice none 0 0, .pointer none] 50)).heap[w.heap.size + 1]? = some (.cells #[.int .i64 2, .int .i64 y.n, .string (bstr y.s), .slice none 0 0, .slice A6 y.l.length k6, .pointer q6] 50) := (Below.heap_alloc _ _ _ (by rw [s2]; omega)).trans (heap_new (World.size_alloc _ _))
  have hX2 : (((w.alloc (.cells #[.int .i64 x.sort, .int .i64 x.n, .string (bstr x.s), .slice none 0 0, .slice A x.l.length c, .pointer p] 50)).alloc (.cells #[.int .i64 2, .int .i64 y.n, .string (bstr y.s), .slice none 0 0, .slice A6 y.l.length k6, .pointer q6] 50)).alloc (.cells #[.int .i64 1, .int .i64 0, .string ⟨#[]⟩, .slice none 0 0, .slice none 0 0, .pointer none] 50)).heap[w.heap.size + 2]? = some (.cells #[.int .i64 1, .int .i64 0, .string ⟨#[]⟩, .slice none 0 0, .slice none 0 0, .pointer none] 50) := heap_new s2
  obtain ⟨a0, a1, a2, a3, a4, a5⟩ := cells6 hX0
  obtain ⟨d0, d1, d2, d3, d4, d5⟩ := cells6 hX1
  have HB3 := Lib.hid hb3
  have HX2 := Lib.hid hX2
  have HH := Lib.hid h
  have HN := Lib.hid hn
  have HBM := Lib.hid (fun (wr : World) (hb : Below w.heap.size w wr) => And.intro (Tr.below (P := Mv mb t r v f) hb) (hb.mono (Nat.le_of_lt (Nat.lt_of_le_of_lt h.base.2 h.lt))))
  obtain ⟨g0, g1, g2, g3, g4, g5⟩ := cells6 HX2.out
  have HT := Lib.hid (tellH_any (h.below hb3) hn 1 0 0 false)
  obtain ⟨b0, f0⟩ : ∃ b0, ((bstr o).toList == [94]) = b0 := ⟨_, rfl⟩
  obtain ⟨b1, f1⟩ : ∃ b1, ((bstr o).toList == [35]) = b1 := ⟨_, rfl⟩
  clear h hn hb1 hb2 hb3 hX0 hX1 hX2 s2
  cases b0 <;> cases b1
  all_goals
    go_enter Tryd.func39, Tryd.ntmps39
    go_wp2_with (go_at_call 35; (with_reducible refine HT.out.mono ?_); rintro e1 w2 ⟨rfl, hp⟩; have HP := Lib.hid hp; clear hp HT)
    go_returns
    with_reducible exact ⟨rfl, HP.out.mono (HBM.out _ HB3.out).1 (HBM.out _ HB3.out).2⟩
set_option maxHeartbeats 4000000 in
theorem operNn1_any (h : Rep w0 B mb s w t i r v f nx nm rcs vcs fcs) (hn : s.vals.length ≤ 100000000000) (o : Str) (x y : Val) (A : Option Addr) (c : Nat) (p : Option Addr) (A6 : Option Addr) (k6 : Nat) (q6 : Option Addr) (hx1 : ¬ x.sort = 1) (hx2 : ¬ x.sort = 2) (hy : y.sort = 1)  :
    Calls Tryd.prog 39 #[.pointer (some ⟨mb, 0, none⟩), .string (bstr o), .agg #[.int .i64 x.sort, .int .i64 x.n, .string (bstr x.s), .slice none 0 0, .slice A x.l.length c, .pointer p], .agg #[.int .i64 y.sort, .int .i64 y.n, .string (bstr y.s), .slice none 0 0, .slice A6 y.l.length k6, .pointer q6]] w fun e w' => e = .returned (.tuple #[]) ∧ Post w0 B mb (Mv mb t r v f) w (s.oper o x y) w' := by
  have e : s.oper o x y = s.tell (.mk 1 0 [] [] none) 0 false := by unfold St.oper; rw [if_neg (fun k => hx2 k.2.1), if_neg (fun k => hx2 k.2.1), if_neg (fun k => hx1 k.1)]
  rw [e, hy]
  clear e hy
  have hb1 : Below w.heap.size w (w.alloc (.cells #[.int .i64 x.sort, .int .i64 x.n, .string (bstr x.s), .slice none 0 0, .slice A x.l.length c, .pointer p] 50)) := (Below.refl _ _).alloc (Nat.le_refl _) _
  have hb2 : Below w.heap.size w ((w.alloc (.cells #[.int .i64 x.sort, .int .i64 x.n, .string (bstr x.s), .slice none 0 0, .slice A x.l.length c, .pointer p] 50)).alloc (.cells #[.int .i64 1, .int .i64 y.n, .string (bstr y.s), .slice none 0 0, .slice A6 y.l.length k6, .pointer q6] 50)) := hb1.alloc (by rw [World.size_alloc]; omega) _
  have hb3 : Below w.heap.size w (((w.alloc (.cells #[.int .i64 x.sort, .int .i64 x.n, .string (bstr x.s), .slice none 0 0, .slice A x.l.length c, .pointer p] 50)).alloc (.cells #[.int .i64 1, .int .i64 y.n, .string (bstr y.s), .slice none 0 0, .slice A6 y.l.length k6, .pointer q6] 50)).alloc (.cells #[.int .i64 1, .int .i64 0, .string ⟨#[]⟩, .slice none 0 0, .slice none 0 0, .pointer none] 50)) := hb2.alloc (by rw [World.size_alloc, World.size_alloc]; omega) _
  have s2 : ((w.alloc (.cells #[.int .i64 x.sort, .int .i64 x.n, .string (bstr x.s), .slice none 0 0, .slice A x.l.length c, .pointer p] 50)).alloc (.cells #[.int .i64 1, .int .i64 y.n, .string (bstr y.s), .slice none 0 0, .slice A6 y.l.length k6, .pointer q6] 50)).heap.size = w.heap.size + 2 := by rw [World.size_alloc, World.size_alloc]
  have hX0 : (((w.alloc (.cells #[.int .i64 x.sort, .int .i64 x.n, .string (bstr x.s), .slice none 0 0, .slice A x.l.length c, .pointer p] 50)).alloc (.cells #[.int .i64 1, .int .i64 y.n, .string (bstr y.s), .slice none 0 0, .slice A6 y.l.length k6, .pointer q6] 50)).alloc (.cells #[.int .i64 1, .int .i64 0, .string ⟨#[]⟩, .slice none 0 0, .slice none 0 0, .pointer none] 50)).heap[w.heap.size]? = some (.cells #[.int .i64 x.sort, .int .i64 x.n, .string (bstr x.s), .slice none 0 0, .slice A x.l.length c, .pointer p] 50) := (Below.heap_alloc _ _ _ (by rw [s2]; omega)).trans ((Below.heap_alloc _ _ _ (by rw [World.size_alloc]; omega)).trans (heap_new rfl))
  have hX1 : (((w.alloc (.cells #[.int .i64 x.sort, .int .i64 x.n, .string (bstr x.s), .slice none 0 0, .slice A x.l.length c, .pointer p] 50)).alloc (.cells #[.int .i64 1, .int .i64 y.n, .string (bstr y.s), .slice none 0 0, .slice A6 y.l.length k6, .pointer q6] 50)).alloc (.cells #[.int .i64 1, .int .i64 0, .string ⟨#[]⟩, .slice none 0 0, .slice none 0 0, .pointer none] 50)).heap[w.heap.size + 1]? = some (.cells #[.int .i64 1, .int .i64 y.n, .string (bstr y.s), .slice none 0 0, .slice A6 y.l.length k6, .pointer q6] 50) := (Below.heap_alloc _ _ _ (by rw [s2]; omega)).trans (heap_new (World.size_alloc _ _))
  have hX2 : (((w.alloc (.cells #[.int .i64 x.sort, .int .i64 x.n, .string (bstr x.s), .slice none 0 0, .slice A x.l.length c, .pointer p] 50)).alloc (.cells #[.int .i64 1, .int .i64 y.n, .string (bstr y.s), .slice none 0 0, .slice A6 y.l.length k6, .pointer q6] 50)).alloc (.cells #[.int .i64 1, .int .i64 0, .string ⟨#[]⟩, .slice none 0 0, .slice none 0 0, .pointer none] 50)).heap[w.heap.size + 2]? = some (.cells #[.int .i64 1, .int .i64 0, .string ⟨#[]⟩, .slice none 0 0, .slice none 0 0, .pointer none] 50) := heap_new s2
  obtain ⟨a0, a1, a2, a3, a4, a5⟩ := cells6 hX0
  obtain ⟨d0, d1, d2, d3, d4, d5⟩ := cells6 hX1
  have HB3 := Lib.hid hb3
  have HX2 := Lib.hid hX2
  have HH := Lib.hid h
  have HN := Lib.hid hn
  have HBM := Lib.hid (fun (wr : World) (hb : Below w.heap.size w wr) => And.intro (Tr.below (P := Mv mb t r v f) hb) (hb.mono (Nat.le_of_lt (Nat.lt_of_le_of_lt h.base.2 h.lt))))
  obtain ⟨g0, g1, g2, g3, g4, g5⟩ := cells6 HX2.out
  have HT := Lib.hid (tellH_any (h.below hb3) hn 1 0 0 false)
  obtain ⟨b0, f0⟩ : ∃ b0, ((bstr o).toList == [94]) = b0 := ⟨_, rfl⟩
  obtain ⟨b1, f1⟩ : ∃ b1, ((bstr o).toList == [35]) = b1 := ⟨_, rfl⟩
  clear h hn hb1 hb2 hb3 hX0 hX1 hX2 s2
  cases b0 <;> cases b1
  all_goals
    go_enter Tryd.func39, Tryd.ntmps39
    go_wp2_with (go_at_call 35; (with_reducible refine HT.out.mono ?_); rintro e1 w2 ⟨rfl, hp⟩; have HP := Lib.hid hp; clear hp HT)
    go_returns
    with_reducible exact ⟨rfl, HP.out.mono (HBM.out _ HB3.out).1 (HBM.out _ HB3.out).2⟩
set_option maxHeartbeats 4000000 in
theorem operNnn_any (h : Rep w0 B mb s w t i r v f nx nm rcs vcs fcs) (hn : s.vals.length ≤ 100000000000) (o : Str) (x y : Val) (A : Option Addr) (c : Nat) (p : Option Addr) (A6 : Option Addr) (k6 : Nat) (q6 : Option Addr) (hx1 : ¬ x.sort = 1) (hx2 : ¬ x.sort = 2) (hy1 : ¬ y.sort = 1) (hy2 : ¬ y.sort = 2)  :
    Calls Tryd.prog 39 #[.pointer (some ⟨mb, 0, none⟩), .string (bstr o), .agg #[.int .i64 x.sort, .int .i64 x.n, .string (bstr x.s), .slice none 0 0, .slice A x.l.length c, .pointer p], .agg #[.int .i64 y.sort, .int .i64 y.n, .string (bstr y.s), .slice none 0 0, .slice A6 y.l.length k6, .pointer q6]] w fun e w' => e = .returned (.tuple #[]) ∧ Post w0 B mb (Mv mb t r v f) w (s.oper o x y) w' := by
  have e : s.oper o x y = s.tell (.mk 1 0 [] [] none) 0 false := by unfold St.oper; rw [if_neg (fun k => hx2 k.2.1), if_neg (fun k => hx2 k.2.1), if_neg (fun k => hx1 k.1)]
  rw [e]
  clear e
  have hb1 : Below w.heap.size w (w.alloc (.cells #[.int .i64 x.sort, .int .i64 x.n, .string (bstr x.s), .slice none 0 0, .slice A x.l.length c, .pointer p] 50)) := (Below.refl _ _).alloc (Nat.le_refl _) _
  have hb2 : Below w.heap.size w ((w.alloc (.cells #[.int .i64 x.sort, .int .i64 x.n, .string (bstr x.s), .slice none 0 0, .slice A x.l.length c, .pointer p] 50)).alloc (.cells #[.int .i64 y.sort, .int .i64 y.n, .string (bstr y.s), .slice none 0 0, .slice A6 y.l.length k6, .pointer q6] 50)) := hb1.alloc (by rw [World.size_alloc]; omega) _
  have hb3 : Below w.heap.size w (((w.alloc (.cells #[.int .i64 x.sort, .int .i64 x.n, .string (bstr x.s), .slice none 0 0, .slice A x.l.length c, .pointer p] 50)).alloc (.cells #[.int .i64 y.sort, .int .i64 y.n, .string (bstr y.s), .slice none 0 0, .slice A6 y.l.length k6, .pointer q6] 50)).alloc (.cells #[.int .i64 1, .int .i64 0, .string ⟨#[]⟩, .slice none 0 0, .slice none 0 0, .pointer none] 50)) := hb2.alloc (by rw [World.size_alloc, World.size_alloc]; omega) _
  have s2 : ((w.alloc (.cells #[.int .i64 x.sort, .int .i64 x.n, .string (bstr x.s), .slice none 0 0, .slice A x.l.length c, .pointer p] 50)).alloc (.cells #[.int .i64 y.sort, .int .i64 y.n, .string (bstr y.s), .slice none 0 0, .slice A6 y.l.length k6, .pointer q6] 50)).heap.size = w.heap.size + 2 := by rw [World.size_alloc, World.size_alloc]
  have hX0 : (((w.alloc (.cells #[.int .i64 x.sort, .int .i64 x.n, .string (bstr x.s), .slice none 0 0, .slice A x.l.length c, .pointer p] 50)).alloc (.cells #[.int .i64 y.sort, .int .i64 y.n, .string (bstr y.s), .slice none 0 0, .slice A6 y.l.length k6, .pointer q6] 50)).alloc (.cells #[.int .i64 1, .int .i64 0, .string ⟨#[]⟩, .slice none 0 0, .slice none 0 0, .pointer none] 50)).heap[w.heap.size]? = some (.cells #[.int .i64 x.sort, .int .i64 x.n, .string (bstr x.s), .slice none 0 0, .slice A x.l.length c, .pointer p] 50) := (Below.heap_alloc _ _ _ (by rw [s2]; omega)).trans ((Below.heap_alloc _ _ _ (by rw [World.size_alloc]; omega)).trans (heap_new rfl))
  have hX1 : (((w.alloc (.cells #[.int .i64 x.sort, .int .i64 x.n, .string (bstr x.s), .slice none 0 0, .slice A x.l.length c, .pointer p] 50)).alloc (.cells #[.int .i64 y.sort, .int .i64 y.n, .string (bstr y.s), .slice none 0 0, .slice A6 y.l.length k6, .pointer q6] 50)).alloc (.cells #[.int .i64 1, .int .i64 0, .string ⟨#[]⟩, .slice none 0 0, .slice none 0 0, .pointer none] 50)).heap[w.heap.size + 1]? = some (.cells #[.int .i64 y.sort, .int .i64 y.n, .string (bstr y.s), .slice none 0 0, .slice A6 y.l.length k6, .pointer q6] 50) := (Below.heap_alloc _ _ _ (by rw [s2]; omega)).trans (heap_new (World.size_alloc _ _))
  have hX2 : (((w.alloc (.cells #[.int .i64 x.sort, .int .i64 x.n, .string (bstr x.s), .slice none 0 0, .slice A x.l.length c, .pointer p] 50)).alloc (.cells #[.int .i64 y.sort, .int .i64 y.n, .string (bstr y.s), .slice none 0 0, .slice A6 y.l.length k6, .pointer q6] 50)).alloc (.cells #[.int .i64 1, .int .i64 0, .string ⟨#[]⟩, .slice none 0 0, .slice none 0 0, .pointer none] 50)).heap[w.heap.size + 2]? = some (.cells #[.int .i64 1, .int .i64 0, .string ⟨#[]⟩, .slice none 0 0, .slice none 0 0, .pointer none] 50) := heap_new s2
  obtain ⟨a0, a1, a2, a3, a4, a5⟩ := cells6 hX0
  obtain ⟨d0, d1, d2, d3, d4, d5⟩ := cells6 hX1
  have HB3 := Lib.hid hb3
  have HX2 := Lib.hid hX2
  have HH := Lib.hid h
  have HN := Lib.hid hn
  have HBM := Lib.hid (fun (wr : World) (hb : Below w.heap.size w wr) => And.intro (Tr.below (P := Mv mb t r v f) hb) (hb.mono (Nat.le_of_lt (Nat.lt_of_le_of_lt h.base.2 h.lt))))
  obtain ⟨g0, g1, g2, g3, g4, g5⟩ := cells6 HX2.out
  have HT := Lib.hid (tellH_any (h.below hb3) hn 1 0 0 false)
  obtain ⟨b0, f0⟩ : ∃ b0, ((bstr o).toList == [94]) = b0 := ⟨_, rfl⟩
  obtain ⟨b1, f1⟩ : ∃ b1, ((bstr o).toList == [35]) = b1 := ⟨_, rfl⟩
  clear h hn hb1 hb2 hb3 hX0 hX1 hX2 s2
  cases b0 <;> cases b1
  all_goals
    go_enter Tryd.func39, Tryd.ntmps39
    go_wp2_with (go_at_call 35; (with_reducible refine HT.out.mono ?_); rintro e1 w2 ⟨rfl, hp⟩; have HP := Lib.hid hp; clear hp HT)
    go_returns
    with_reducible exact ⟨rfl, HP.out.mono (HBM.out _ HB3.out).1 (HBM.out _ HB3.out).2⟩
set_option maxHeartbeats 4000000 in
theorem oper_any (h : Rep w0 B mb s w t i r v f nx nm rcs vcs fcs) (hn : s.vals.length ≤ 100000000000) (o : Str) (x y : Val) (A : Option Addr) (c : Nat) (p : Option Addr) (A6 : Option Addr) (k6 : Nat) (q6 : Option Addr) (h1 : x.s.length ≤ 4000000) (h2 : y.s.length ≤ 4000000) (h3 : -9223372036854775808 ≤ x.n ∧ x.n ≤ 9223372036854775807) (h4 : -9223372036854775808 ≤ y.n ∧ y.n ≤ 9223372036854775807) :
    Calls Tryd.prog 39 #[.pointer (some ⟨mb, 0, none⟩), .string (bstr o), .agg #[.int .i64 x.sort, .int .i64 x.n, .string (bstr x.s), .slice none 0 0, .slice A x.l.length c, .pointer p], .agg #[.int .i64 y.sort, .int .i64 y.n, .string (bstr y.s), .slice none 0 0, .slice A6 y.l.length k6, .pointer q6]] w fun e w' => e = .returned (.tuple #[]) ∧ Post w0 B mb (Mv mb t r v f) w (s.oper o x y) w' := by
  by_cases x2 : x.sort = 2
  · by_cases y2 : y.sort = 2
    · by_cases ho : o = [94]
      · exact operJ_any h hn o x y A c p A6 k6 q6 ho x2 y2 h1 h2
      · exact operN22_any h hn o x y A c p A6 k6 q6 x2 y2 ho
    · by_cases y1 : y.sort = 1
      · by_cases ho : o = [35]
        · exact operB_any h hn o x y A c p A6 k6 q6 ho x2 y1 h1
        · exact operN21_any h hn o x y A c p A6 k6 q6 x2 y1 ho
      · exact operN2n_any h hn o x y A c p A6 k6 q6 x2 y1 y2
  · by_cases x1 : x.sort = 1
    · by_cases y1 : y.sort = 1
      · exact operI_any h hn o x y A c p A6 k6 q6 x1 y1 h3 h4
      · by_cases y2 : y.sort = 2
        · exact operN12_any h hn o x y A c p A6 k6 q6 x1 y2
        · exact operN1n_any h hn o x y A c p A6 k6 q6 x1 y1 y2
    · by_cases y2 : y.sort = 2
      · exact operNn2_any h hn o x y A c p A6 k6 q6 x1 x2 y2
      · by_cases y1 : y.sort = 1
        · exact operNn1_any h hn o x y A c p A6 k6 q6 x1 x2 y1
        · exact operNnn_any h hn o x y A c p A6 k6 q6 x1 x2 y1 y2
end
end Go.Proofs.YtpdfjdomjklkbaaDoor

namespace Go.Proofs.YtpdfjdomjklkbaaDoor
open Go.ChangeShapes Go.WideShapes Go.ChangeAt Go.RowKit Go.Sort
set_option linter.unusedVariables false
set_option linter.unusedSimpArgs false

def isTup (z y : Val) (m : Int) : Bool := decide (z.sort = 4 ∧ y.sort = 1 ∧ 0 ≤ y.n ∧ y.n < z.l.length + m)
set_option maxHeartbeats 4000000 in
theorem isTupA (w : World) (b1 b2 : Nat) (a k m : Int) (s1 s2 : Int) (A : Option Addr) (n c : Nat) (u1 u2 u3 u5 v2 v3 v4 v5 : Value) (h1 : w.heap[b1]? = some (.cells #[.int .i64 s1, u1, u2, u3, .slice A n c, u5] 50)) (h2 : w.heap[b2]? = some (.cells #[.int .i64 s2, .int .i64 k, v2, v3, v4, v5] 50)) (hm : 0 ≤ m ∧ m ≤ 1) (hn : n ≤ 100000000000) (hs : ¬ s1 = 4) :
    Calls Tryd.prog 46 #[.pointer (some ⟨b1, 0, none⟩), .pointer (some ⟨b2, 0, none⟩), .int .i64 m] w fun e w' => e = .returned (.bool false) ∧ Below w.heap.size w w' := by
  obtain ⟨a0, a1, a2, a3, a4, a5⟩ := cells6 h1
  obtain ⟨d0, d1, d2, d3, d4, d5⟩ := cells6 h2
  have e1 : (s1 == 4) = false := by simpa using hs
  clear h1 h2
  go_enter Tryd.func46, Tryd.ntmps46
  go_upto_region 1 with fail
  go_quiet (fail)
  all_goals
    go_wp2_with fail
    go_returns
    exact ⟨rfl, ⟨rfl, rfl, rfl, Nat.le_refl _, fun _ _ => rfl⟩⟩
set_option maxHeartbeats 4000000 in
theorem isTupB (w : World) (b1 b2 : Nat) (a k m : Int) (s1 s2 : Int) (A : Option Addr) (n c : Nat) (u1 u2 u3 u5 v2 v3 v4 v5 : Value) (h1 : w.heap[b1]? = some (.cells #[.int .i64 4, u1, u2, u3, .slice A n c, u5] 50)) (h2 : w.heap[b2]? = some (.cells #[.int .i64 s2, .int .i64 k, v2, v3, v4, v5] 50)) (hm : 0 ≤ m ∧ m ≤ 1) (hn : n ≤ 100000000000) (hs : ¬ s2 = 1) :
    Calls Tryd.prog 46 #[.pointer (some ⟨b1, 0, none⟩), .pointer (some ⟨b2, 0, none⟩), .int .i64 m] w fun e w' => e = .returned (.bool false) ∧ Below w.heap.size w w' := by
  obtain ⟨a0, a1, a2, a3, a4, a5⟩ := cells6 h1
  obtain ⟨d0, d1, d2, d3, d4, d5⟩ := cells6 h2
  have e1 : (s2 == 1) = false := by simpa using hs
  clear h1 h2
  go_enter Tryd.func46, Tryd.ntmps46
  go_upto_region 1 with fail
  go_quiet (fail)
  all_goals
    go_wp2_with fail
    go_returns
    exact ⟨rfl, ⟨rfl, rfl, rfl, Nat.le_refl _, fun _ _ => rfl⟩⟩
set_option maxHeartbeats 4000000 in
theorem isTupC (w : World) (b1 b2 : Nat) (a k m : Int) (s1 s2 : Int) (A : Option Addr) (n c : Nat) (u1 u2 u3 u5 v2 v3 v4 v5 : Value) (h1 : w.heap[b1]? = some (.cells #[.int .i64 4, u1, u2, u3, .slice A n c, u5] 50)) (h2 : w.heap[b2]? = some (.cells #[.int .i64 1, .int .i64 k, v2, v3, v4, v5] 50)) (hm : 0 ≤ m ∧ m ≤ 1) (hn : n ≤ 100000000000) (hk : ¬ 0 ≤ k) :
    Calls Tryd.prog 46 #[.pointer (some ⟨b1, 0, none⟩), .pointer (some ⟨b2, 0, none⟩), .int .i64 m] w fun e w' => e = .returned (.bool false) ∧ Below w.heap.size w w' := by
  obtain ⟨a0, a1, a2, a3, a4, a5⟩ := cells6 h1
  obtain ⟨d0, d1, d2, d3, d4, d5⟩ := cells6 h2
  have e1 : decide (0 ≤ k) = false := decide_eq_false hk
  clear h1 h2
  go_enter Tryd.func46, Tryd.ntmps46
  go_upto_region 1 with fail
  go_quiet (fail)
  all_goals
    go_wp2_with fail
    go_returns
    exact ⟨rfl, ⟨rfl, rfl, rfl, Nat.le_refl _, fun _ _ => rfl⟩⟩
set_option maxHeartbeats 4000000 in
theorem isTupD (w : World) (b1 b2 : Nat) (a k m : Int) (s1 s2 : Int) (A : Option Addr) (n c : Nat) (u1 u2 u3 u5 v2 v3 v4 v5 : Value) (h1 : w.heap[b1]? = some (.cells #[.int .i64 4, u1, u2, u3, .slice A n c, u5] 50)) (h2 : w.heap[b2]? = some (.cells #[.int .i64 1, .int .i64 k, v2, v3, v4, v5] 50)) (hm : 0 ≤ m ∧ m ≤ 1) (hn : n ≤ 100000000000) (hk : 0 ≤ k) (hl : ¬ k < (n : Int) + m) :
    Calls Tryd.prog 46 #[.pointer (some ⟨b1, 0, none⟩), .pointer (some ⟨b2, 0, none⟩), .int .i64 m] w fun e w' => e = .returned (.bool false) ∧ Below w.heap.size w w' := by
  obtain ⟨a0, a1, a2, a3, a4, a5⟩ := cells6 h1
  obtain ⟨d0, d1, d2, d3, d4, d5⟩ := cells6 h2
  have e1 : decide (0 ≤ k) = true := decide_eq_true hk
  have e2 : decide (k < (n : Int) + m) = false := decide_eq_false hl
  have e3 : (n : Int) ≤ 100000000000 := by omega
  clear h1 h2
  go_enter Tryd.func46, Tryd.ntmps46
  go_upto_region 1 with fail
  go_quiet (fail)
  all_goals
    go_wp2_with fail
    go_returns
    exact ⟨rfl, ⟨rfl, rfl, rfl, Nat.le_refl _, fun _ _ => rfl⟩⟩
set_option maxHeartbeats 4000000 in
theorem isTupE (w : World) (b1 b2 : Nat) (a k m : Int) (s1 s2 : Int) (A : Option Addr) (n c : Nat) (u1 u2 u3 u5 v2 v3 v4 v5 : Value) (h1 : w.heap[b1]? = some (.cells #[.int .i64 4, u1, u2, u3, .slice A n c, u5] 50)) (h2 : w.heap[b2]? = some (.cells #[.int .i64 1, .int .i64 k, v2, v3, v4, v5] 50)) (hm : 0 ≤ m ∧ m ≤ 1) (hn : n ≤ 100000000000) (hk : 0 ≤ k) (hl : k < (n : Int) + m) :
    Calls Tryd.prog 46 #[.pointer (some ⟨b1, 0, none⟩), .pointer (some ⟨b2, 0, none⟩), .int .i64 m] w fun e w' => e = .returned (.bool true) ∧ Below w.heap.size w w' := by
  obtain ⟨a0, a1, a2, a3, a4, a5⟩ := cells6 h1
  obtain ⟨d0, d1, d2, d3, d4, d5⟩ := cells6 h2
  have e1 : decide (0 ≤ k) = true := decide_eq_true hk
  have e2 : decide (k < (n : Int) + m) = true := decide_eq_true hl
  have e3 : (n : Int) ≤ 100000000000 := by omega
  clear h1 h2
  go_enter Tryd.func46, Tryd.ntmps46
  go_upto_region 1 with fail
  go_quiet (fail)
  all_goals
    go_wp2_with fail
    go_returns
    exact ⟨rfl, ⟨rfl, rfl, rfl, Nat.le_refl _, fun _ _ => rfl⟩⟩
theorem isTuple_any (w : World) (b1 b2 : Nat) (z y : Val) (m : Int) (A A6 : Option Addr) (c k6 : Nat) (p q6 : Option Addr) (h1 : w.heap[b1]? = some (.cells #[.int .i64 z.sort, .int .i64 z.n, .string (bstr z.s), .slice none 0 0, .slice A z.l.length c, .pointer p] 50)) (h2 : w.heap[b2]? = some (.cells #[.int .i64 y.sort, .int .i64 y.n, .string (bstr y.s), .slice none 0 0, .slice A6 y.l.length k6, .pointer q6] 50)) (hm : 0 ≤ m ∧ m ≤ 1) (hn : z.l.length ≤ 100000000000) :
    Calls Tryd.prog 46 #[.pointer (some ⟨b1, 0, none⟩), .pointer (some ⟨b2, 0, none⟩), .int .i64 m] w fun e w' => e = .returned (.bool (isTup z y m)) ∧ Below w.heap.size w w' := by
  by_cases c1 : z.sort = 4
  · rw [c1] at h1
    by_cases c2 : y.sort = 1
    · rw [c2] at h2
      by_cases c3 : 0 ≤ y.n
      · by_cases c4 : y.n < (z.l.length : Int) + m
        · rw [show isTup z y m = true from decide_eq_true ⟨c1, c2, c3, c4⟩]
          exact isTupE w b1 b2 0 y.n m 0 0 A z.l.length c _ _ _ _ _ _ _ _ h1 h2 hm hn c3 c4
        · rw [show isTup z y m = false from decide_eq_false (fun k => c4 k.2.2.2)]
          exact isTupD w b1 b2 0 y.n m 0 0 A z.l.length c _ _ _ _ _ _ _ _ h1 h2 hm hn c3 c4
      · rw [show isTup z y m = false from decide_eq_false (fun k => c3 k.2.2.1)]
        exact isTupC w b1 b2 0 y.n m 0 0 A z.l.length c _ _ _ _ _ _ _ _ h1 h2 hm hn c3
    · rw [show isTup z y m = false from decide_eq_false (fun k => c2 k.2.1)]
      exact isTupB w b1 b2 0 y.n m 0 _ A z.l.length c _ _ _ _ _ _ _ _ h1 h2 hm hn c2
  · rw [show isTup z y m = false from decide_eq_false (fun k => c1 k.1)]
    exact isTupA w b1 b2 0 y.n m _ _ A z.l.length c _ _ _ _ _ _ _ _ h1 h2 hm hn c1
end Go.Proofs.YtpdfjdomjklkbaaDoor

namespace Go.Proofs.YtpdfjdomjklkbaaDoor
open Go.ChangeShapes Go.WideShapes Go.ChangeAt Go.RowKit Go.Sort
set_option linter.unusedVariables false
set_option linter.unusedSimpArgs false

def partsOk (d : ExD) : Bool :=
  if d.kind = 1 ∨ d.kind = 2 ∨ d.kind = 3 ∨ d.kind = 22 then ((d.pn : Int) == 0) else
  if d.kind = 4 ∨ d.kind = 17 ∨ d.kind = 18 ∨ d.kind = 20 ∨ d.kind = 21 then ((d.pn : Int) == 1) else
  if d.kind = 5 ∨ d.kind = 6 ∨ d.kind = 7 ∨ d.kind = 9 ∨ d.kind = 11 ∨ d.kind = 13 ∨ d.kind = 16 ∨ d.kind = 19 then ((d.pn : Int) == 2) else
  if d.kind = 10 ∨ d.kind = 12 ∨ d.kind = 15 then ((d.pn : Int) == 3) else
  if d.kind = 8 then true else
  if d.kind = 14 then (if d.t = [] then ((d.pn : Int) == 1 + 2 * (d.nn : Int)) else ((d.pn : Int) - 1 == 1 + 2 * (d.nn : Int))) else false
set_option maxRecDepth 100000 in
set_option maxHeartbeats 4000000 in
theorem parts_any (d : ExD) (w : World) (eb eo : Nat) (hd : d.At w eb eo) (hp : d.pn ≤ 4000000) (hn : d.nn ≤ 4000000) :
    Calls Tryd.prog 21 #[.pointer (some ⟨eb, eo, none⟩)] w fun e w' => e = .returned (.bool (partsOk d)) ∧ Below w.heap.size w w' := by
  have c0 := hd.c0
  have c3 := hd.c3
  have c4 := hd.c4
  have c5 := hd.c5
  clear hd
  obtain ⟨kind, n, s, t, nA, nn, nc, names, pA, pn, pc⟩ := d
  simp only at c0 c3 c4 c5 hp hn
  have hp1 : (pn : Int) ≤ 4000000 := by omega
  have hn1 : (nn : Int) ≤ 4000000 := by omega
  by_cases h1 : kind = 1
  · subst h1
    go_enter Tryd.func21, Tryd.ntmps21
    go_wp2_with fail
    go_returns
    exact ⟨rfl, Below.refl _ _⟩
  by_cases h2 : kind = 2
  · subst h2
    go_enter Tryd.func21, Tryd.ntmps21
    go_wp2_with fail
    go_returns
    exact ⟨rfl, Below.refl _ _⟩
  by_cases h3 : kind = 3
  · subst h3
    go_enter Tryd.func21, Tryd.ntmps21
    go_wp2_with fail
    go_returns
    exact ⟨rfl, Below.refl _ _⟩
  by_cases h4 : kind = 4
  · subst h4
    go_enter Tryd.func21, Tryd.ntmps21
    go_wp2_with fail
    go_returns
    exact ⟨rfl, Below.refl _ _⟩
  by_cases h5 : kind = 5
  · subst h5
    go_enter Tryd.func21, Tryd.ntmps21
    go_wp2_with fail
    go_returns
    exact ⟨rfl, Below.refl _ _⟩
  by_cases h6 : kind = 6
  · subst h6
    go_enter Tryd.func21, Tryd.ntmps21
    go_wp2_with fail
    go_returns
    exact ⟨rfl, Below.refl _ _⟩
  by_cases h7 : kind = 7
  · subst h7
    go_enter Tryd.func21, Tryd.ntmps21
    go_wp2_with fail
    go_returns
    exact ⟨rfl, Below.refl _ _⟩
  by_cases h8 : kind = 8
  · subst h8
    go_enter Tryd.func21, Tryd.ntmps21
    go_wp2_with fail
    go_returns
    exact ⟨rfl, Below.refl _ _⟩
  by_cases h9 : kind = 9
  · subst h9
    go_enter Tryd.func21, Tryd.ntmps21
    go_wp2_with fail
    go_returns
    exact ⟨rfl, Below.refl _ _⟩
  by_cases h10 : kind = 10
  · subst h10
    go_enter Tryd.func21, Tryd.ntmps21
    go_wp2_with fail
    go_returns
    exact ⟨rfl, Below.refl _ _⟩
  by_cases h11 : kind = 11
  · subst h11
    go_enter Tryd.func21, Tryd.ntmps21
    go_wp2_with fail
    go_returns
    exact ⟨rfl, Below.refl _ _⟩
  by_cases h12 : kind = 12
  · subst h12
    go_enter Tryd.func21, Tryd.ntmps21
    go_wp2_with fail
    go_returns
    exact ⟨rfl, Below.refl _ _⟩
  by_cases h13 : kind = 13
  · subst h13
    go_enter Tryd.func21, Tryd.ntmps21
    go_wp2_with fail
    go_returns
    exact ⟨rfl, Below.refl _ _⟩
  by_cases h15 : kind = 15
  · subst h15
    go_enter Tryd.func21, Tryd.ntmps21
    go_wp2_with fail
    go_returns
    exact ⟨rfl, Below.refl _ _⟩
  by_cases h16 : kind = 16
  · subst h16
    go_enter Tryd.func21, Tryd.ntmps21
    go_wp2_with fail
    go_returns
    exact ⟨rfl, Below.refl _ _⟩
  by_cases h17 : kind = 17
  · subst h17
    go_enter Tryd.func21, Tryd.ntmps21
    go_wp2_with fail
    go_returns
    exact ⟨rfl, Below.refl _ _⟩
  by_cases h18 : kind = 18
  · subst h18
    go_enter Tryd.func21, Tryd.ntmps21
    go_wp2_with fail
    go_returns
    exact ⟨rfl, Below.refl _ _⟩
  by_cases h19 : kind = 19
  · subst h19
    go_enter Tryd.func21, Tryd.ntmps21
    go_wp2_with fail
    go_returns
    exact ⟨rfl, Below.refl _ _⟩
  by_cases h20 : kind = 20
  · subst h20
    go_enter Tryd.func21, Tryd.ntmps21
    go_wp2_with fail
    go_returns
    exact ⟨rfl, Below.refl _ _⟩
  by_cases h21 : kind = 21
  · subst h21
    go_enter Tryd.func21, Tryd.ntmps21
    go_wp2_with fail
    go_returns
    exact ⟨rfl, Below.refl _ _⟩
  by_cases h22 : kind = 22
  · subst h22
    go_enter Tryd.func21, Tryd.ntmps21
    go_wp2_with fail
    go_returns
    exact ⟨rfl, Below.refl _ _⟩
  by_cases h14 : kind = 14
  · subst h14
    by_cases ht : t = []
    · subst ht
      have ft : ((bstr []).toList == []) = true := by rw [bstr_toList]; rfl
      go_enter Tryd.func21, Tryd.ntmps21
      go_wp2_with fail
      go_returns
      exact ⟨rfl, Below.refl _ _⟩
    · have ft : ((bstr t).toList == []) = false := by rw [bstr_toList]; simpa using ht
      have e : partsOk ⟨14, n, s, t, nA, nn, nc, names, pA, pn, pc⟩ = ((pn : Int) - 1 == 1 + 2 * (nn : Int)) := by show (if t = [] then _ else _) = _; rw [if_neg ht]
      rw [e]
      clear e
      go_enter Tryd.func21, Tryd.ntmps21
      go_wp2_with fail
      go_returns
      exact ⟨rfl, Below.refl _ _⟩
  have e : partsOk ⟨kind, n, s, t, nA, nn, nc, names, pA, pn, pc⟩ = false := by simp [partsOk, *]
  rw [e]
  clear e
  go_enter Tryd.func21, Tryd.ntmps21
  go_wp2_with fail
  go_returns
  exact ⟨rfl, Below.refl _ _⟩
end Go.Proofs.YtpdfjdomjklkbaaDoor

namespace Go.Proofs.YtpdfjdomjklkbaaDoor
open Go.ChangeShapes Go.WideShapes Go.ChangeAt Go.RowKit Go.Sort
set_option linter.unusedVariables false
set_option linter.unusedSimpArgs false

section
variable {w0 w : World} {B mb : Nat} {s : St} {t i r v f nx nm : Value} {rcs vcs fcs : List (List Value)}
set_option maxHeartbeats 4000000 in
theorem beginStuck_any (h : Rep w0 B mb s w t i r v f nx nm rcs vcs fcs) (hv : s.vals.length ≤ 100000000000) (e : Ex) (env : Env) (eb eo : Nat) (u : Option Addr) (he : EN w0 w (Mv mb t r v f) e env eb eo (.pointer u)) (hd : e.d.At w eb eo) (hp : e.d.pn ≤ 4000000) (hn : e.d.nn ≤ 4000000) (hk : partsOk e.d = false) :
    Calls Tryd.prog 15 #[.agg #[.pointer (some ⟨mb, 0, none⟩)], .pointer (some ⟨eb, eo, none⟩), .pointer u] w fun e1 w' => e1 = .returned (.tuple #[]) ∧ Post w0 B mb (Mv mb t r v f) w { s with err := 11 } w' := by
  have hb : Below w.heap.size w (w.alloc (.cells #[.pointer (some ⟨mb, 0, none⟩)] 46)) := (Below.refl _ _).alloc (Nat.le_refl _) _
  have HP0 := Lib.hid (parts_any e.d _ eb eo (hd.lower hb) hp hn)
  rw [hk] at HP0
  have HC := Lib.hid (fun (wr : World) (hb : Below w.heap.size w wr) => stuck_any (h.below hb))
  have HB := Lib.hid hb
  have hx := heap_new (w := w) (o := .cells #[.pointer (some ⟨mb, 0, none⟩)] 46) rfl
  have HX := Lib.hid hx
  have HBM := Lib.hid (fun (wr : World) (hb : Below w.heap.size w wr) => And.intro (Tr.below (P := Mv mb t r v f) hb) (hb.mono (Nat.le_of_lt (Nat.lt_of_le_of_lt h.base.2 h.lt))))
  clear h hb he hd hp hn hk hv hx
  go_enter Tryd.func15, Tryd.ntmps15
  go_wp2_with (first
    | (go_at_call 21; (with_reducible refine HP0.out.mono ?_); rintro e1 w1 ⟨rfl, hb1⟩; have c0 : w1.cell? ⟨w.heap.size, 0, none⟩ = some (.pointer (some ⟨mb, 0, none⟩)) := (by rw [Lib.cell_of_heap ((hb1.block _ (lt_of_heap HX.out)).trans HX.out)]; rfl); have HB1 := Lib.hid (below_then HB.out hb1); clear hb1 HP0)
    | (go_at_call 22; (with_reducible refine (HC.out _ HB1.out).mono ?_); rintro e1 w2 ⟨rfl, hp⟩; have HP := Lib.hid hp; clear hp))
  go_returns
  with_reducible exact ⟨rfl, HP.out.mono (HBM.out _ HB1.out).1 (HBM.out _ HB1.out).2⟩
end
end Go.Proofs.YtpdfjdomjklkbaaDoor

namespace Go.Proofs.YtpdfjdomjklkbaaDoor
open Go.ChangeShapes Go.WideShapes Go.ChangeAt Go.RowKit Go.Sort
set_option linter.unusedVariables false
set_option linter.unusedSimpArgs false

section
variable {w0 w : World} {B mb : Nat} {s : St} {t i r v f nx nm : Value} {rcs vcs fcs : List (List Value)}
set_option maxHeartbeats 4000000 in
theorem beginInt_any (h : Rep w0 B mb s w t i r v f nx nm rcs vcs fcs) (hv : s.vals.length ≤ 100000000000)  (e : Ex) (env : Env) (eb eo : Nat) (u : Option Addr) (he : EN w0 w (Mv mb t r v f) e env eb eo (.pointer u)) (hd : e.d.At w eb eo) (hp : e.d.pn ≤ 4000000) (hn : e.d.nn ≤ 4000000) (hk : partsOk e.d = true) (hkd : e.d.kind = 1) :
    Calls Tryd.prog 15 #[.agg #[.pointer (some ⟨mb, 0, none⟩)], .pointer (some ⟨eb, eo, none⟩), .pointer u] w fun e1 w' => e1 = .returned (.tuple #[]) ∧ Post w0 B mb (Mv mb t r v f) w { s with vals := s.vals ++ [.mk 1 e.d.n [] [] none] } w' := by
  have hb : Below w.heap.size w (w.alloc (.cells #[.pointer (some ⟨mb, 0, none⟩)] 46)) := (Below.refl _ _).alloc (Nat.le_refl _) _
  have HP0 := Lib.hid (parts_any e.d _ eb eo (hd.lower hb) hp hn)
  rw [hk] at HP0
  have HC := Lib.hid (fun (wr : World) (hb : Below w.heap.size w wr) => tellE_any (h.below hb) hv 1 e.d.n)
  have HD := Lib.hid (fun (wr : World) (hb : Below w.heap.size w wr) => hd.lower hb)
  have HB := Lib.hid hb
  have hx := heap_new (w := w) (o := .cells #[.pointer (some ⟨mb, 0, none⟩)] 46) rfl
  have HX := Lib.hid hx
  have HBM := Lib.hid (fun (wr : World) (hb : Below w.heap.size w wr) => And.intro (Tr.below (P := Mv mb t r v f) hb) (hb.mono (Nat.le_of_lt (Nat.lt_of_le_of_lt h.base.2 h.lt))))
  have HKD := hkd
  clear h hb he hd hp hn hk hv hx
  go_enter Tryd.func15, Tryd.ntmps15
  go_upto_region 6 with (go_at_call 21; (with_reducible refine HP0.out.mono ?_); rintro e1 w1 ⟨rfl, hb1⟩; have hbw := below_then HB.out hb1; have c0 : w1.cell? ⟨w.heap.size, 0, none⟩ = some (.pointer (some ⟨mb, 0, none⟩)) := (by rw [Lib.cell_of_heap ((hb1.block _ (lt_of_heap HX.out)).trans HX.out)]; rfl); have k0 := (HD.out _ hbw).c0; have k1 := (HD.out _ hbw).c1; have k2 := (HD.out _ hbw).c2; rw [hkd] at k0; have HB1 := Lib.hid hbw; clear hb1 HP0 hbw)
  go_region_law (go_simp; go_at_call 23; (with_reducible refine (HC.out _ (Below.drew HB1.out)).mono ?_); rintro e1 w2 ⟨rfl, hp⟩; have HP := Lib.hid hp; clear hp)
  all_goals
    go_wp2_with fail
    go_returns
    with_reducible exact ⟨rfl, HP.out.mono (HBM.out _ (Below.drew HB1.out)).1 (HBM.out _ (Below.drew HB1.out)).2⟩
set_option maxHeartbeats 4000000 in
theorem beginText_any (h : Rep w0 B mb s w t i r v f nx nm rcs vcs fcs) (hv : s.vals.length ≤ 100000000000)  (e : Ex) (env : Env) (eb eo : Nat) (u : Option Addr) (he : EN w0 w (Mv mb t r v f) e env eb eo (.pointer u)) (hd : e.d.At w eb eo) (hp : e.d.pn ≤ 4000000) (hn : e.d.nn ≤ 4000000) (hk : partsOk e.d = true) (hkd : e.d.kind = 2) :
    Calls Tryd.prog 15 #[.agg #[.pointer (some ⟨mb, 0, none⟩)], .pointer (some ⟨eb, eo, none⟩), .pointer u] w fun e1 w' => e1 = .returned (.tuple #[]) ∧ Post w0 B mb (Mv mb t r v f) w { s with vals := s.vals ++ [.mk 2 0 e.d.s [] none] } w' := by
  have hb : Below w.heap.size w (w.alloc (.cells #[.pointer (some ⟨mb, 0, none⟩)] 46)) := (Below.refl _ _).alloc (Nat.le_refl _) _
  have HP0 := Lib.hid (parts_any e.d _ eb eo (hd.lower hb) hp hn)
  rw [hk] at HP0
  have HC := Lib.hid (fun (wr : World) (hb : Below w.heap.size w wr) => tellS_any (h.below hb) hv 2 0 e.d.s)
  have HD := Lib.hid (fun (wr : World) (hb : Below w.heap.size w wr) => hd.lower hb)
  have HB := Lib.hid hb
  have hx := heap_new (w := w) (o := .cells #[.pointer (some ⟨mb, 0, none⟩)] 46) rfl
  have HX := Lib.hid hx
  have HBM := Lib.hid (fun (wr : World) (hb : Below w.heap.size w wr) => And.intro (Tr.below (P := Mv mb t r v f) hb) (hb.mono (Nat.le_of_lt (Nat.lt_of_le_of_lt h.base.2 h.lt))))
  have HKD := hkd
  clear h hb he hd hp hn hk hv hx
  go_enter Tryd.func15, Tryd.ntmps15
  go_upto_region 8 with (go_at_call 21; (with_reducible refine HP0.out.mono ?_); rintro e1 w1 ⟨rfl, hb1⟩; have hbw := below_then HB.out hb1; have c0 : w1.cell? ⟨w.heap.size, 0, none⟩ = some (.pointer (some ⟨mb, 0, none⟩)) := (by rw [Lib.cell_of_heap ((hb1.block _ (lt_of_heap HX.out)).trans HX.out)]; rfl); have k0 := (HD.out _ hbw).c0; have k1 := (HD.out _ hbw).c1; have k2 := (HD.out _ hbw).c2; rw [hkd] at k0; have HB1 := Lib.hid hbw; clear hb1 HP0 hbw)
  go_region_law (go_simp; go_at_call 23; (with_reducible refine (HC.out _ (Below.drew HB1.out)).mono ?_); rintro e1 w2 ⟨rfl, hp⟩; have HP := Lib.hid hp; clear hp)
  all_goals
    go_wp2_with fail
    go_returns
    with_reducible exact ⟨rfl, HP.out.mono (HBM.out _ (Below.drew HB1.out)).1 (HBM.out _ (Below.drew HB1.out)).2⟩
set_option maxHeartbeats 4000000 in
theorem beginVar_any (h : Rep w0 B mb s w t i r v f nx nm rcs vcs fcs) (hv : s.vals.length ≤ 100000000000)  (e : Ex) (env : Env) (eb eo : Nat) (u : Option Addr) (he : EN w0 w (Mv mb t r v f) e env eb eo (.pointer u)) (hd : e.d.At w eb eo) (hp : e.d.pn ≤ 4000000) (hn : e.d.nn ≤ 4000000) (hk : partsOk e.d = true) (hkd : e.d.kind = 3) :
    Calls Tryd.prog 15 #[.agg #[.pointer (some ⟨mb, 0, none⟩)], .pointer (some ⟨eb, eo, none⟩), .pointer u] w fun e1 w' => e1 = .returned (.tuple #[]) ∧ Post w0 B mb (Mv mb t r v f) w (s.name e.d.s env) w' := by
  have hb : Below w.heap.size w (w.alloc (.cells #[.pointer (some ⟨mb, 0, none⟩)] 46)) := (Below.refl _ _).alloc (Nat.le_refl _) _
  have HP0 := Lib.hid (parts_any e.d _ eb eo (hd.lower hb) hp hn)
  rw [hk] at HP0
  have HC := Lib.hid (fun (wr : World) (hb : Below w.heap.size w wr) => name_any (h.below hb) hv e.d.s env _ (he.2.keep (Tr.below hb)))
  have HD := Lib.hid (fun (wr : World) (hb : Below w.heap.size w wr) => hd.lower hb)
  have HB := Lib.hid hb
  have hx := heap_new (w := w) (o := .cells #[.pointer (some ⟨mb, 0, none⟩)] 46) rfl
  have HX := Lib.hid hx
  have HBM := Lib.hid (fun (wr : World) (hb : Below w.heap.size w wr) => And.intro (Tr.below (P := Mv mb t r v f) hb) (hb.mono (Nat.le_of_lt (Nat.lt_of_le_of_lt h.base.2 h.lt))))
  have HKD := hkd
  clear h hb he hd hp hn hk hv hx
  go_enter Tryd.func15, Tryd.ntmps15
  go_upto_region 10 with (go_at_call 21; (with_reducible refine HP0.out.mono ?_); rintro e1 w1 ⟨rfl, hb1⟩; have hbw := below_then HB.out hb1; have c0 : w1.cell? ⟨w.heap.size, 0, none⟩ = some (.pointer (some ⟨mb, 0, none⟩)) := (by rw [Lib.cell_of_heap ((hb1.block _ (lt_of_heap HX.out)).trans HX.out)]; rfl); have k0 := (HD.out _ hbw).c0; have k1 := (HD.out _ hbw).c1; have k2 := (HD.out _ hbw).c2; rw [hkd] at k0; have HB1 := Lib.hid hbw; clear hb1 HP0 hbw)
  go_region_law (go_simp; go_at_call 24; (with_reducible refine (HC.out _ (Below.drew HB1.out)).mono ?_); rintro e1 w2 ⟨rfl, hp⟩; have HP := Lib.hid hp; clear hp)
  all_goals
    go_wp2_with fail
    go_returns
    with_reducible exact ⟨rfl, HP.out.mono (HBM.out _ (Below.drew HB1.out)).1 (HBM.out _ (Below.drew HB1.out)).2⟩
set_option maxHeartbeats 4000000 in
theorem beginRead_any (h : Rep w0 B mb s w t i r v f nx nm rcs vcs fcs) (hv : s.vals.length ≤ 100000000000) (hi : s.input.length ≤ 100000000000) (e : Ex) (env : Env) (eb eo : Nat) (u : Option Addr) (he : EN w0 w (Mv mb t r v f) e env eb eo (.pointer u)) (hd : e.d.At w eb eo) (hp : e.d.pn ≤ 4000000) (hn : e.d.nn ≤ 4000000) (hk : partsOk e.d = true) (hkd : e.d.kind = 22) :
    Calls Tryd.prog 15 #[.agg #[.pointer (some ⟨mb, 0, none⟩)], .pointer (some ⟨eb, eo, none⟩), .pointer u] w fun e1 w' => e1 = .returned (.tuple #[]) ∧ Post w0 B mb (Mv mb t r v f) w s.read w' := by
  have hb : Below w.heap.size w (w.alloc (.cells #[.pointer (some ⟨mb, 0, none⟩)] 46)) := (Below.refl _ _).alloc (Nat.le_refl _) _
  have HP0 := Lib.hid (parts_any e.d _ eb eo (hd.lower hb) hp hn)
  rw [hk] at HP0
  have HC := Lib.hid (fun (wr : World) (hb : Below w.heap.size w wr) => read_any (h.below hb) hv hi)
  have HD := Lib.hid (fun (wr : World) (hb : Below w.heap.size w wr) => hd.lower hb)
  have HB := Lib.hid hb
  have hx := heap_new (w := w) (o := .cells #[.pointer (some ⟨mb, 0, none⟩)] 46) rfl
  have HX := Lib.hid hx
  have HBM := Lib.hid (fun (wr : World) (hb : Below w.heap.size w wr) => And.intro (Tr.below (P := Mv mb t r v f) hb) (hb.mono (Nat.le_of_lt (Nat.lt_of_le_of_lt h.base.2 h.lt))))
  have HKD := hkd
  clear h hb he hd hp hn hk hv hx
  go_enter Tryd.func15, Tryd.ntmps15
  go_wp2_with (first
    | (go_at_call 21; (with_reducible refine HP0.out.mono ?_); rintro e1 w1 ⟨rfl, hb1⟩; have hbw := below_then HB.out hb1; have c0 : w1.cell? ⟨w.heap.size, 0, none⟩ = some (.pointer (some ⟨mb, 0, none⟩)) := (by rw [Lib.cell_of_heap ((hb1.block _ (lt_of_heap HX.out)).trans HX.out)]; rfl); have k0 := (HD.out _ hbw).c0; have k1 := (HD.out _ hbw).c1; have k2 := (HD.out _ hbw).c2; rw [hkd] at k0; have HB1 := Lib.hid hbw; clear hb1 HP0 hbw)
    | (go_at_call 28; (with_reducible refine (HC.out _ HB1.out).mono ?_); rintro e1 w2 ⟨rfl, hp⟩; have HP := Lib.hid hp; clear hp))
  go_returns
  with_reducible exact ⟨rfl, HP.out.mono (HBM.out _ HB1.out).1 (HBM.out _ HB1.out).2⟩
set_option maxHeartbeats 4000000 in
theorem beginWait_any (h : Rep w0 B mb s w t i r v f nx nm rcs vcs fcs) (hv : s.vals.length ≤ 100000000000) (hf : s.frames.length ≤ 100000000000) (e : Ex) (env : Env) (eb eo : Nat) (u : Option Addr) (he : EN w0 w (Mv mb t r v f) e env eb eo (.pointer u)) (hd : e.d.At w eb eo) (hp : e.d.pn ≤ 4000000) (hn : e.d.nn ≤ 4000000) (hk : partsOk e.d = true) (q1 : ¬ e.d.kind = 1) (q2 : ¬ e.d.kind = 2) (q3 : ¬ e.d.kind = 3) (q4 : ¬ e.d.kind = 4) (q7 : ¬ e.d.kind = 7) (q22 : ¬ e.d.kind = 22) :
    Calls Tryd.prog 15 #[.agg #[.pointer (some ⟨mb, 0, none⟩)], .pointer (some ⟨eb, eo, none⟩), .pointer u] w fun e1 w' => e1 = .returned (.tuple #[]) ∧ Post w0 B mb (Mv mb t r v f) w { s with frames := s.frames ++ [⟨e, env, s.vals.length⟩] } w' := by
  have hb : Below w.heap.size w (w.alloc (.cells #[.pointer (some ⟨mb, 0, none⟩)] 46)) := (Below.refl _ _).alloc (Nat.le_refl _) _
  have HP0 := Lib.hid (parts_any e.d _ eb eo (hd.lower hb) hp hn)
  rw [hk] at HP0
  have HC := Lib.hid (fun (wr : World) (hb : Below w.heap.size w wr) => wait_any (h.below hb) hv hf e env eb eo u ⟨he.1, he.2.keep (Tr.below hb)⟩)
  have HD := Lib.hid (fun (wr : World) (hb : Below w.heap.size w wr) => hd.lower hb)
  have HB := Lib.hid hb
  have hx := heap_new (w := w) (o := .cells #[.pointer (some ⟨mb, 0, none⟩)] 46) rfl
  have HX := Lib.hid hx
  have HBM := Lib.hid (fun (wr : World) (hb : Below w.heap.size w wr) => And.intro (Tr.below (P := Mv mb t r v f) hb) (hb.mono (Nat.le_of_lt (Nat.lt_of_le_of_lt h.base.2 h.lt))))
  have f1 : (e.d.kind == 1) = false := by simpa using q1
  have f2 : (e.d.kind == 2) = false := by simpa using q2
  have f3 : (e.d.kind == 3) = false := by simpa using q3
  have f4 : (e.d.kind == 4) = false := by simpa using q4
  have f7 : (e.d.kind == 7) = false := by simpa using q7
  have f22 : (e.d.kind == 22) = false := by simpa using q22
  clear h hb he hd hp hn hk hv hx
  go_enter Tryd.func15, Tryd.ntmps15
  go_wp2_with (first
    | (go_at_call 21; (with_reducible refine HP0.out.mono ?_); rintro e1 w1 ⟨rfl, hb1⟩; have hbw := below_then HB.out hb1; have c0 : w1.cell? ⟨w.heap.size, 0, none⟩ = some (.pointer (some ⟨mb, 0, none⟩)) := (by rw [Lib.cell_of_heap ((hb1.block _ (lt_of_heap HX.out)).trans HX.out)]; rfl); have k0 := (HD.out _ hbw).c0; have k1 := (HD.out _ hbw).c1; have k2 := (HD.out _ hbw).c2; have HB1 := Lib.hid hbw; clear hb1 HP0 hbw)
    | (go_at_call 29; (with_reducible refine (HC.out _ HB1.out).mono ?_); rintro e1 w2 ⟨rfl, hp⟩; have HP := Lib.hid hp; clear hp))
  go_returns
  with_reducible exact ⟨rfl, HP.out.mono (HBM.out _ HB1.out).1 (HBM.out _ HB1.out).2⟩
end
end Go.Proofs.YtpdfjdomjklkbaaDoor

namespace Go.Proofs.YtpdfjdomjklkbaaDoor
open Go.ChangeShapes Go.WideShapes Go.ChangeAt Go.RowKit Go.Sort
set_option linter.unusedVariables false
set_option linter.unusedSimpArgs false

theorem lambda2_any (w0 w : World) (P : Nat → Prop) (hP : ∀ b, w.heap.size ≤ b → P b) (x : Str) (e : Ex) (env : Env) (eb eo : Nat) (u : Option Addr) (he : EN w0 w P e env eb eo (.pointer u)) :
    Calls Tryd.prog 25 #[.string (bstr x), .pointer (some ⟨eb, eo, none⟩), .pointer u] w fun e1 w' => ∃ q : Option Addr, e1 = .returned (.agg #[.int .i64 3, .int .i64 0, .string (bstr []), .slice none 0 0, .slice none 0 0, .pointer q]) ∧ VR w0 w' P (.mk 3 0 [] [] (some (.mk [] false x e env))) [.int .i64 3, .int .i64 0, .string (bstr []), .slice none 0 0, .slice none 0 0, .pointer q] ∧ Below w.heap.size w w' := by
  refine (lambda_any w0 w P hP x e env eb eo u he).mono ?_
  rintro e1 w1 ⟨c5, rfl, hv, hb⟩
  obtain ⟨A, c, q, e⟩ := hv.six
  simp only [List.cons.injEq, and_true] at e
  obtain ⟨_, _, _, _, _, rfl⟩ := e
  exact ⟨q, rfl, hv, hb⟩
theorem named2_any (w0 w : World) (P : Nat → Prop) (hP : ∀ b, w.heap.size ≤ b → P b) (self x : Str) (e : Ex) (env : Env) (eb eo : Nat) (u : Option Addr) (he : EN w0 w P e env eb eo (.pointer u)) :
    Calls Tryd.prog 27 #[.string (bstr self), .string (bstr x), .pointer (some ⟨eb, eo, none⟩), .pointer u] w fun e1 w' => ∃ q : Option Addr, e1 = .returned (.agg #[.int .i64 3, .int .i64 0, .string (bstr []), .slice none 0 0, .slice none 0 0, .pointer q]) ∧ VR w0 w' P (.mk 3 0 [] [] (some (.mk self true x e env))) [.int .i64 3, .int .i64 0, .string (bstr []), .slice none 0 0, .slice none 0 0, .pointer q] ∧ Below w.heap.size w w' := by
  refine (named_any w0 w P hP self x e env eb eo u he).mono ?_
  rintro e1 w1 ⟨c5, rfl, hv, hb⟩
  obtain ⟨A, c, q, e⟩ := hv.six
  simp only [List.cons.injEq, and_true] at e
  obtain ⟨_, _, _, _, _, rfl⟩ := e
  exact ⟨q, rfl, hv, hb⟩
section
variable {w0 w : World} {B mb : Nat} {s : St} {t i r v f nx nm : Value} {rcs vcs fcs : List (List Value)}
theorem tellFn_any (h : Rep w0 B mb s w t i r v f nx nm rcs vcs fcs) (hn : s.vals.length ≤ 100000000000) (g : Fnc) (q : Option Addr) (hz : VR w0 w (Mv mb t r v f) (.mk 3 0 [] [] (some g)) [.int .i64 3, .int .i64 0, .string (bstr []), .slice none 0 0, .slice none 0 0, .pointer q]) :
    Calls Tryd.prog 23 #[.pointer (some ⟨mb, 0, none⟩), .agg #[.int .i64 3, .int .i64 0, .string (bstr []), .slice none 0 0, .slice none 0 0, .pointer q]] w fun e w' => e = .returned (.tuple #[]) ∧ Post w0 B mb (Mv mb t r v f) w { s with vals := s.vals ++ [.mk 3 0 [] [] (some g)] } w' :=
  tell_any h hn (.mk 3 0 [] [] (some g)) hz
set_option maxHeartbeats 8000000 in
theorem beginFn_any (h : Rep w0 B mb s w t i r v f nx nm rcs vcs fcs) (hv : s.vals.length ≤ 100000000000) (e x : Ex) (env : Env) (eb eo : Nat) (u : Option Addr) (he : EN w0 w (Mv mb t r v f) e env eb eo (.pointer u)) (hd : e.d.At w eb eo) (hl : e.l = [x]) (hp : e.d.pn ≤ 4000000) (hn : e.d.nn ≤ 4000000) (hk : partsOk e.d = true) (hkd : e.d.kind = 4) :
    Calls Tryd.prog 15 #[.agg #[.pointer (some ⟨mb, 0, none⟩)], .pointer (some ⟨eb, eo, none⟩), .pointer u] w fun e1 w' => e1 = .returned (.tuple #[]) ∧ Post w0 B mb (Mv mb t r v f) w { s with vals := s.vals ++ [.mk 3 0 [] [] (some (.mk [] false e.d.s x env))] } w' := by
  have hb : Below w.heap.size w (w.alloc (.cells #[.pointer (some ⟨mb, 0, none⟩)] 46)) := (Below.refl _ _).alloc (Nat.le_refl _) _
  have HP0 := Lib.hid (parts_any e.d _ eb eo (hd.lower hb) hp hn)
  rw [hk] at HP0
  obtain ⟨pb, po, hpA, hAt⟩ := he.1.1.part (k := 0) (by rw [hl]; exact Nat.one_pos)
  have hpn : e.d.pn = 1 := by rw [← he.1.1.len, hl]; rfl
  have hxA : x.d.At w0 pb po := by have := hAt 0 (by rw [hl]; exact Nat.one_pos); simpa [hl] using this
  have hxI : x.In w0 := he.1.1.sub x (by rw [hl]; exact List.mem_singleton_self x)
  have HL := Lib.hid (fun (wr : World) (hb : Below w.heap.size w wr) => lambda2_any w0 wr (Mv mb t r v f) (fun b hbb => (h.below hb).mvNew b hbb) e.d.s x env pb po u ⟨⟨hxI, hxA⟩, he.2.keep (Tr.below hb)⟩)
  have HC := Lib.hid (fun (wr : World) (hb : Below w.heap.size w wr) (q : Option Addr) hz => tellFn_any (h.below hb) hv (.mk [] false e.d.s x env) q hz)
  have HD := Lib.hid (fun (wr : World) (hb : Below w.heap.size w wr) => hd.lower hb)
  have HB := Lib.hid hb
  have hx := heap_new (w := w) (o := .cells #[.pointer (some ⟨mb, 0, none⟩)] 46) rfl
  have HX := Lib.hid hx
  have HBM := Lib.hid (fun (wr : World) (hb : Below w.heap.size w wr) => And.intro (Tr.below (P := Mv mb t r v f) hb) (hb.mono (Nat.le_of_lt (Nat.lt_of_le_of_lt h.base.2 h.lt))))
  clear h hb he hd hp hn hk hv hx hl hAt hxA hxI
  go_enter Tryd.func15, Tryd.ntmps15
  go_upto_region 12 with (go_at_call 21; (with_reducible refine HP0.out.mono ?_); rintro e1 w1 ⟨rfl, hb1⟩; have hbw := below_then HB.out hb1; have c0 : w1.cell? ⟨w.heap.size, 0, none⟩ = some (.pointer (some ⟨mb, 0, none⟩)) := (by rw [Lib.cell_of_heap ((hb1.block _ (lt_of_heap HX.out)).trans HX.out)]; rfl); have k0 := (HD.out _ hbw).c0; have k2 := (HD.out _ hbw).c2; have k5 := (HD.out _ hbw).c5; rw [hkd] at k0; rw [hpA, hpn] at k5; have HB1 := Lib.hid hbw; clear hb1 HP0 hbw)
  go_region_law (first
    | (go_simp; go_at_call 25; (with_reducible refine (HL.out _ (Below.drew HB1.out)).mono ?_); rintro e1 w2 ⟨q, rfl, hv2, hb2⟩; have hb3 := below_then (Below.drew HB1.out) hb2; have c0' : w2.cell? ⟨w.heap.size, 0, none⟩ = some (.pointer (some ⟨mb, 0, none⟩)) := cell_below hb2 c0; have HB2 := Lib.hid hb3; have HT := Lib.hid (HC.out _ hb3 q hv2); clear hb2 hb3 hv2)
    | (go_simp; go_at_call 23; (with_reducible refine HT.out.mono ?_); rintro e1 w3 ⟨rfl, hp⟩; have HP := Lib.hid hp; clear hp))
  all_goals
    go_wp2_with fail
    go_returns
    with_reducible exact ⟨rfl, HP.out.mono (HBM.out _ HB2.out).1 (HBM.out _ HB2.out).2⟩
end
end Go.Proofs.YtpdfjdomjklkbaaDoor
