/-
  Words; an error at a place; names.
-/
import Derived.Test.YtaglmmcjhlehjaaDoorLexA
namespace Go.Proofs.YtaglmmcjhlehjaaDoor
open Go.ChangeShapes Go.WideShapes Go.ChangeAt Go.RowKit
set_option linter.unusedVariables false
set_option linter.unusedSimpArgs false

/-- A token, as a value; nothing, as a value. -/
def tokV (t : Tok) : Value := .agg #[.int .i64 t.kind, .int .i64 (t.place : Int), .int .i64 t.n, .string (bstr t.s)]
def tok0 : Value := .agg #[.int .i64 0, .int .i64 0, .int .i64 0, .string ⟨#[]⟩]
/-- An error at a place. -/
def ErrAt (B : Nat) (w : World) (v : Value) (p : Nat) : Prop := ∃ g, B ≤ g ∧ v = .iface 100 (.pointer (some ⟨g, 0, none⟩)) ∧ w.cell? ⟨g, 0, none⟩ = some (.int .i64 (p : Int)) ∧ w.cell? ⟨g, 1, none⟩ = some (.int .i64 2)
theorem ErrAt.below {B : Nat} {w w' : World} {v : Value} {p : Nat} (h : ErrAt B w v p) (hb : Below w.heap.size w w') : ErrAt B w' v p := by
  obtain ⟨g, hB, e, h1, h2⟩ := h
  exact ⟨g, hB, e, cell_below hb h1, cell_below hb h2⟩
theorem ErrAt.mono {B C : Nat} {w : World} {v : Value} {p : Nat} (h : ErrAt B w v p) (hc : C ≤ B) : ErrAt C w v p := by
  obtain ⟨g, hB, h⟩ := h
  exact ⟨g, Nat.le_trans hc hB, h⟩
def BadRes (p : Nat) (w : World) (e : Ending) (w' : World) : Prop := ∃ v, e = .returned (.tuple #[tok0, .int .i64 0, v]) ∧ ErrAt w.heap.size w' v p ∧ Below w.heap.size w w'
def OneRes (r : OneR) (k : Nat) (w : World) (e : Ending) (w' : World) : Prop :=
  match r with
  | .ok t n => e = .returned (.tuple #[tokV (t.put k), .int .i64 ((k + n : Nat) : Int), .nilIface]) ∧ Below w.heap.size w w'
  | .bad o => BadRes (k + o) w e w'

theorem spotAt_any (p : Nat) (w : World) : Calls Tryd.prog 68 #[.int .i64 (p : Int), .int .i64 2] w fun e w' => ∃ v, e = .returned v ∧ ErrAt w.heap.size w' v p ∧ Below w.heap.size w w' := by
  go_enter Tryd.func68, Tryd.ntmps68
  go_wp2_with fail
  go_returns
  exact ⟨_, rfl, ⟨w.heap.size, Nat.le_refl _, rfl, cell_new w _ _ 0 rfl, cell_new w _ _ 1 rfl⟩, (Below.refl _ _).alloc (Nat.le_refl _) _⟩
/-- A token's own block: it may be written. -/
structure TC (w : World) (g : Nat) (u0 u1 u2 u3 : Value) : Prop where
  c0 : w.cell? ⟨g, 0, none⟩ = some u0
  c1 : w.cell? ⟨g, 1, none⟩ = some u1
  c2 : w.cell? ⟨g, 2, none⟩ = some u2
  c3 : w.cell? ⟨g, 3, none⟩ = some u3
  f0 : w.frozen? ⟨g, 0, none⟩ = false
  f1 : w.frozen? ⟨g, 1, none⟩ = false
  f2 : w.frozen? ⟨g, 2, none⟩ = false
  f3 : w.frozen? ⟨g, 3, none⟩ = false
theorem tc_new (w : World) (u0 u1 u2 u3 : Value) (t : TypeId) : TC (w.alloc (.cells #[u0, u1, u2, u3] t)) w.heap.size u0 u1 u2 u3 :=
  ⟨cell_new w _ _ 0 rfl, cell_new w _ _ 1 rfl, cell_new w _ _ 2 rfl, cell_new w _ _ 3 rfl, by simp, by simp, by simp, by simp⟩
theorem TC.below {w w' : World} {g : Nat} {u0 u1 u2 u3 : Value} (h : TC w g u0 u1 u2 u3) (hb : Below w.heap.size w w') : TC w' g u0 u1 u2 u3 := by
  have hlt := World.block_lt_of_cell? w _ h.c0
  exact ⟨cell_below hb h.c0, cell_below hb h.c1, cell_below hb h.c2, cell_below hb h.c3, (hb.frozen (p := ⟨g, 0, none⟩) hlt).trans h.f0, (hb.frozen (p := ⟨g, 1, none⟩) hlt).trans h.f1, (hb.frozen (p := ⟨g, 2, none⟩) hlt).trans h.f2, (hb.frozen (p := ⟨g, 3, none⟩) hlt).trans h.f3⟩
def set4 (w : World) (g : Nat) (v0 v1 v2 v3 : Value) : World := (((w.setCell ⟨g, 0, none⟩ v0).setCell ⟨g, 1, none⟩ v1).setCell ⟨g, 2, none⟩ v2).setCell ⟨g, 3, none⟩ v3
theorem TC.set {w : World} {g : Nat} {u0 u1 u2 u3 : Value} (h : TC w g u0 u1 u2 u3) (v0 v1 v2 v3 : Value) : TC (set4 w g v0 v1 v2 v3) g v0 v1 v2 v3 := by
  unfold set4
  have q0 : (w.setCell ⟨g, 0, none⟩ v0).cell? ⟨g, 0, none⟩ = some v0 := World.cell?_setCell_same _ _ _ h.c0
  have q1 : ((w.setCell ⟨g, 0, none⟩ v0).setCell ⟨g, 1, none⟩ v1).cell? ⟨g, 1, none⟩ = some v1 := World.cell?_setCell_same _ _ _ (by rw [World.cell?_setCell_other _ _ _ _ (by simp)]; exact h.c1)
  have q2 : (((w.setCell ⟨g, 0, none⟩ v0).setCell ⟨g, 1, none⟩ v1).setCell ⟨g, 2, none⟩ v2).cell? ⟨g, 2, none⟩ = some v2 := World.cell?_setCell_same _ _ _ (by rw [World.cell?_setCell_other _ _ _ _ (by simp), World.cell?_setCell_other _ _ _ _ (by simp)]; exact h.c2)
  refine ⟨?_, ?_, ?_, World.cell?_setCell_same _ _ _ (by rw [World.cell?_setCell_other _ _ _ _ (by simp), World.cell?_setCell_other _ _ _ _ (by simp), World.cell?_setCell_other _ _ _ _ (by simp)]; exact h.c3), ?_, ?_, ?_, ?_⟩
  · rw [World.cell?_setCell_other _ _ _ _ (by simp), World.cell?_setCell_other _ _ _ _ (by simp), World.cell?_setCell_other _ _ _ _ (by simp)]; exact q0
  · rw [World.cell?_setCell_other _ _ _ _ (by simp), World.cell?_setCell_other _ _ _ _ (by simp)]; exact q1
  · rw [World.cell?_setCell_other _ _ _ _ (by simp)]; exact q2
  · simp only [World.frozen?_setCell]; exact h.f0
  · simp only [World.frozen?_setCell]; exact h.f1
  · simp only [World.frozen?_setCell]; exact h.f2
  · simp only [World.frozen?_setCell]; exact h.f3
theorem set4_below {B g : Nat} {w0 w : World} (h : Below B w0 w) (hg : B ≤ g) (v0 v1 v2 v3 : Value) : Below B w0 (set4 w g v0 v1 v2 v3) :=
  (((h.setCell (by exact hg) v0).setCell (by exact hg) v1).setCell (by exact hg) v2).setCell (by exact hg) v3
theorem ErrAt.set4 {B : Nat} {w : World} {v : Value} {p g : Nat} (h : ErrAt B w v p) (hg : g < B) (v0 v1 v2 v3 : Value) : ErrAt B (set4 w g v0 v1 v2 v3) v p := by
  obtain ⟨e, hB, he, h1, h2⟩ := h
  have hne : e ≠ g := by omega
  unfold Go.Proofs.YtaglmmcjhlehjaaDoor.set4
  refine ⟨e, hB, he, ?_, ?_⟩
  · rw [World.cell?_setCell_other _ _ _ _ (by simp [hne]), World.cell?_setCell_other _ _ _ _ (by simp [hne]), World.cell?_setCell_other _ _ _ _ (by simp [hne]), World.cell?_setCell_other _ _ _ _ (by simp [hne])]; exact h1
  · rw [World.cell?_setCell_other _ _ _ _ (by simp [hne]), World.cell?_setCell_other _ _ _ _ (by simp [hne]), World.cell?_setCell_other _ _ _ _ (by simp [hne]), World.cell?_setCell_other _ _ _ _ (by simp [hne])]; exact h2

theorem bad_any (p : Nat) (w : World) : Calls Tryd.prog 63 #[.int .i64 (p : Int)] w fun e w' => BadRes p w e w' := by
  have HT := Lib.hid (tc_new w (.int .i64 0) (.int .i64 0) (.int .i64 0) (.string ⟨#[]⟩) 83)
  have HB := Lib.hid ((Below.refl w.heap.size w).alloc (Nat.le_refl _) (.cells #[.int .i64 0, .int .i64 0, .int .i64 0, .string ⟨#[]⟩] 83))
  have hsz : w.heap.size < (w.alloc (.cells #[.int .i64 0, .int .i64 0, .int .i64 0, .string ⟨#[]⟩] 83)).heap.size := by rw [World.size_alloc]; omega
  have HS := Lib.hid hsz
  clear hsz
  go_enter Tryd.func63, Tryd.ntmps63
  go_wp2_with fail
  generalize (w.alloc (.cells #[.int .i64 0, .int .i64 0, .int .i64 0, .string ⟨#[]⟩] 83)) = wa at *
  refine (spotAt_any p wa).mono ?_
  rintro e w1 ⟨v, rfl, hv, hb⟩
  have t1 := HT.out.below hb
  obtain ⟨c0, c1, c2, c3, f0, f1, f2, f3⟩ := t1
  have HV := Lib.hid (And.intro hv (And.intro (below_then HB.out hb) (HT.out.below hb)))
  clear hv hb
  go_wp2_with fail
  obtain ⟨q0, q1, q2, q3, _, _, _, _⟩ := HV.out.2.2.set (.int .i64 0) (.int .i64 0) (.int .i64 0) (.string ⟨#[]⟩)
  unfold Go.Proofs.YtaglmmcjhlehjaaDoor.set4 at q0 q1 q2 q3
  refine bodyPost_ret (v := .tuple #[tok0, .int .i64 0, v]) (by simp [results, Tryd.results63, go_sem, q0, q1, q2, q3]; rfl) rfl ?_
  exact ⟨v, rfl, (HV.out.1.set4 HS.out _ _ _ _).mono (Nat.le_of_lt HS.out), set4_below HV.out.2.1 (Nat.le_refl _) _ _ _ _⟩

set_option maxHeartbeats 3000000 in
theorem isWord_any (s : Str) (w : World) : Calls Tryd.prog 64 #[.string (bstr s)] w fun e w' => e = .returned (.bool (isWordB s)) ∧ w = w' := by
  by_cases h : s ∈ wordsL
  · have e : isWordB s = true := decide_eq_true h
    rw [e]
    clear e
    simp only [wordsL, List.mem_cons, List.not_mem_nil, or_false] at h
    rcases h with rfl | rfl | rfl | rfl | rfl | rfl | rfl | rfl | rfl | rfl | rfl | rfl | rfl | rfl
    · have g0 : ((bstr [102, 110]).toList == [102, 110]) = true := by rw [bstr_toList]; decide
      go_enter Tryd.func64, Tryd.ntmps64
      go_wp2
      go_returns
      exact ⟨rfl, rfl⟩
    · have g0 : ((bstr [108, 101, 116]).toList == [102, 110]) = false := by rw [bstr_toList]; decide
      have g1 : ((bstr [108, 101, 116]).toList == [108, 101, 116]) = true := by rw [bstr_toList]; decide
      go_enter Tryd.func64, Tryd.ntmps64
      go_wp2
      go_returns
      exact ⟨rfl, rfl⟩
    · have g0 : ((bstr [114, 101, 99]).toList == [102, 110]) = false := by rw [bstr_toList]; decide
      have g1 : ((bstr [114, 101, 99]).toList == [108, 101, 116]) = false := by rw [bstr_toList]; decide
      have g2 : ((bstr [114, 101, 99]).toList == [114, 101, 99]) = true := by rw [bstr_toList]; decide
      go_enter Tryd.func64, Tryd.ntmps64
      go_wp2
      go_returns
      exact ⟨rfl, rfl⟩
    · have g0 : ((bstr [105, 110]).toList == [102, 110]) = false := by rw [bstr_toList]; decide
      have g1 : ((bstr [105, 110]).toList == [108, 101, 116]) = false := by rw [bstr_toList]; decide
      have g2 : ((bstr [105, 110]).toList == [114, 101, 99]) = false := by rw [bstr_toList]; decide
      have g3 : ((bstr [105, 110]).toList == [105, 110]) = true := by rw [bstr_toList]; decide
      go_enter Tryd.func64, Tryd.ntmps64
      go_wp2
      go_returns
      exact ⟨rfl, rfl⟩
    · have g0 : ((bstr [109, 97, 116, 99, 104]).toList == [102, 110]) = false := by rw [bstr_toList]; decide
      have g1 : ((bstr [109, 97, 116, 99, 104]).toList == [108, 101, 116]) = false := by rw [bstr_toList]; decide
      have g2 : ((bstr [109, 97, 116, 99, 104]).toList == [114, 101, 99]) = false := by rw [bstr_toList]; decide
      have g3 : ((bstr [109, 97, 116, 99, 104]).toList == [105, 110]) = false := by rw [bstr_toList]; decide
      have g4 : ((bstr [109, 97, 116, 99, 104]).toList == [109, 97, 116, 99, 104]) = true := by rw [bstr_toList]; decide
      go_enter Tryd.func64, Tryd.ntmps64
      go_wp2
      go_returns
      exact ⟨rfl, rfl⟩
    · have g0 : ((bstr [119, 105, 116, 104]).toList == [102, 110]) = false := by rw [bstr_toList]; decide
      have g1 : ((bstr [119, 105, 116, 104]).toList == [108, 101, 116]) = false := by rw [bstr_toList]; decide
      have g2 : ((bstr [119, 105, 116, 104]).toList == [114, 101, 99]) = false := by rw [bstr_toList]; decide
      have g3 : ((bstr [119, 105, 116, 104]).toList == [105, 110]) = false := by rw [bstr_toList]; decide
      have g4 : ((bstr [119, 105, 116, 104]).toList == [109, 97, 116, 99, 104]) = false := by rw [bstr_toList]; decide
      have g5 : ((bstr [119, 105, 116, 104]).toList == [119, 105, 116, 104]) = true := by rw [bstr_toList]; decide
      go_enter Tryd.func64, Tryd.ntmps64
      go_wp2
      go_returns
      exact ⟨rfl, rfl⟩
    · have g0 : ((bstr [101, 110, 100]).toList == [102, 110]) = false := by rw [bstr_toList]; decide
      have g1 : ((bstr [101, 110, 100]).toList == [108, 101, 116]) = false := by rw [bstr_toList]; decide
      have g2 : ((bstr [101, 110, 100]).toList == [114, 101, 99]) = false := by rw [bstr_toList]; decide
      have g3 : ((bstr [101, 110, 100]).toList == [105, 110]) = false := by rw [bstr_toList]; decide
      have g4 : ((bstr [101, 110, 100]).toList == [109, 97, 116, 99, 104]) = false := by rw [bstr_toList]; decide
      have g5 : ((bstr [101, 110, 100]).toList == [119, 105, 116, 104]) = false := by rw [bstr_toList]; decide
      have g6 : ((bstr [101, 110, 100]).toList == [101, 110, 100]) = true := by rw [bstr_toList]; decide
      go_enter Tryd.func64, Tryd.ntmps64
      go_wp2
      go_returns
      exact ⟨rfl, rfl⟩
    · have g0 : ((bstr [105, 102]).toList == [102, 110]) = false := by rw [bstr_toList]; decide
      have g1 : ((bstr [105, 102]).toList == [108, 101, 116]) = false := by rw [bstr_toList]; decide
      have g2 : ((bstr [105, 102]).toList == [114, 101, 99]) = false := by rw [bstr_toList]; decide
      have g3 : ((bstr [105, 102]).toList == [105, 110]) = false := by rw [bstr_toList]; decide
      have g4 : ((bstr [105, 102]).toList == [109, 97, 116, 99, 104]) = false := by rw [bstr_toList]; decide
      have g5 : ((bstr [105, 102]).toList == [119, 105, 116, 104]) = false := by rw [bstr_toList]; decide
      have g6 : ((bstr [105, 102]).toList == [101, 110, 100]) = false := by rw [bstr_toList]; decide
      have g7 : ((bstr [105, 102]).toList == [105, 102]) = true := by rw [bstr_toList]; decide
      go_enter Tryd.func64, Tryd.ntmps64
      go_wp2
      go_returns
      exact ⟨rfl, rfl⟩
    · have g0 : ((bstr [116, 104, 101, 110]).toList == [102, 110]) = false := by rw [bstr_toList]; decide
      have g1 : ((bstr [116, 104, 101, 110]).toList == [108, 101, 116]) = false := by rw [bstr_toList]; decide
      have g2 : ((bstr [116, 104, 101, 110]).toList == [114, 101, 99]) = false := by rw [bstr_toList]; decide
      have g3 : ((bstr [116, 104, 101, 110]).toList == [105, 110]) = false := by rw [bstr_toList]; decide
      have g4 : ((bstr [116, 104, 101, 110]).toList == [109, 97, 116, 99, 104]) = false := by rw [bstr_toList]; decide
      have g5 : ((bstr [116, 104, 101, 110]).toList == [119, 105, 116, 104]) = false := by rw [bstr_toList]; decide
      have g6 : ((bstr [116, 104, 101, 110]).toList == [101, 110, 100]) = false := by rw [bstr_toList]; decide
      have g7 : ((bstr [116, 104, 101, 110]).toList == [105, 102]) = false := by rw [bstr_toList]; decide
      have g8 : ((bstr [116, 104, 101, 110]).toList == [116, 104, 101, 110]) = true := by rw [bstr_toList]; decide
      go_enter Tryd.func64, Tryd.ntmps64
      go_wp2
      go_returns
      exact ⟨rfl, rfl⟩
    · have g0 : ((bstr [101, 108, 115, 101]).toList == [102, 110]) = false := by rw [bstr_toList]; decide
      have g1 : ((bstr [101, 108, 115, 101]).toList == [108, 101, 116]) = false := by rw [bstr_toList]; decide
      have g2 : ((bstr [101, 108, 115, 101]).toList == [114, 101, 99]) = false := by rw [bstr_toList]; decide
      have g3 : ((bstr [101, 108, 115, 101]).toList == [105, 110]) = false := by rw [bstr_toList]; decide
      have g4 : ((bstr [101, 108, 115, 101]).toList == [109, 97, 116, 99, 104]) = false := by rw [bstr_toList]; decide
      have g5 : ((bstr [101, 108, 115, 101]).toList == [119, 105, 116, 104]) = false := by rw [bstr_toList]; decide
      have g6 : ((bstr [101, 108, 115, 101]).toList == [101, 110, 100]) = false := by rw [bstr_toList]; decide
      have g7 : ((bstr [101, 108, 115, 101]).toList == [105, 102]) = false := by rw [bstr_toList]; decide
      have g8 : ((bstr [101, 108, 115, 101]).toList == [116, 104, 101, 110]) = false := by rw [bstr_toList]; decide
      have g9 : ((bstr [101, 108, 115, 101]).toList == [101, 108, 115, 101]) = true := by rw [bstr_toList]; decide
      go_enter Tryd.func64, Tryd.ntmps64
      go_wp2
      go_returns
      exact ⟨rfl, rfl⟩
    · have g0 : ((bstr [114, 101, 102]).toList == [102, 110]) = false := by rw [bstr_toList]; decide
      have g1 : ((bstr [114, 101, 102]).toList == [108, 101, 116]) = false := by rw [bstr_toList]; decide
      have g2 : ((bstr [114, 101, 102]).toList == [114, 101, 99]) = false := by rw [bstr_toList]; decide
      have g3 : ((bstr [114, 101, 102]).toList == [105, 110]) = false := by rw [bstr_toList]; decide
      have g4 : ((bstr [114, 101, 102]).toList == [109, 97, 116, 99, 104]) = false := by rw [bstr_toList]; decide
      have g5 : ((bstr [114, 101, 102]).toList == [119, 105, 116, 104]) = false := by rw [bstr_toList]; decide
      have g6 : ((bstr [114, 101, 102]).toList == [101, 110, 100]) = false := by rw [bstr_toList]; decide
      have g7 : ((bstr [114, 101, 102]).toList == [105, 102]) = false := by rw [bstr_toList]; decide
      have g8 : ((bstr [114, 101, 102]).toList == [116, 104, 101, 110]) = false := by rw [bstr_toList]; decide
      have g9 : ((bstr [114, 101, 102]).toList == [101, 108, 115, 101]) = false := by rw [bstr_toList]; decide
      have g10 : ((bstr [114, 101, 102]).toList == [114, 101, 102]) = true := by rw [bstr_toList]; decide
      go_enter Tryd.func64, Tryd.ntmps64
      go_wp2
      go_returns
      exact ⟨rfl, rfl⟩
    · have g0 : ((bstr [112, 114, 105, 110, 116]).toList == [102, 110]) = false := by rw [bstr_toList]; decide
      have g1 : ((bstr [112, 114, 105, 110, 116]).toList == [108, 101, 116]) = false := by rw [bstr_toList]; decide
      have g2 : ((bstr [112, 114, 105, 110, 116]).toList == [114, 101, 99]) = false := by rw [bstr_toList]; decide
      have g3 : ((bstr [112, 114, 105, 110, 116]).toList == [105, 110]) = false := by rw [bstr_toList]; decide
      have g4 : ((bstr [112, 114, 105, 110, 116]).toList == [109, 97, 116, 99, 104]) = false := by rw [bstr_toList]; decide
      have g5 : ((bstr [112, 114, 105, 110, 116]).toList == [119, 105, 116, 104]) = false := by rw [bstr_toList]; decide
      have g6 : ((bstr [112, 114, 105, 110, 116]).toList == [101, 110, 100]) = false := by rw [bstr_toList]; decide
      have g7 : ((bstr [112, 114, 105, 110, 116]).toList == [105, 102]) = false := by rw [bstr_toList]; decide
      have g8 : ((bstr [112, 114, 105, 110, 116]).toList == [116, 104, 101, 110]) = false := by rw [bstr_toList]; decide
      have g9 : ((bstr [112, 114, 105, 110, 116]).toList == [101, 108, 115, 101]) = false := by rw [bstr_toList]; decide
      have g10 : ((bstr [112, 114, 105, 110, 116]).toList == [114, 101, 102]) = false := by rw [bstr_toList]; decide
      have g11 : ((bstr [112, 114, 105, 110, 116]).toList == [112, 114, 105, 110, 116]) = true := by rw [bstr_toList]; decide
      go_enter Tryd.func64, Tryd.ntmps64
      go_wp2
      go_returns
      exact ⟨rfl, rfl⟩
    · have g0 : ((bstr [115, 104, 111, 119]).toList == [102, 110]) = false := by rw [bstr_toList]; decide
      have g1 : ((bstr [115, 104, 111, 119]).toList == [108, 101, 116]) = false := by rw [bstr_toList]; decide
      have g2 : ((bstr [115, 104, 111, 119]).toList == [114, 101, 99]) = false := by rw [bstr_toList]; decide
      have g3 : ((bstr [115, 104, 111, 119]).toList == [105, 110]) = false := by rw [bstr_toList]; decide
      have g4 : ((bstr [115, 104, 111, 119]).toList == [109, 97, 116, 99, 104]) = false := by rw [bstr_toList]; decide
      have g5 : ((bstr [115, 104, 111, 119]).toList == [119, 105, 116, 104]) = false := by rw [bstr_toList]; decide
      have g6 : ((bstr [115, 104, 111, 119]).toList == [101, 110, 100]) = false := by rw [bstr_toList]; decide
      have g7 : ((bstr [115, 104, 111, 119]).toList == [105, 102]) = false := by rw [bstr_toList]; decide
      have g8 : ((bstr [115, 104, 111, 119]).toList == [116, 104, 101, 110]) = false := by rw [bstr_toList]; decide
      have g9 : ((bstr [115, 104, 111, 119]).toList == [101, 108, 115, 101]) = false := by rw [bstr_toList]; decide
      have g10 : ((bstr [115, 104, 111, 119]).toList == [114, 101, 102]) = false := by rw [bstr_toList]; decide
      have g11 : ((bstr [115, 104, 111, 119]).toList == [112, 114, 105, 110, 116]) = false := by rw [bstr_toList]; decide
      have g12 : ((bstr [115, 104, 111, 119]).toList == [115, 104, 111, 119]) = true := by rw [bstr_toList]; decide
      go_enter Tryd.func64, Tryd.ntmps64
      go_wp2
      go_returns
      exact ⟨rfl, rfl⟩
    · have g0 : ((bstr [114, 101, 97, 100]).toList == [102, 110]) = false := by rw [bstr_toList]; decide
      have g1 : ((bstr [114, 101, 97, 100]).toList == [108, 101, 116]) = false := by rw [bstr_toList]; decide
      have g2 : ((bstr [114, 101, 97, 100]).toList == [114, 101, 99]) = false := by rw [bstr_toList]; decide
      have g3 : ((bstr [114, 101, 97, 100]).toList == [105, 110]) = false := by rw [bstr_toList]; decide
      have g4 : ((bstr [114, 101, 97, 100]).toList == [109, 97, 116, 99, 104]) = false := by rw [bstr_toList]; decide
      have g5 : ((bstr [114, 101, 97, 100]).toList == [119, 105, 116, 104]) = false := by rw [bstr_toList]; decide
      have g6 : ((bstr [114, 101, 97, 100]).toList == [101, 110, 100]) = false := by rw [bstr_toList]; decide
      have g7 : ((bstr [114, 101, 97, 100]).toList == [105, 102]) = false := by rw [bstr_toList]; decide
      have g8 : ((bstr [114, 101, 97, 100]).toList == [116, 104, 101, 110]) = false := by rw [bstr_toList]; decide
      have g9 : ((bstr [114, 101, 97, 100]).toList == [101, 108, 115, 101]) = false := by rw [bstr_toList]; decide
      have g10 : ((bstr [114, 101, 97, 100]).toList == [114, 101, 102]) = false := by rw [bstr_toList]; decide
      have g11 : ((bstr [114, 101, 97, 100]).toList == [112, 114, 105, 110, 116]) = false := by rw [bstr_toList]; decide
      have g12 : ((bstr [114, 101, 97, 100]).toList == [115, 104, 111, 119]) = false := by rw [bstr_toList]; decide
      have g13 : ((bstr [114, 101, 97, 100]).toList == [114, 101, 97, 100]) = true := by rw [bstr_toList]; decide
      go_enter Tryd.func64, Tryd.ntmps64
      go_wp2
      go_returns
      exact ⟨rfl, rfl⟩
  · have e : isWordB s = false := decide_eq_false h
    rw [e]
    clear e
    have g : ∀ t, t ∈ wordsL → ((bstr s).toList == t) = false := fun t ht => by
      rw [bstr_toList, beq_eq_false_iff_ne]
      rintro rfl
      exact h ht
    have g0 := g [102, 110] (by decide)
    have g1 := g [108, 101, 116] (by decide)
    have g2 := g [114, 101, 99] (by decide)
    have g3 := g [105, 110] (by decide)
    have g4 := g [109, 97, 116, 99, 104] (by decide)
    have g5 := g [119, 105, 116, 104] (by decide)
    have g6 := g [101, 110, 100] (by decide)
    have g7 := g [105, 102] (by decide)
    have g8 := g [116, 104, 101, 110] (by decide)
    have g9 := g [101, 108, 115, 101] (by decide)
    have g10 := g [114, 101, 102] (by decide)
    have g11 := g [112, 114, 105, 110, 116] (by decide)
    have g12 := g [115, 104, 111, 119] (by decide)
    have g13 := g [114, 101, 97, 100] (by decide)
    clear g h
    go_enter Tryd.func64, Tryd.ntmps64
    go_wp2
    go_returns
    exact ⟨rfl, rfl⟩
end Go.Proofs.YtaglmmcjhlehjaaDoor
