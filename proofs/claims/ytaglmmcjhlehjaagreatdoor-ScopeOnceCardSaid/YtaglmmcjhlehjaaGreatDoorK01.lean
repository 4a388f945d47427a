/-
  Words; an error at a place; names.
  Names, words, tags.
  Signs.
  Numbers.
-/
import Derived.Test.YtaglmmcjhlehjaaGreatDoorK00
import Derived.Test.YtaglmmcjhlehjaaGreatDoorShelf
namespace Go.Proofs.YtaglmmcjhlehjaaGreatDoor
open Go.ChangeShapes Go.WideShapes Go.ChangeAt Go.RowKit
set_option linter.unusedVariables false
set_option linter.unusedSimpArgs false

/-- A token, as a value; nothing, as a value. -/
def tokV (t : Tok) : Value := .agg #[.int .i64 t.kind, .int .i64 (t.place : Int), .int .i64 t.n, .string (bstr t.s)]
def tok0 : Value := .agg #[.int .i64 0, .int .i64 0, .int .i64 0, .string ⟨#[]⟩]
/-- An error at a place. -/
def ErrAt (B : Nat) (w : World) (v : Value) (p : Nat) : Prop := ∃ g, B ≤ g ∧ v = .iface 71 (.pointer (some ⟨g, 0, none⟩)) ∧ w.cell? ⟨g, 0, none⟩ = some (.int .i64 (p : Int)) ∧ w.cell? ⟨g, 1, none⟩ = some (.int .i64 2)
theorem ErrAt.below {B : Nat} {w w' : World} {v : Value} {p : Nat} (h : ErrAt B w v p) (hb : Below w.heap.size w w') : ErrAt B w' v p := by
  obtain ⟨g, hB, e, h1, h2⟩ := h
  exact ⟨g, hB, e, cell_below hb h1, cell_below hb h2⟩
theorem ErrAt.mono {B C : Nat} {w : World} {v : Value} {p : Nat} (h : ErrAt B w v p) (hc : C ≤ B) : ErrAt C w v p := by
  obtain ⟨g, hB, h⟩ := h
  exact ⟨g, Nat.le_trans hc hB, h⟩
def BadRes (p : Nat) (w : World) (e : Ending) (w' : World) : Prop := ∃ v, e = .returned (.tuple #[tok0, .int .i64 0, v]) ∧ ErrAt w.heap.size w' v p ∧ Below w.heap.size w w'
def OneRes (r : OneR) (k : Nat) (w : World) (e : Ending) (w' : World) : Prop :=
  match r with
  | .ok t n => e = .returned (.tuple #[tokV (t.put k), .int .i64 ((k + n : Nat) : Int), .nilIface]) ∧ Below w.heap.size w w'
  | .bad o => BadRes (k + o) w e w'

theorem spotAt_any (p : Nat) (w : World) : Calls Tryz.prog 47 #[.int .i64 (p : Int), .int .i64 2] w fun e w' => ∃ v, e = .returned v ∧ ErrAt w.heap.size w' v p ∧ Below w.heap.size w w' := by
  go_enter Tryz.func47, Tryz.ntmps47
  go_wp2_with fail
  go_returns
  exact ⟨_, rfl, ⟨w.heap.size, Nat.le_refl _, rfl, cell_new w _ _ 0 rfl, cell_new w _ _ 1 rfl⟩, (Below.refl _ _).alloc (Nat.le_refl _) _⟩
/-- A token's own block: it may be written. -/
structure TC (w : World) (g : Nat) (u0 u1 u2 u3 : Value) : Prop where
  c0 : w.cell? ⟨g, 0, none⟩ = some u0
  c1 : w.cell? ⟨g, 1, none⟩ = some u1
  c2 : w.cell? ⟨g, 2, none⟩ = some u2
  c3 : w.cell? ⟨g, 3, none⟩ = some u3
  f0 : w.frozen? ⟨g, 0, none⟩ = false
  f1 : w.frozen? ⟨g, 1, none⟩ = false
  f2 : w.frozen? ⟨g, 2, none⟩ = false
  f3 : w.frozen? ⟨g, 3, none⟩ = false
theorem tc_new (w : World) (u0 u1 u2 u3 : Value) (t : TypeId) : TC (w.alloc (.cells #[u0, u1, u2, u3] t)) w.heap.size u0 u1 u2 u3 :=
  ⟨cell_new w _ _ 0 rfl, cell_new w _ _ 1 rfl, cell_new w _ _ 2 rfl, cell_new w _ _ 3 rfl, by simp, by simp, by simp, by simp⟩
theorem TC.below {w w' : World} {g : Nat} {u0 u1 u2 u3 : Value} (h : TC w g u0 u1 u2 u3) (hb : Below w.heap.size w w') : TC w' g u0 u1 u2 u3 := by
  have hlt := World.block_lt_of_cell? w _ h.c0
  exact ⟨cell_below hb h.c0, cell_below hb h.c1, cell_below hb h.c2, cell_below hb h.c3, (hb.frozen (p := ⟨g, 0, none⟩) hlt).trans h.f0, (hb.frozen (p := ⟨g, 1, none⟩) hlt).trans h.f1, (hb.frozen (p := ⟨g, 2, none⟩) hlt).trans h.f2, (hb.frozen (p := ⟨g, 3, none⟩) hlt).trans h.f3⟩
def set4 (w : World) (g : Nat) (v0 v1 v2 v3 : Value) : World := (((w.setCell ⟨g, 0, none⟩ v0).setCell ⟨g, 1, none⟩ v1).setCell ⟨g, 2, none⟩ v2).setCell ⟨g, 3, none⟩ v3
theorem TC.set {w : World} {g : Nat} {u0 u1 u2 u3 : Value} (h : TC w g u0 u1 u2 u3) (v0 v1 v2 v3 : Value) : TC (set4 w g v0 v1 v2 v3) g v0 v1 v2 v3 := by
  unfold set4
  have q0 : (w.setCell ⟨g, 0, none⟩ v0).cell? ⟨g, 0, none⟩ = some v0 := World.cell?_setCell_same _ _ _ h.c0
  have q1 : ((w.setCell ⟨g, 0, none⟩ v0).setCell ⟨g, 1, none⟩ v1).cell? ⟨g, 1, none⟩ = some v1 := World.cell?_setCell_same _ _ _ (by rw [World.cell?_setCell_other _ _ _ _ (by simp)]; exact h.c1)
  have q2 : (((w.setCell ⟨g, 0, none⟩ v0).setCell ⟨g, 1, none⟩ v1).setCell ⟨g, 2, none⟩ v2).cell? ⟨g, 2, none⟩ = some v2 := World.cell?_setCell_same _ _ _ (by rw [World.cell?_setCell_other _ _ _ _ (by simp), World.cell?_setCell_other _ _ _ _ (by simp)]; exact h.c2)
  refine ⟨?_, ?_, ?_, World.cell?_setCell_same _ _ _ (by rw [World.cell?_setCell_other _ _ _ _ (by simp), World.cell?_setCell_other _ _ _ _ (by simp), World.cell?_setCell_other _ _ _ _ (by simp)]; exact h.c3), ?_, ?_, ?_, ?_⟩
  · rw [World.cell?_setCell_other _ _ _ _ (by simp), World.cell?_setCell_other _ _ _ _ (by simp), World.cell?_setCell_other _ _ _ _ (by simp)]; exact q0
  · rw [World.cell?_setCell_other _ _ _ _ (by simp), World.cell?_setCell_other _ _ _ _ (by simp)]; exact q1
  · rw [World.cell?_setCell_other _ _ _ _ (by simp)]; exact q2
  · simp only [World.frozen?_setCell]; exact h.f0
  · simp only [World.frozen?_setCell]; exact h.f1
  · simp only [World.frozen?_setCell]; exact h.f2
  · simp only [World.frozen?_setCell]; exact h.f3
theorem set4_below {B g : Nat} {w0 w : World} (h : Below B w0 w) (hg : B ≤ g) (v0 v1 v2 v3 : Value) : Below B w0 (set4 w g v0 v1 v2 v3) :=
  (((h.setCell (by exact hg) v0).setCell (by exact hg) v1).setCell (by exact hg) v2).setCell (by exact hg) v3
theorem ErrAt.set4 {B : Nat} {w : World} {v : Value} {p g : Nat} (h : ErrAt B w v p) (hg : g < B) (v0 v1 v2 v3 : Value) : ErrAt B (set4 w g v0 v1 v2 v3) v p := by
  obtain ⟨e, hB, he, h1, h2⟩ := h
  have hne : e ≠ g := by omega
  unfold Go.Proofs.YtaglmmcjhlehjaaGreatDoor.set4
  refine ⟨e, hB, he, ?_, ?_⟩
  · rw [World.cell?_setCell_other _ _ _ _ (by simp [hne]), World.cell?_setCell_other _ _ _ _ (by simp [hne]), World.cell?_setCell_other _ _ _ _ (by simp [hne]), World.cell?_setCell_other _ _ _ _ (by simp [hne])]; exact h1
  · rw [World.cell?_setCell_other _ _ _ _ (by simp [hne]), World.cell?_setCell_other _ _ _ _ (by simp [hne]), World.cell?_setCell_other _ _ _ _ (by simp [hne]), World.cell?_setCell_other _ _ _ _ (by simp [hne])]; exact h2

theorem bad_any (p : Nat) (w : World) : Calls Tryz.prog 154 #[.int .i64 (p : Int)] w fun e w' => BadRes p w e w' := by
  have HT := Lib.hid (tc_new w (.int .i64 0) (.int .i64 0) (.int .i64 0) (.string ⟨#[]⟩) 174)
  have HB := Lib.hid ((Below.refl w.heap.size w).alloc (Nat.le_refl _) (.cells #[.int .i64 0, .int .i64 0, .int .i64 0, .string ⟨#[]⟩] 174))
  have hsz : w.heap.size < (w.alloc (.cells #[.int .i64 0, .int .i64 0, .int .i64 0, .string ⟨#[]⟩] 174)).heap.size := by rw [World.size_alloc]; omega
  have HS := Lib.hid hsz
  clear hsz
  go_enter Tryz.func154, Tryz.ntmps154
  go_wp2_with fail
  generalize (w.alloc (.cells #[.int .i64 0, .int .i64 0, .int .i64 0, .string ⟨#[]⟩] 174)) = wa at *
  refine (spotAt_any p wa).mono ?_
  rintro e w1 ⟨v, rfl, hv, hb⟩
  have t1 := HT.out.below hb
  obtain ⟨c0, c1, c2, c3, f0, f1, f2, f3⟩ := t1
  have HV := Lib.hid (And.intro hv (And.intro (below_then HB.out hb) (HT.out.below hb)))
  clear hv hb
  go_wp2_with fail
  obtain ⟨q0, q1, q2, q3, _, _, _, _⟩ := HV.out.2.2.set (.int .i64 0) (.int .i64 0) (.int .i64 0) (.string ⟨#[]⟩)
  unfold Go.Proofs.YtaglmmcjhlehjaaGreatDoor.set4 at q0 q1 q2 q3
  refine bodyPost_ret (v := .tuple #[tok0, .int .i64 0, v]) (by simp [results, Tryz.results154, go_sem, q0, q1, q2, q3]; rfl) rfl ?_
  exact ⟨v, rfl, (HV.out.1.set4 HS.out _ _ _ _).mono (Nat.le_of_lt HS.out), set4_below HV.out.2.1 (Nat.le_refl _) _ _ _ _⟩

set_option maxHeartbeats 3000000 in
theorem isWord_any (s : Str) (w : World) : Calls Tryz.prog 155 #[.string (bstr s)] w fun e w' => e = .returned (.bool (isWordB s)) ∧ w = w' := by
  by_cases h : s ∈ wordsL
  · have e : isWordB s = true := decide_eq_true h
    rw [e]
    clear e
    simp only [wordsL, List.mem_cons, List.not_mem_nil, or_false] at h
    rcases h with rfl | rfl | rfl | rfl | rfl | rfl | rfl | rfl | rfl | rfl | rfl | rfl | rfl | rfl
    · have g0 : ((bstr [102, 110]).toList == [102, 110]) = true := by rw [bstr_toList]; decide
      go_enter Tryz.func155, Tryz.ntmps155
      go_wp2
      go_returns
      exact ⟨rfl, rfl⟩
    · have g0 : ((bstr [108, 101, 116]).toList == [102, 110]) = false := by rw [bstr_toList]; decide
      have g1 : ((bstr [108, 101, 116]).toList == [108, 101, 116]) = true := by rw [bstr_toList]; decide
      go_enter Tryz.func155, Tryz.ntmps155
      go_wp2
      go_returns
      exact ⟨rfl, rfl⟩
    · have g0 : ((bstr [114, 101, 99]).toList == [102, 110]) = false := by rw [bstr_toList]; decide
      have g1 : ((bstr [114, 101, 99]).toList == [108, 101, 116]) = false := by rw [bstr_toList]; decide
      have g2 : ((bstr [114, 101, 99]).toList == [114, 101, 99]) = true := by rw [bstr_toList]; decide
      go_enter Tryz.func155, Tryz.ntmps155
      go_wp2
      go_returns
      exact ⟨rfl, rfl⟩
    · have g0 : ((bstr [105, 110]).toList == [102, 110]) = false := by rw [bstr_toList]; decide
      have g1 : ((bstr [105, 110]).toList == [108, 101, 116]) = false := by rw [bstr_toList]; decide
      have g2 : ((bstr [105, 110]).toList == [114, 101, 99]) = false := by rw [bstr_toList]; decide
      have g3 : ((bstr [105, 110]).toList == [105, 110]) = true := by rw [bstr_toList]; decide
      go_enter Tryz.func155, Tryz.ntmps155
      go_wp2
      go_returns
      exact ⟨rfl, rfl⟩
    · have g0 : ((bstr [109, 97, 116, 99, 104]).toList == [102, 110]) = false := by rw [bstr_toList]; decide
      have g1 : ((bstr [109, 97, 116, 99, 104]).toList == [108, 101, 116]) = false := by rw [bstr_toList]; decide
      have g2 : ((bstr [109, 97, 116, 99, 104]).toList == [114, 101, 99]) = false := by rw [bstr_toList]; decide
      have g3 : ((bstr [109, 97, 116, 99, 104]).toList == [105, 110]) = false := by rw [bstr_toList]; decide
      have g4 : ((bstr [109, 97, 116, 99, 104]).toList == [109, 97, 116, 99, 104]) = true := by rw [bstr_toList]; decide
      go_enter Tryz.func155, Tryz.ntmps155
      go_wp2
      go_returns
      exact ⟨rfl, rfl⟩
    · have g0 : ((bstr [119, 105, 116, 104]).toList == [102, 110]) = false := by rw [bstr_toList]; decide
      have g1 : ((bstr [119, 105, 116, 104]).toList == [108, 101, 116]) = false := by rw [bstr_toList]; decide
      have g2 : ((bstr [119, 105, 116, 104]).toList == [114, 101, 99]) = false := by rw [bstr_toList]; decide
      have g3 : ((bstr [119, 105, 116, 104]).toList == [105, 110]) = false := by rw [bstr_toList]; decide
      have g4 : ((bstr [119, 105, 116, 104]).toList == [109, 97, 116, 99, 104]) = false := by rw [bstr_toList]; decide
      have g5 : ((bstr [119, 105, 116, 104]).toList == [119, 105, 116, 104]) = true := by rw [bstr_toList]; decide
      go_enter Tryz.func155, Tryz.ntmps155
      go_wp2
      go_returns
      exact ⟨rfl, rfl⟩
    · have g0 : ((bstr [101, 110, 100]).toList == [102, 110]) = false := by rw [bstr_toList]; decide
      have g1 : ((bstr [101, 110, 100]).toList == [108, 101, 116]) = false := by rw [bstr_toList]; decide
      have g2 : ((bstr [101, 110, 100]).toList == [114, 101, 99]) = false := by rw [bstr_toList]; decide
      have g3 : ((bstr [101, 110, 100]).toList == [105, 110]) = false := by rw [bstr_toList]; decide
      have g4 : ((bstr [101, 110, 100]).toList == [109, 97, 116, 99, 104]) = false := by rw [bstr_toList]; decide
      have g5 : ((bstr [101, 110, 100]).toList == [119, 105, 116, 104]) = false := by rw [bstr_toList]; decide
      have g6 : ((bstr [101, 110, 100]).toList == [101, 110, 100]) = true := by rw [bstr_toList]; decide
      go_enter Tryz.func155, Tryz.ntmps155
      go_wp2
      go_returns
      exact ⟨rfl, rfl⟩
    · have g0 : ((bstr [105, 102]).toList == [102, 110]) = false := by rw [bstr_toList]; decide
      have g1 : ((bstr [105, 102]).toList == [108, 101, 116]) = false := by rw [bstr_toList]; decide
      have g2 : ((bstr [105, 102]).toList == [114, 101, 99]) = false := by rw [bstr_toList]; decide
      have g3 : ((bstr [105, 102]).toList == [105, 110]) = false := by rw [bstr_toList]; decide
      have g4 : ((bstr [105, 102]).toList == [109, 97, 116, 99, 104]) = false := by rw [bstr_toList]; decide
      have g5 : ((bstr [105, 102]).toList == [119, 105, 116, 104]) = false := by rw [bstr_toList]; decide
      have g6 : ((bstr [105, 102]).toList == [101, 110, 100]) = false := by rw [bstr_toList]; decide
      have g7 : ((bstr [105, 102]).toList == [105, 102]) = true := by rw [bstr_toList]; decide
      go_enter Tryz.func155, Tryz.ntmps155
      go_wp2
      go_returns
      exact ⟨rfl, rfl⟩
    · have g0 : ((bstr [116, 104, 101, 110]).toList == [102, 110]) = false := by rw [bstr_toList]; decide
      have g1 : ((bstr [116, 104, 101, 110]).toList == [108, 101, 116]) = false := by rw [bstr_toList]; decide
      have g2 : ((bstr [116, 104, 101, 110]).toList == [114, 101, 99]) = false := by rw [bstr_toList]; decide
      have g3 : ((bstr [116, 104, 101, 110]).toList == [105, 110]) = false := by rw [bstr_toList]; decide
      have g4 : ((bstr [116, 104, 101, 110]).toList == [109, 97, 116, 99, 104]) = false := by rw [bstr_toList]; decide
      have g5 : ((bstr [116, 104, 101, 110]).toList == [119, 105, 116, 104]) = false := by rw [bstr_toList]; decide
      have g6 : ((bstr [116, 104, 101, 110]).toList == [101, 110, 100]) = false := by rw [bstr_toList]; decide
      have g7 : ((bstr [116, 104, 101, 110]).toList == [105, 102]) = false := by rw [bstr_toList]; decide
      have g8 : ((bstr [116, 104, 101, 110]).toList == [116, 104, 101, 110]) = true := by rw [bstr_toList]; decide
      go_enter Tryz.func155, Tryz.ntmps155
      go_wp2
      go_returns
      exact ⟨rfl, rfl⟩
    · have g0 : ((bstr [101, 108, 115, 101]).toList == [102, 110]) = false := by rw [bstr_toList]; decide
      have g1 : ((bstr [101, 108, 115, 101]).toList == [108, 101, 116]) = false := by rw [bstr_toList]; decide
      have g2 : ((bstr [101, 108, 115, 101]).toList == [114, 101, 99]) = false := by rw [bstr_toList]; decide
      have g3 : ((bstr [101, 108, 115, 101]).toList == [105, 110]) = false := by rw [bstr_toList]; decide
      have g4 : ((bstr [101, 108, 115, 101]).toList == [109, 97, 116, 99, 104]) = false := by rw [bstr_toList]; decide
      have g5 : ((bstr [101, 108, 115, 101]).toList == [119, 105, 116, 104]) = false := by rw [bstr_toList]; decide
      have g6 : ((bstr [101, 108, 115, 101]).toList == [101, 110, 100]) = false := by rw [bstr_toList]; decide
      have g7 : ((bstr [101, 108, 115, 101]).toList == [105, 102]) = false := by rw [bstr_toList]; decide
      have g8 : ((bstr [101, 108, 115, 101]).toList == [116, 104, 101, 110]) = false := by rw [bstr_toList]; decide
      have g9 : ((bstr [101, 108, 115, 101]).toList == [101, 108, 115, 101]) = true := by rw [bstr_toList]; decide
      go_enter Tryz.func155, Tryz.ntmps155
      go_wp2
      go_returns
      exact ⟨rfl, rfl⟩
    · have g0 : ((bstr [114, 101, 102]).toList == [102, 110]) = false := by rw [bstr_toList]; decide
      have g1 : ((bstr [114, 101, 102]).toList == [108, 101, 116]) = false := by rw [bstr_toList]; decide
      have g2 : ((bstr [114, 101, 102]).toList == [114, 101, 99]) = false := by rw [bstr_toList]; decide
      have g3 : ((bstr [114, 101, 102]).toList == [105, 110]) = false := by rw [bstr_toList]; decide
      have g4 : ((bstr [114, 101, 102]).toList == [109, 97, 116, 99, 104]) = false := by rw [bstr_toList]; decide
      have g5 : ((bstr [114, 101, 102]).toList == [119, 105, 116, 104]) = false := by rw [bstr_toList]; decide
      have g6 : ((bstr [114, 101, 102]).toList == [101, 110, 100]) = false := by rw [bstr_toList]; decide
      have g7 : ((bstr [114, 101, 102]).toList == [105, 102]) = false := by rw [bstr_toList]; decide
      have g8 : ((bstr [114, 101, 102]).toList == [116, 104, 101, 110]) = false := by rw [bstr_toList]; decide
      have g9 : ((bstr [114, 101, 102]).toList == [101, 108, 115, 101]) = false := by rw [bstr_toList]; decide
      have g10 : ((bstr [114, 101, 102]).toList == [114, 101, 102]) = true := by rw [bstr_toList]; decide
      go_enter Tryz.func155, Tryz.ntmps155
      go_wp2
      go_returns
      exact ⟨rfl, rfl⟩
    · have g0 : ((bstr [112, 114, 105, 110, 116]).toList == [102, 110]) = false := by rw [bstr_toList]; decide
      have g1 : ((bstr [112, 114, 105, 110, 116]).toList == [108, 101, 116]) = false := by rw [bstr_toList]; decide
      have g2 : ((bstr [112, 114, 105, 110, 116]).toList == [114, 101, 99]) = false := by rw [bstr_toList]; decide
      have g3 : ((bstr [112, 114, 105, 110, 116]).toList == [105, 110]) = false := by rw [bstr_toList]; decide
      have g4 : ((bstr [112, 114, 105, 110, 116]).toList == [109, 97, 116, 99, 104]) = false := by rw [bstr_toList]; decide
      have g5 : ((bstr [112, 114, 105, 110, 116]).toList == [119, 105, 116, 104]) = false := by rw [bstr_toList]; decide
      have g6 : ((bstr [112, 114, 105, 110, 116]).toList == [101, 110, 100]) = false := by rw [bstr_toList]; decide
      have g7 : ((bstr [112, 114, 105, 110, 116]).toList == [105, 102]) = false := by rw [bstr_toList]; decide
      have g8 : ((bstr [112, 114, 105, 110, 116]).toList == [116, 104, 101, 110]) = false := by rw [bstr_toList]; decide
      have g9 : ((bstr [112, 114, 105, 110, 116]).toList == [101, 108, 115, 101]) = false := by rw [bstr_toList]; decide
      have g10 : ((bstr [112, 114, 105, 110, 116]).toList == [114, 101, 102]) = false := by rw [bstr_toList]; decide
      have g11 : ((bstr [112, 114, 105, 110, 116]).toList == [112, 114, 105, 110, 116]) = true := by rw [bstr_toList]; decide
      go_enter Tryz.func155, Tryz.ntmps155
      go_wp2
      go_returns
      exact ⟨rfl, rfl⟩
    · have g0 : ((bstr [115, 104, 111, 119]).toList == [102, 110]) = false := by rw [bstr_toList]; decide
      have g1 : ((bstr [115, 104, 111, 119]).toList == [108, 101, 116]) = false := by rw [bstr_toList]; decide
      have g2 : ((bstr [115, 104, 111, 119]).toList == [114, 101, 99]) = false := by rw [bstr_toList]; decide
      have g3 : ((bstr [115, 104, 111, 119]).toList == [105, 110]) = false := by rw [bstr_toList]; decide
      have g4 : ((bstr [115, 104, 111, 119]).toList == [109, 97, 116, 99, 104]) = false := by rw [bstr_toList]; decide
      have g5 : ((bstr [115, 104, 111, 119]).toList == [119, 105, 116, 104]) = false := by rw [bstr_toList]; decide
      have g6 : ((bstr [115, 104, 111, 119]).toList == [101, 110, 100]) = false := by rw [bstr_toList]; decide
      have g7 : ((bstr [115, 104, 111, 119]).toList == [105, 102]) = false := by rw [bstr_toList]; decide
      have g8 : ((bstr [115, 104, 111, 119]).toList == [116, 104, 101, 110]) = false := by rw [bstr_toList]; decide
      have g9 : ((bstr [115, 104, 111, 119]).toList == [101, 108, 115, 101]) = false := by rw [bstr_toList]; decide
      have g10 : ((bstr [115, 104, 111, 119]).toList == [114, 101, 102]) = false := by rw [bstr_toList]; decide
      have g11 : ((bstr [115, 104, 111, 119]).toList == [112, 114, 105, 110, 116]) = false := by rw [bstr_toList]; decide
      have g12 : ((bstr [115, 104, 111, 119]).toList == [115, 104, 111, 119]) = true := by rw [bstr_toList]; decide
      go_enter Tryz.func155, Tryz.ntmps155
      go_wp2
      go_returns
      exact ⟨rfl, rfl⟩
    · have g0 : ((bstr [114, 101, 97, 100]).toList == [102, 110]) = false := by rw [bstr_toList]; decide
      have g1 : ((bstr [114, 101, 97, 100]).toList == [108, 101, 116]) = false := by rw [bstr_toList]; decide
      have g2 : ((bstr [114, 101, 97, 100]).toList == [114, 101, 99]) = false := by rw [bstr_toList]; decide
      have g3 : ((bstr [114, 101, 97, 100]).toList == [105, 110]) = false := by rw [bstr_toList]; decide
      have g4 : ((bstr [114, 101, 97, 100]).toList == [109, 97, 116, 99, 104]) = false := by rw [bstr_toList]; decide
      have g5 : ((bstr [114, 101, 97, 100]).toList == [119, 105, 116, 104]) = false := by rw [bstr_toList]; decide
      have g6 : ((bstr [114, 101, 97, 100]).toList == [101, 110, 100]) = false := by rw [bstr_toList]; decide
      have g7 : ((bstr [114, 101, 97, 100]).toList == [105, 102]) = false := by rw [bstr_toList]; decide
      have g8 : ((bstr [114, 101, 97, 100]).toList == [116, 104, 101, 110]) = false := by rw [bstr_toList]; decide
      have g9 : ((bstr [114, 101, 97, 100]).toList == [101, 108, 115, 101]) = false := by rw [bstr_toList]; decide
      have g10 : ((bstr [114, 101, 97, 100]).toList == [114, 101, 102]) = false := by rw [bstr_toList]; decide
      have g11 : ((bstr [114, 101, 97, 100]).toList == [112, 114, 105, 110, 116]) = false := by rw [bstr_toList]; decide
      have g12 : ((bstr [114, 101, 97, 100]).toList == [115, 104, 111, 119]) = false := by rw [bstr_toList]; decide
      have g13 : ((bstr [114, 101, 97, 100]).toList == [114, 101, 97, 100]) = true := by rw [bstr_toList]; decide
      go_enter Tryz.func155, Tryz.ntmps155
      go_wp2
      go_returns
      exact ⟨rfl, rfl⟩
  · have e : isWordB s = false := decide_eq_false h
    rw [e]
    clear e
    have g : ∀ t, t ∈ wordsL → ((bstr s).toList == t) = false := fun t ht => by
      rw [bstr_toList, beq_eq_false_iff_ne]
      rintro rfl
      exact h ht
    have g0 := g [102, 110] (by decide)
    have g1 := g [108, 101, 116] (by decide)
    have g2 := g [114, 101, 99] (by decide)
    have g3 := g [105, 110] (by decide)
    have g4 := g [109, 97, 116, 99, 104] (by decide)
    have g5 := g [119, 105, 116, 104] (by decide)
    have g6 := g [101, 110, 100] (by decide)
    have g7 := g [105, 102] (by decide)
    have g8 := g [116, 104, 101, 110] (by decide)
    have g9 := g [101, 108, 115, 101] (by decide)
    have g10 := g [114, 101, 102] (by decide)
    have g11 := g [112, 114, 105, 110, 116] (by decide)
    have g12 := g [115, 104, 111, 119] (by decide)
    have g13 := g [114, 101, 97, 100] (by decide)
    clear g h
    go_enter Tryz.func155, Tryz.ntmps155
    go_wp2
    go_returns
    exact ⟨rfl, rfl⟩
end Go.Proofs.YtaglmmcjhlehjaaGreatDoor

namespace Go.Proofs.YtaglmmcjhlehjaaGreatDoor
open Go.ChangeShapes Go.WideShapes Go.ChangeAt Go.RowKit
set_option linter.unusedVariables false
set_option linter.unusedSimpArgs false

abbrev zeroTok : Obj := .cells #[.int .i64 0, .int .i64 0, .int .i64 0, .string ⟨#[]⟩] 174
/-- What holds of the world while a token is made: its own block lies behind what was there. -/
structure Mk (w0 w : World) (u0 u1 u2 u3 : Value) : Prop where
  tc : TC w w0.heap.size u0 u1 u2 u3
  b : Below w0.heap.size w0 w
  lt : w0.heap.size < w.heap.size
abbrev Mk0 (w0 w : World) : Prop := Mk w0 w (.int .i64 0) (.int .i64 0) (.int .i64 0) (.string ⟨#[]⟩)
theorem mk_new (w : World) : Mk0 w (w.alloc zeroTok) := ⟨tc_new w _ _ _ _ _, (Below.refl _ _).alloc (Nat.le_refl _) _, by rw [World.size_alloc]; omega⟩
theorem Mk.below {w0 w w' : World} {u0 u1 u2 u3 : Value} (h : Mk w0 w u0 u1 u2 u3) (hb : Below w.heap.size w w') : Mk w0 w' u0 u1 u2 u3 := ⟨h.tc.below hb, below_then h.b hb, Nat.lt_of_lt_of_le h.lt hb.size⟩
theorem Mk.set {w0 w : World} {u0 u1 u2 u3 : Value} (h : Mk w0 w u0 u1 u2 u3) (v0 v1 v2 v3 : Value) : Mk w0 (set4 w w0.heap.size v0 v1 v2 v3) v0 v1 v2 v3 :=
  ⟨h.tc.set _ _ _ _, set4_below h.b (Nat.le_refl _) _ _ _ _, by unfold set4; simpa [World.setCell] using h.lt⟩

set_option maxRecDepth 100000 in
set_option maxHeartbeats 400000 in
theorem namedName_any (A : Option Addr) (l : Str) (cp k : Nat) (w : World) (hr : Rd w 1 A l.length (u8s l)) (hk : k < l.length) (hp : nameB l[k] = true) (hcap : l.length ≤ cp) (hm : l.length ≤ 1048576) :
    Calls Tryz.prog 146 #[.slice A l.length cp, .int .i64 (k : Int), .func (.func 147) #[] #[], .int .i64 1] w fun e w' => OneRes (nameR 1 ((l.drop k).takeWhile nameB)) k w e w' := by
  obtain ⟨b, o, rfl, hb, _⟩ := hr.byte (k := k) hk
  obtain ⟨s, hs⟩ : ∃ s, (l.drop k).takeWhile nameB = s := ⟨_, rfl⟩
  have hpos : 0 < s.length := by
    rw [← hs, List.drop_eq_getElem_cons hk]; exact tw_pos hp
  have he2 := endB_le nameB l k (by omega)
  have hks : endB nameB l k = k + s.length := by unfold endB; rw [hs]
  have htk : (l.drop k).take s.length = s := by
    have := tw_take (p := nameB) (l.drop k)
    rwa [hs] at this
  have hcv : ∀ w' c', Below w.heap.size w w' → (convert 61 9 (.slice (some ⟨b, o + k, none⟩) s.length c')).run Tryz.prog w' = .ok (.string (bstr s)) w' := fun w' c' hb' => by
    have := conv_part (hr.below hb') k s.length c' (by omega)
    rwa [htk] at this
  have HAF := Lib.hid (afterName_any (some ⟨b, o, none⟩) l cp k (w.alloc zeroTok) (hr.alloc _) (by omega) hm)
  have HCV := Lib.hid hcv
  have HM := Lib.hid (mk_new w)
  rw [hs]
  have hle : k + s.length ≤ l.length := by omega
  rw [hks] at HAF
  clear hs he2 hks htk hcv hr hp
  by_cases h20 : 20 < s.length
  · have hres : nameR 1 s = .bad 0 := by unfold nameR; rw [if_pos h20]
    rw [hres]
    have h20i : (20 : Int) < ((k + s.length : Nat) : Int) - (k : Int) := by omega
    clear hres
    go_enter Tryz.func146, Tryz.ntmps146
    go_wp2_with fail
    generalize w.alloc zeroTok = wa at *
    refine HAF.out.mono ?_
    rintro e w1 ⟨rfl, rfl⟩
    go_wp2_with fail
    refine (bad_any k wa).mono ?_
    rintro e w2 ⟨v, rfl, hv, hb2⟩
    have HV := Lib.hid hv
    have HM2 := Lib.hid (HM.out.below hb2)
    clear hv hb2
    obtain ⟨c0, c1, c2, c3, f0, f1, f2, f3⟩ := HM2.out.tc
    unfold tok0
    go_wp2_with fail
    have HM3 := Lib.hid (HM2.out.set (.int .i64 0) (.int .i64 0) (.int .i64 0) (.string ⟨#[]⟩))
    obtain ⟨q0, q1, q2, q3, _, _, _, _⟩ := HM3.out.tc
    unfold set4 at q0 q1 q2 q3
    refine bodyPost_ret (v := .tuple #[tok0, .int .i64 0, v]) (by simp [results, Tryz.results146, go_sem, q0, q1, q2, q3]; rfl) rfl ?_
    exact ⟨v, rfl, (HV.out.set4 HM.out.lt _ _ _ _).mono (Nat.le_of_lt HM.out.lt), HM3.out.b⟩
  · have h20i : ¬ (20 : Int) < ((k + s.length : Nat) : Int) - (k : Int) := by omega
    have e1 : (k : Int) ≤ ((k + s.length : Nat) : Int) := by omega
    have e2 : ((k + s.length : Nat) : Int) ≤ (l.length : Int) := by omega
    have e3 : ¬ cp = k := by omega
    have cv := HCV.out _ (cp - k) HM.out.b
    have hw : nameR 1 s = .ok ⟨if isWordB s = true then 2 else 1, 0, s⟩ s.length := by unfold nameR; rw [if_neg h20]; simp
    clear h20 hpos hle
    cases hb2 : isWordB s with
    | true =>
      rw [hb2, if_pos rfl] at hw
      rw [hw]
      have HWB := Lib.hid hb2
      clear hw hb2
      go_enter Tryz.func146, Tryz.ntmps146
      go_wp2_with fail
      generalize w.alloc zeroTok = wa at *
      refine HAF.out.mono ?_
      rintro e w1 ⟨rfl, rfl⟩
      go_wp2_with fail
      refine (isWord_any s wa).mono ?_
      rw [HWB.out]
      rintro e w1 ⟨rfl, rfl⟩
      have HM3 := Lib.hid (HM.out.set (.int .i64 2) (.int .i64 (k : Int)) (.int .i64 0) (.string (bstr s)))
      obtain ⟨c0, c1, c2, c3, f0, f1, f2, f3⟩ := HM.out.tc
      go_wp2_with fail
      obtain ⟨q0, q1, q2, q3, _, _, _, _⟩ := HM3.out.tc
      unfold set4 at q0 q1 q2 q3
      refine bodyPost_ret (v := .tuple #[tokV ⟨2, k, 0, s⟩, .int .i64 ((k + s.length : Nat) : Int), .nilIface]) (by simp [results, Tryz.results146, go_sem, q0, q1, q2, q3, tokV]) rfl ?_
      exact ⟨rfl, HM3.out.b⟩
    | false =>
      rw [hb2, if_neg (by simp)] at hw
      rw [hw]
      have HWB := Lib.hid hb2
      clear hw hb2
      go_enter Tryz.func146, Tryz.ntmps146
      go_wp2_with fail
      generalize w.alloc zeroTok = wa at *
      refine HAF.out.mono ?_
      rintro e w1 ⟨rfl, rfl⟩
      go_wp2_with fail
      refine (isWord_any s wa).mono ?_
      rw [HWB.out]
      rintro e w1 ⟨rfl, rfl⟩
      have HM3 := Lib.hid (HM.out.set (.int .i64 1) (.int .i64 (k : Int)) (.int .i64 0) (.string (bstr s)))
      obtain ⟨c0, c1, c2, c3, f0, f1, f2, f3⟩ := HM.out.tc
      go_wp2_with fail
      obtain ⟨q0, q1, q2, q3, _, _, _, _⟩ := HM3.out.tc
      unfold set4 at q0 q1 q2 q3
      refine bodyPost_ret (v := .tuple #[tokV ⟨1, k, 0, s⟩, .int .i64 ((k + s.length : Nat) : Int), .nilIface]) (by simp [results, Tryz.results146, go_sem, q0, q1, q2, q3, tokV]) rfl ?_
      exact ⟨rfl, HM3.out.b⟩
set_option maxRecDepth 100000 in
set_option maxHeartbeats 400000 in
theorem namedTag_any (A : Option Addr) (l : Str) (cp k : Nat) (w : World) (hr : Rd w 1 A l.length (u8s l)) (hk : k < l.length) (hp : tagB l[k] = true) (hcap : l.length ≤ cp) (hm : l.length ≤ 1048576) :
    Calls Tryz.prog 146 #[.slice A l.length cp, .int .i64 (k : Int), .func (.func 149) #[] #[], .int .i64 3] w fun e w' => OneRes (nameR 3 ((l.drop k).takeWhile tagB)) k w e w' := by
  obtain ⟨b, o, rfl, hb, _⟩ := hr.byte (k := k) hk
  obtain ⟨s, hs⟩ : ∃ s, (l.drop k).takeWhile tagB = s := ⟨_, rfl⟩
  have hpos : 0 < s.length := by
    rw [← hs, List.drop_eq_getElem_cons hk]; exact tw_pos hp
  have he2 := endB_le tagB l k (by omega)
  have hks : endB tagB l k = k + s.length := by unfold endB; rw [hs]
  have htk : (l.drop k).take s.length = s := by
    have := tw_take (p := tagB) (l.drop k)
    rwa [hs] at this
  have hcv : ∀ w' c', Below w.heap.size w w' → (convert 61 9 (.slice (some ⟨b, o + k, none⟩) s.length c')).run Tryz.prog w' = .ok (.string (bstr s)) w' := fun w' c' hb' => by
    have := conv_part (hr.below hb') k s.length c' (by omega)
    rwa [htk] at this
  have HAF := Lib.hid (afterTag_any (some ⟨b, o, none⟩) l cp k (w.alloc zeroTok) (hr.alloc _) (by omega) hm)
  have HCV := Lib.hid hcv
  have HM := Lib.hid (mk_new w)
  rw [hs]
  have hle : k + s.length ≤ l.length := by omega
  rw [hks] at HAF
  clear hs he2 hks htk hcv hr hp
  by_cases h20 : 20 < s.length
  · have hres : nameR 3 s = .bad 0 := by unfold nameR; rw [if_pos h20]
    rw [hres]
    have h20i : (20 : Int) < ((k + s.length : Nat) : Int) - (k : Int) := by omega
    clear hres
    go_enter Tryz.func146, Tryz.ntmps146
    go_wp2_with fail
    generalize w.alloc zeroTok = wa at *
    refine HAF.out.mono ?_
    rintro e w1 ⟨rfl, rfl⟩
    go_wp2_with fail
    refine (bad_any k wa).mono ?_
    rintro e w2 ⟨v, rfl, hv, hb2⟩
    have HV := Lib.hid hv
    have HM2 := Lib.hid (HM.out.below hb2)
    clear hv hb2
    obtain ⟨c0, c1, c2, c3, f0, f1, f2, f3⟩ := HM2.out.tc
    unfold tok0
    go_wp2_with fail
    have HM3 := Lib.hid (HM2.out.set (.int .i64 0) (.int .i64 0) (.int .i64 0) (.string ⟨#[]⟩))
    obtain ⟨q0, q1, q2, q3, _, _, _, _⟩ := HM3.out.tc
    unfold set4 at q0 q1 q2 q3
    refine bodyPost_ret (v := .tuple #[tok0, .int .i64 0, v]) (by simp [results, Tryz.results146, go_sem, q0, q1, q2, q3]; rfl) rfl ?_
    exact ⟨v, rfl, (HV.out.set4 HM.out.lt _ _ _ _).mono (Nat.le_of_lt HM.out.lt), HM3.out.b⟩
  · have h20i : ¬ (20 : Int) < ((k + s.length : Nat) : Int) - (k : Int) := by omega
    have e1 : (k : Int) ≤ ((k + s.length : Nat) : Int) := by omega
    have e2 : ((k + s.length : Nat) : Int) ≤ (l.length : Int) := by omega
    have e3 : ¬ cp = k := by omega
    have cv := HCV.out _ (cp - k) HM.out.b
    have hw : nameR 3 s = .ok ⟨3, 0, s⟩ s.length := by unfold nameR; rw [if_neg h20]; simp
    clear h20 hpos hle
    rw [hw]
    clear hw
    go_enter Tryz.func146, Tryz.ntmps146
    go_wp2_with fail
    generalize w.alloc zeroTok = wa at *
    refine HAF.out.mono ?_
    rintro e w1 ⟨rfl, rfl⟩
    have HM3 := Lib.hid (HM.out.set (.int .i64 3) (.int .i64 (k : Int)) (.int .i64 0) (.string (bstr s)))
    obtain ⟨c0, c1, c2, c3, f0, f1, f2, f3⟩ := HM.out.tc
    go_wp2_with fail
    obtain ⟨q0, q1, q2, q3, _, _, _, _⟩ := HM3.out.tc
    unfold set4 at q0 q1 q2 q3
    refine bodyPost_ret (v := .tuple #[tokV ⟨3, k, 0, s⟩, .int .i64 ((k + s.length : Nat) : Int), .nilIface]) (by simp [results, Tryz.results146, go_sem, q0, q1, q2, q3, tokV]) rfl ?_
    exact ⟨rfl, HM3.out.b⟩
end Go.Proofs.YtaglmmcjhlehjaaGreatDoor

namespace Go.Proofs.YtaglmmcjhlehjaaGreatDoor
open Go.ChangeShapes Go.WideShapes Go.ChangeAt Go.RowKit
set_option linter.unusedVariables false
set_option linter.unusedSimpArgs false

theorem indexByte_neg : ∀ (l : Str) (c : UInt8), Lib.indexByte l c < 0 ↔ c ∉ l
  | [], c => by simp [Lib.indexByte]
  | b :: l, c => by
    have ih := indexByte_neg l c
    have hge := Lib.indexByte_ge l c
    unfold Lib.indexByte
    by_cases h : b = c
    · subst h; simp
    · rw [if_neg (by simpa using h)]
      split
      · rename_i h1
        have h1 : Lib.indexByte l c = -1 := by simpa using h1
        rw [h1] at ih
        have : c ∉ l := ih.1 (by omega)
        simp [this, show ¬ c = b from fun e => h e.symm]
      · rename_i h1
        have h1 : Lib.indexByte l c ≠ -1 := by simpa using h1
        have : ¬ c ∉ l := fun h2 => by have := ih.2 h2; omega
        simp only [List.mem_cons, not_or, Classical.not_not] at this ⊢
        constructor
        · intro h3; omega
        · intro h3; exact absurd this h3.2
theorem u8_back (c : UInt8) : ((c.toNat : Int).toNat).toUInt8 = c := by
  rw [Int.toNat_natCast]; exact UInt8.ofNat_toNat
theorem sign_index (c : UInt8) (b : Bool) (hb : signB c = b) (w : World) : Calls Tryz.prog 158 #[.string ⟨#[40, 41, 123, 125, 61, 46, 44, 124, 92, 43, 45, 42, 47, 60, 94, 35, 33, 59]⟩, .int .u8 (c.toNat : Int)] w fun e w' => ∃ i : Int, e = .returned (.int .i64 i) ∧ (b = true → ¬ i < 0) ∧ (b = false → i < 0) ∧ w = w' := by
  refine (Tryz.strings_IndexByte _ _ w).mono ?_
  rintro e w' ⟨rfl, rfl⟩
  have key : Lib.indexByte signsL c < 0 ↔ signB c = false := by
    rw [indexByte_neg]
    unfold signB
    simp
  rw [hb] at key
  refine ⟨_, rfl, ?_, ?_, rfl⟩
  · intro h
    rw [u8_back]
    show ¬ Lib.indexByte signsL c < 0
    rw [key, h]; simp
  · intro h
    rw [u8_back]
    exact key.2 h

set_option maxRecDepth 100000 in
set_option maxHeartbeats 1500000 in
theorem sign_any (A : Option Addr) (l : Str) (cp k : Nat) (w : World) (hr : Rd w 1 A l.length (u8s l)) (hk : k < l.length) (c : UInt8) (hck : l[k] = c) (hcap : l.length ≤ cp) (hm : l.length ≤ 1048576) :
    Calls Tryz.prog 153 #[.slice A l.length cp, .int .i64 (k : Int)] w fun e w' => OneRes (signR c (l.drop k)) k w e w' := by
  obtain ⟨b, o, rfl, hb, hc⟩ := hr.byte (k := k) hk
  have hcv : ∀ (m : Nat) w' c', k + m ≤ l.length → Below w.heap.size w w' → (convert 61 9 (.slice (some ⟨b, o + k, none⟩) m c')).run Tryz.prog w' = .ok (.string (bstr ((l.drop k).take m))) w' := fun m w' c' hm hb' => conv_part (hr.below hb') k m c' hm
  have HCV := Lib.hid hcv
  have HM := Lib.hid (mk_new w)
  have HL1 := Lib.hid (show k + 1 ≤ l.length by omega)
  have g0 := cell_alloc (o := zeroTok) (hc k hk)
  have HT1 := Lib.hid (show (l.drop k).take 1 = [c] by rw [List.drop_eq_getElem_cons hk, hck]; rfl)
  rw [hck] at g0
  have e0 : (0 : Int) ≤ (k : Int) := by omega
  have e1 : (k : Int) < (l.length : Int) := by omega
  have e3 : ¬ cp = k := by omega
  clear hc hr hcv
  have HCK := Lib.hid hck
  clear hck
  by_cases h2 : k + 1 < l.length
  · have h2i : (k : Int) + 1 < (l.length : Int) := by omega
    have ht : (l.drop k).take 2 = [l[k], l[k + 1]] := by
      rw [List.drop_eq_getElem_cons hk, List.drop_eq_getElem_cons h2]; rfl
    have cv2 := HCV.out 2 _ (cp - k) (by omega) HM.out.b
    obtain ⟨s2, hs2⟩ : ∃ s2, (l.drop k).take 2 = s2 := ⟨_, rfl⟩
    rw [hs2] at cv2
    have e4 : (k : Int) + 2 ≤ (cp : Int) := by omega
    clear ht
    by_cases hw : s2 ∈ twosL
    · have hres : signR c (l.drop k) = .ok ⟨6, 0, s2⟩ 2 := by unfold signR; rw [hs2, if_pos (show twoB s2 = true from decide_eq_true hw)]
      rw [hres]
      clear hres hs2
      simp only [twosL, List.mem_cons, List.not_mem_nil, or_false] at hw
      rcases hw with rfl | rfl | rfl
      · have g1 : ((bstr [45, 62]).toList == [45, 62]) = true := by rw [bstr_toList]; decide
        go_enter Tryz.func153, Tryz.ntmps153
        go_wp2_with fail
        refine bodyPost_ret (v := .tuple #[tokV ⟨6, k, 0, [45, 62]⟩, .int .i64 ((k + 2 : Nat) : Int), .nilIface]) (by simp [results, Tryz.results153, go_sem, tokV]) rfl ?_
        exact ⟨rfl, (Below.refl _ _).alloc (Nat.le_refl _) _⟩
      · have g1 : ((bstr [61, 61]).toList == [45, 62]) = false := by rw [bstr_toList]; decide
        have g2 : ((bstr [61, 61]).toList == [61, 61]) = true := by rw [bstr_toList]; decide
        go_enter Tryz.func153, Tryz.ntmps153
        go_wp2_with fail
        refine bodyPost_ret (v := .tuple #[tokV ⟨6, k, 0, [61, 61]⟩, .int .i64 ((k + 2 : Nat) : Int), .nilIface]) (by simp [results, Tryz.results153, go_sem, tokV]) rfl ?_
        exact ⟨rfl, (Below.refl _ _).alloc (Nat.le_refl _) _⟩
      · have g1 : ((bstr [58, 61]).toList == [45, 62]) = false := by rw [bstr_toList]; decide
        have g2 : ((bstr [58, 61]).toList == [61, 61]) = false := by rw [bstr_toList]; decide
        have g3 : ((bstr [58, 61]).toList == [58, 61]) = true := by rw [bstr_toList]; decide
        go_enter Tryz.func153, Tryz.ntmps153
        go_wp2_with fail
        refine bodyPost_ret (v := .tuple #[tokV ⟨6, k, 0, [58, 61]⟩, .int .i64 ((k + 2 : Nat) : Int), .nilIface]) (by simp [results, Tryz.results153, go_sem, tokV]) rfl ?_
        exact ⟨rfl, (Below.refl _ _).alloc (Nat.le_refl _) _⟩
    · have HT2 := Lib.hid (show twoB ((l.drop k).take 2) = false by rw [hs2]; exact decide_eq_false hw)
      have g : ∀ t, t ∈ twosL → ((bstr s2).toList == t) = false := fun t ht => by
        rw [bstr_toList, beq_eq_false_iff_ne]
        rintro rfl
        exact hw ht
      have g1 := g [45, 62] (by decide)
      have g2 := g [61, 61] (by decide)
      have g3 := g [58, 61] (by decide)
      clear g hw hs2
      cases hsg : signB c with
      | false =>
        have hres : signR c (l.drop k) = .bad 0 := by unfold signR; rw [if_neg (by rw [HT2.out]; simp), if_neg (by rw [hsg]; simp)]
        rw [hres]
        have HSG := Lib.hid hsg
        clear hsg hres
        go_enter Tryz.func153, Tryz.ntmps153
        go_wp2_with fail
        generalize w.alloc zeroTok = wa at *
        refine (sign_index c false HSG.out wa).mono ?_
        rintro e w1 ⟨i, rfl, _, hi, rfl⟩
        have hneg := hi rfl
        clear hi
        go_wp2_with fail
        refine (bad_any k wa).mono ?_
        rintro e w2 ⟨v, rfl, hv, hb2⟩
        have HV := Lib.hid hv
        have HM2 := Lib.hid (HM.out.below hb2)
        clear hv hb2
        obtain ⟨c0, c1, c2, c3, f0, f1, f2, f3⟩ := HM2.out.tc
        unfold tok0
        go_wp2_with fail
        have HM3 := Lib.hid (HM2.out.set (.int .i64 0) (.int .i64 0) (.int .i64 0) (.string ⟨#[]⟩))
        obtain ⟨q0, q1, q2, q3, _, _, _, _⟩ := HM3.out.tc
        unfold set4 at q0 q1 q2 q3
        refine bodyPost_ret (v := .tuple #[tok0, .int .i64 0, v]) (by simp [results, Tryz.results153, go_sem, q0, q1, q2, q3]; rfl) rfl ?_
        exact ⟨v, rfl, (HV.out.set4 HM.out.lt _ _ _ _).mono (Nat.le_of_lt HM.out.lt), HM3.out.b⟩
      | true =>
        have hres : signR c (l.drop k) = .ok ⟨6, 0, [c]⟩ 1 := by unfold signR; rw [if_neg (by rw [HT2.out]; simp), if_pos hsg]
        rw [hres]
        have HSG := Lib.hid hsg
        clear hsg hres
        have cv1 := HCV.out 1 _ (cp - k) HL1.out HM.out.b
        rw [HT1.out] at cv1
        go_enter Tryz.func153, Tryz.ntmps153
        go_wp2_with fail
        generalize w.alloc zeroTok = wa at *
        refine (sign_index c true HSG.out wa).mono ?_
        rintro e w1 ⟨i, rfl, hi, _, rfl⟩
        have hneg := hi rfl
        clear hi
        have HM3 := Lib.hid (HM.out.set (.int .i64 6) (.int .i64 (k : Int)) (.int .i64 0) (.string (bstr [c])))
        obtain ⟨c0, c1, c2, c3, f0, f1, f2, f3⟩ := HM.out.tc
        go_wp2_with fail
        obtain ⟨q0, q1, q2, q3, _, _, _, _⟩ := HM3.out.tc
        unfold set4 at q0 q1 q2 q3
        refine bodyPost_ret (v := .tuple #[tokV ⟨6, k, 0, [c]⟩, .int .i64 ((k + 1 : Nat) : Int), .nilIface]) (by simp [results, Tryz.results153, go_sem, q0, q1, q2, q3, tokV]) rfl ?_
        exact ⟨rfl, HM3.out.b⟩
  · have h2i : ¬ (k : Int) + 1 < (l.length : Int) := by omega
    have HT2 := Lib.hid (show twoB ((l.drop k).take 2) = false by
      have e : (l.drop k).take 2 = [l[k]] := by rw [List.drop_eq_getElem_cons hk, List.drop_of_length_le (by omega)]; rfl
      rw [e]; unfold twoB; rw [decide_eq_false_iff_not]; simp [twosL])
    cases hsg : signB c with
    | false =>
      have hres : signR c (l.drop k) = .bad 0 := by unfold signR; rw [if_neg (by rw [HT2.out]; simp), if_neg (by rw [hsg]; simp)]
      rw [hres]
      have HSG := Lib.hid hsg
      clear hsg hres
      go_enter Tryz.func153, Tryz.ntmps153
      go_wp2_with fail
      generalize w.alloc zeroTok = wa at *
      refine (sign_index c false HSG.out wa).mono ?_
      rintro e w1 ⟨i, rfl, _, hi, rfl⟩
      have hneg := hi rfl
      clear hi
      go_wp2_with fail
      refine (bad_any k wa).mono ?_
      rintro e w2 ⟨v, rfl, hv, hb2⟩
      have HV := Lib.hid hv
      have HM2 := Lib.hid (HM.out.below hb2)
      clear hv hb2
      obtain ⟨c0, c1, c2, c3, f0, f1, f2, f3⟩ := HM2.out.tc
      unfold tok0
      go_wp2_with fail
      have HM3 := Lib.hid (HM2.out.set (.int .i64 0) (.int .i64 0) (.int .i64 0) (.string ⟨#[]⟩))
      obtain ⟨q0, q1, q2, q3, _, _, _, _⟩ := HM3.out.tc
      unfold set4 at q0 q1 q2 q3
      refine bodyPost_ret (v := .tuple #[tok0, .int .i64 0, v]) (by simp [results, Tryz.results153, go_sem, q0, q1, q2, q3]; rfl) rfl ?_
      exact ⟨v, rfl, (HV.out.set4 HM.out.lt _ _ _ _).mono (Nat.le_of_lt HM.out.lt), HM3.out.b⟩
    | true =>
      have hres : signR c (l.drop k) = .ok ⟨6, 0, [c]⟩ 1 := by unfold signR; rw [if_neg (by rw [HT2.out]; simp), if_pos hsg]
      rw [hres]
      have HSG := Lib.hid hsg
      clear hsg hres
      have cv1 := HCV.out 1 _ (cp - k) HL1.out HM.out.b
      rw [HT1.out] at cv1
      go_enter Tryz.func153, Tryz.ntmps153
      go_wp2_with fail
      generalize w.alloc zeroTok = wa at *
      refine (sign_index c true HSG.out wa).mono ?_
      rintro e w1 ⟨i, rfl, hi, _, rfl⟩
      have hneg := hi rfl
      clear hi
      have HM3 := Lib.hid (HM.out.set (.int .i64 6) (.int .i64 (k : Int)) (.int .i64 0) (.string (bstr [c])))
      obtain ⟨c0, c1, c2, c3, f0, f1, f2, f3⟩ := HM.out.tc
      go_wp2_with fail
      obtain ⟨q0, q1, q2, q3, _, _, _, _⟩ := HM3.out.tc
      unfold set4 at q0 q1 q2 q3
      refine bodyPost_ret (v := .tuple #[tokV ⟨6, k, 0, [c]⟩, .int .i64 ((k + 1 : Nat) : Int), .nilIface]) (by simp [results, Tryz.results153, go_sem, q0, q1, q2, q3, tokV]) rfl ?_
      exact ⟨rfl, HM3.out.b⟩
end Go.Proofs.YtaglmmcjhlehjaaGreatDoor

namespace Go.Proofs.YtaglmmcjhlehjaaGreatDoor
open Go.ChangeShapes Go.WideShapes Go.ChangeAt Go.RowKit
set_option linter.unusedVariables false
set_option linter.unusedSimpArgs false

theorem parseM_digits (M : Nat) : ∀ (ds : Str) (acc : Nat), (∀ c ∈ ds, digB c = true) → Lib.parseUintM M acc ds = .range ∨ ∃ u, Lib.parseUintM M acc ds = .ok u
  | [], acc, h => .inr ⟨_, by rw [Lib.parseUintM]⟩
  | c :: r, acc, h => by
    have hc := of_decide_eq_true (h c (by simp))
    unfold Lib.parseUintM
    rw [if_pos hc]
    split
    · exact .inl rfl
    · split
      · exact .inl rfl
      · exact parseM_digits M r _ (fun d hd => h d (by simp [hd]))
theorem parse_digits (ds : Str) (h : ∀ c ∈ ds, digB c = true) (h0 : ds ≠ []) : (∃ v, Lib.parseIntB 64 ds = .ok v) ∨ Lib.parseIntB 64 ds = .range := by
  cases ds with
  | nil => exact absurd rfl h0
  | cons c r =>
    have hc := of_decide_eq_true (h c (by simp))
    have hn : ¬ (c.toNat = 43 ∨ c.toNat = 45) := by omega
    have hs := parseM_digits (2 ^ 64 - 1) (c :: r) 0 h
    unfold Lib.parseIntB
    simp only
    rw [if_neg hn]
    unfold Lib.parseUintB
    rw [if_neg (by simp)]
    rcases hs with hp | ⟨u, hp⟩
    · rw [hp]; exact .inr rfl
    · rw [hp]
      simp only
      split
      · exact .inr rfl
      · split
        · exact .inr rfl
        · exact .inl ⟨_, rfl⟩
theorem tw_all {p : UInt8 → Bool} : ∀ (l : Str), ∀ c ∈ l.takeWhile p, p c = true
  | [], c, h => by cases h
  | d :: r, c, h => by
    cases hd : p d with
    | false => simp [List.takeWhile_cons, hd] at h
    | true =>
      simp only [List.takeWhile_cons, hd, if_true] at h
      rcases List.mem_cons.1 h with rfl | h
      · exact hd
      · exact tw_all r c h

/-- What the package-level variables hold. -/
structure Lay (w : World) : Prop where
  er : ∃ te pe, w.cell? ⟨5, 0, none⟩ = some (.iface te pe)
theorem Lay.below {w w' : World} (h : Lay w) (hb : Below w.heap.size w w') : Lay w' := by
  obtain ⟨⟨te, pe, h1⟩⟩ := h
  exact ⟨⟨te, pe, cell_below hb h1⟩⟩

theorem parse_ok (ds : Str) (hl : ds.length ≤ 1048576) (v : Int) (h : Lib.parseIntB 64 ds = .ok v) (w : World) :
    Calls Tryz.prog 156 #[.string (bstr ds), .int .i64 10, .int .i64 64] w fun e w' => e = .returned (.tuple #[.int .i64 v, .nilIface]) ∧ Below w.heap.size w w' := by
  refine (Tryz.strconv_ParseInt_10_at64_ok (bstr ds) (by rw [bstr_size]; omega) v (by rw [bstr_data]; exact h) w).mono ?_
  rintro e w' ⟨rfl, hw⟩
  refine ⟨rfl, ?_⟩
  rcases hw with rfl | ⟨t, rfl⟩
  · exact Below.refl _ _
  · exact Joins.below_bytesWorld _ w _ t (Nat.le_refl _)
theorem parse_range (ds : Str) (hl : ds.length ≤ 1048576) (h : Lib.parseIntB 64 ds = .range) (w : World) (hL : Lay w) :
    Calls Tryz.prog 156 #[.string (bstr ds), .int .i64 10, .int .i64 64] w fun e w' => ∃ x t p, e = .returned (.tuple #[.int .i64 x, .iface t (.pointer (some p))]) ∧ Below w.heap.size w w' := by
  obtain ⟨te, pe, hv⟩ := hL.er
  refine (Tryz.strconv_ParseInt_10_at64_range (bstr ds) (by rw [bstr_size]; omega) (by rw [bstr_data]; exact h) _ w hv (.inr ⟨te, pe, rfl⟩)).mono ?_
  rintro e w' ⟨N, rfl, _, _, hb⟩
  exact ⟨_, _, _, rfl, hb⟩

set_option maxRecDepth 100000 in
set_option maxHeartbeats 1500000 in
theorem number_any (A : Option Addr) (l : Str) (cp k : Nat) (w : World) (hL : Lay w) (hr : Rd w 1 A l.length (u8s l)) (hk : k < l.length) (c : UInt8) (hck : l[k] = c) (hp : digB c = true) (hcap : l.length ≤ cp) (hm : l.length ≤ 1048576) :
    Calls Tryz.prog 151 #[.slice A l.length cp, .int .i64 (k : Int)] w fun e w' => OneRes (numR ((l.drop k).takeWhile digB)) k w e w' := by
  obtain ⟨b, o, rfl, hb, hcl⟩ := hr.byte (k := k) hk
  obtain ⟨s, hs⟩ : ∃ s, (l.drop k).takeWhile digB = s := ⟨_, rfl⟩
  have hd : l.drop k = c :: l.drop (k + 1) := by rw [List.drop_eq_getElem_cons hk, hck]
  have hpos : 0 < s.length := by rw [← hs, hd]; exact tw_pos hp
  have hhead : s.head? = some c := by rw [← hs, hd, List.takeWhile_cons, hp]; rfl
  have hall : ∀ d ∈ s, digB d = true := by rw [← hs]; exact tw_all _
  have he2 := endB_le digB l k (by omega)
  have hks : endB digB l k = k + s.length := by unfold endB; rw [hs]
  have htk : (l.drop k).take s.length = s := by
    have := tw_take (p := digB) (l.drop k)
    rwa [hs] at this
  have hcv : ∀ w' c', Below w.heap.size w w' → (convert 61 9 (.slice (some ⟨b, o + k, none⟩) s.length c')).run Tryz.prog w' = .ok (.string (bstr s)) w' := fun w' c' hb' => by
    have := conv_part (hr.below hb') k s.length c' (by omega)
    rwa [htk] at this
  have HAF := Lib.hid (afterDigit_any (some ⟨b, o, none⟩) l cp k (w.alloc zeroTok) (hr.alloc _) (by omega) hm)
  have HCV := Lib.hid hcv
  have HM := Lib.hid (mk_new w)
  have HLY := Lib.hid (hL.below HM.out.b)
  have HG := Lib.hid (show ∀ w', Below w.heap.size w w' → w'.cell? ⟨b, o + k, none⟩ = some (.int .u8 (c.toNat : Int)) from fun w' hb' => by have := cell_below hb' (hcl k hk); rwa [hck] at this)
  rw [hs]
  have hle : k + s.length ≤ l.length := by omega
  rw [hks] at HAF
  have hne : s ≠ [] := fun e => by rw [e] at hpos; simp at hpos
  have HP := Lib.hid (parse_digits s hall hne)
  have HHD := Lib.hid hhead
  have cv := HCV.out _ (cp - k) HM.out.b
  have e1 : (k : Int) ≤ ((k + s.length : Nat) : Int) := by omega
  have e2 : ((k + s.length : Nat) : Int) ≤ (l.length : Int) := by omega
  have e3 : ¬ cp = k := by omega
  have e4 : (0 : Int) ≤ (k : Int) := by omega
  have e5 : (k : Int) < (l.length : Int) := by omega
  have HSL := Lib.hid (And.intro hpos hle)
  clear hs he2 hks htk hcv hr hp hcl hd hhead hall hne hL hck
  rcases HP.out with ⟨v, hv⟩ | hrg
  · have HPK := Lib.hid (parse_ok s (by omega) v hv)
    by_cases h48 : c.toNat = 48 ∧ 1 < s.length
    · have hres : numR s = .bad 0 := by
        unfold numR; rw [hv]; simp only
        rw [if_pos ⟨by rw [HHD.out]; congr 1; exact nat_u8 h48.1, h48.2⟩]
      rw [hres]
      have z0 : ((c.toNat : Int) == 48) = true := by rw [beq_iff_eq]; omega
      have z1 : (1 : Int) < ((k + s.length : Nat) : Int) - (k : Int) := by omega
      clear hres hv h48 hpos hle
      go_enter Tryz.func151, Tryz.ntmps151
      go_wp2_with fail
      generalize w.alloc zeroTok = wa at *
      refine HAF.out.mono ?_
      rintro e w1 ⟨rfl, rfl⟩
      go_wp2_with fail
      refine (HPK.out wa).mono ?_
      rintro e wp ⟨rfl, hbp⟩
      have HMP := Lib.hid (HM.out.below hbp)
      have g0 := HG.out _ HMP.out.b
      clear hbp
      go_wp2_with fail
      clear g0
      refine (bad_any k wp).mono ?_
      rintro e w2 ⟨v, rfl, hv, hb2⟩
      have HV := Lib.hid hv
      have HM2 := Lib.hid (HMP.out.below hb2)
      clear hv hb2
      obtain ⟨c0, c1, c2, c3, f0, f1, f2, f3⟩ := HM2.out.tc
      unfold tok0
      go_wp2_with fail
      have HM3 := Lib.hid (HM2.out.set (.int .i64 0) (.int .i64 0) (.int .i64 0) (.string ⟨#[]⟩))
      obtain ⟨q0, q1, q2, q3, _, _, _, _⟩ := HM3.out.tc
      unfold set4 at q0 q1 q2 q3
      refine bodyPost_ret (v := .tuple #[tok0, .int .i64 0, v]) (by simp [results, Tryz.results151, go_sem, q0, q1, q2, q3]; rfl) rfl ?_
      exact ⟨v, rfl, (HV.out.set4 HMP.out.lt _ _ _ _).mono (Nat.le_of_lt HMP.out.lt), HM3.out.b⟩
    · have hres : numR s = .ok ⟨4, v, []⟩ s.length := by
        unfold numR; rw [hv]; simp only
        rw [if_neg (fun h => h48 ⟨by have := HHD.out; rw [h.1] at this; injection this with this; rw [← this]; rfl, h.2⟩)]
      rw [hres]
      have HPQ := Lib.hid h48
      clear hres hv h48 hpos hle
      by_cases h0 : c.toNat = 48
      · have z0 : ((c.toNat : Int) == 48) = true := by rw [beq_iff_eq]; omega
        have z1 : ¬ (1 : Int) < ((k + s.length : Nat) : Int) - (k : Int) := by have := HPQ.out; omega
        clear h0
        go_enter Tryz.func151, Tryz.ntmps151
        go_wp2_with fail
        generalize w.alloc zeroTok = wa at *
        refine HAF.out.mono ?_
        rintro e w1 ⟨rfl, rfl⟩
        go_wp2_with fail
        refine (HPK.out wa).mono ?_
        rintro e wp ⟨rfl, hbp⟩
        have HMP := Lib.hid (HM.out.below hbp)
        have g0 := HG.out _ HMP.out.b
        clear hbp
        obtain ⟨c0, c1, c2, c3, f0, f1, f2, f3⟩ := HMP.out.tc
        have HM3 := Lib.hid (HMP.out.set (.int .i64 4) (.int .i64 (k : Int)) (.int .i64 v) (.string ⟨#[]⟩))
        go_wp2_with fail
        obtain ⟨q0, q1, q2, q3, _, _, _, _⟩ := HM3.out.tc
        unfold set4 at q0 q1 q2 q3
        refine bodyPost_ret (v := .tuple #[tokV ⟨4, k, v, []⟩, .int .i64 ((k + s.length : Nat) : Int), .nilIface]) (by simp [results, Tryz.results151, go_sem, q0, q1, q2, q3, tokV]; try rfl) rfl ?_
        exact ⟨rfl, HM3.out.b⟩
      · have z0 : ((c.toNat : Int) == 48) = false := by rw [beq_eq_false_iff_ne]; omega
        clear h0
        go_enter Tryz.func151, Tryz.ntmps151
        go_wp2_with fail
        generalize w.alloc zeroTok = wa at *
        refine HAF.out.mono ?_
        rintro e w1 ⟨rfl, rfl⟩
        go_wp2_with fail
        refine (HPK.out wa).mono ?_
        rintro e wp ⟨rfl, hbp⟩
        have HMP := Lib.hid (HM.out.below hbp)
        have g0 := HG.out _ HMP.out.b
        clear hbp
        obtain ⟨c0, c1, c2, c3, f0, f1, f2, f3⟩ := HMP.out.tc
        have HM3 := Lib.hid (HMP.out.set (.int .i64 4) (.int .i64 (k : Int)) (.int .i64 v) (.string ⟨#[]⟩))
        go_wp2_with fail
        obtain ⟨q0, q1, q2, q3, _, _, _, _⟩ := HM3.out.tc
        unfold set4 at q0 q1 q2 q3
        refine bodyPost_ret (v := .tuple #[tokV ⟨4, k, v, []⟩, .int .i64 ((k + s.length : Nat) : Int), .nilIface]) (by simp [results, Tryz.results151, go_sem, q0, q1, q2, q3, tokV]; try rfl) rfl ?_
        exact ⟨rfl, HM3.out.b⟩
  · have HPR := Lib.hid (parse_range s (by omega) hrg)
    have hres : numR s = .bad 0 := by unfold numR; rw [hrg]
    rw [hres]
    clear hres hrg hpos hle
    go_enter Tryz.func151, Tryz.ntmps151
    go_wp2_with fail
    generalize w.alloc zeroTok = wa at *
    refine HAF.out.mono ?_
    rintro e w1 ⟨rfl, rfl⟩
    go_wp2_with fail
    refine (HPR.out wa HLY.out).mono ?_
    rintro e wp ⟨x, t, p, rfl, hbp⟩
    have HMP := Lib.hid (HM.out.below hbp)
    clear hbp
    go_wp2_with fail
    refine (bad_any k wp).mono ?_
    rintro e w2 ⟨v, rfl, hv, hb2⟩
    have HV := Lib.hid hv
    have HM2 := Lib.hid (HMP.out.below hb2)
    clear hv hb2
    obtain ⟨c0, c1, c2, c3, f0, f1, f2, f3⟩ := HM2.out.tc
    unfold tok0
    go_wp2_with fail
    have HM3 := Lib.hid (HM2.out.set (.int .i64 0) (.int .i64 0) (.int .i64 0) (.string ⟨#[]⟩))
    obtain ⟨q0, q1, q2, q3, _, _, _, _⟩ := HM3.out.tc
    unfold set4 at q0 q1 q2 q3
    refine bodyPost_ret (v := .tuple #[tok0, .int .i64 0, v]) (by simp [results, Tryz.results151, go_sem, q0, q1, q2, q3]; rfl) rfl ?_
    exact ⟨v, rfl, (HV.out.set4 HMP.out.lt _ _ _ _).mono (Nat.le_of_lt HMP.out.lt), HM3.out.b⟩
end Go.Proofs.YtaglmmcjhlehjaaGreatDoor
