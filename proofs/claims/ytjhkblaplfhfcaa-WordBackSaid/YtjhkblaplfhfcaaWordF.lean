/-
  The example at the head of each statement of this layer holds.
-/
import Derived.Test.YtjhkblaplfhfcaaWordE
import Derived.Laws.StructEq
import Derived.Lib.SmallJoins
namespace Go.Proofs.Ytjhkblaplfhfcaa
open Go.ChangeShapes Go.WideShapes Go.ChangeAt Go.RowKit
set_option linter.unusedVariables false

theorem own_form {w : World} {base : Nat} {e : TypeId} {size n : Nat} {v : Value} {xs : List Value} (h : w.ownsRow base e size v n xs) (h0 : 0 < n) :
    ∃ g c, v = .slice (some ⟨g, 0, none⟩) n c ∧ base ≤ g ∧ g < w.heap.size ∧ n ≤ c ∧ (∀ j, j < n * size → w.cell? ⟨g, j, none⟩ = xs[j]?) ∧ (∀ j, w.frozen? ⟨g, j, none⟩ = false) := by
  rcases h.2 with ⟨rfl, rfl⟩ | ⟨g, cap, cur, rfl, hb, hg, h1, h2, _⟩
  · omega
  · exact ⟨g, cap, rfl, hb, (Array.getElem?_eq_some_iff.1 hg).1, h1, fun j hj => h.cellAt j hj, fun j => h.frozenAt j⟩

theorem up_any (w : World) : Calls Try.prog 6 #[] w fun e w' => e = .returned (.bool true) ∧ Below w.heap.size w w' := by
  have kc := fun (w : World) (C : Array Value) (n c g : Nat) (hg : g = w.heap.size) => Joins.run_convert_bytes_const_at (P := Try.prog) w 42 5 C n c g hg Try.underlying42 Try.underlying5
  go_enter Try.func6, Try.ntmps6
  go_wp2_with fail
  refine (head_yes 3 2 (by unfold headOk; omega) _).mono ?_
  rintro e w1 ⟨rfl, hb1⟩
  go_wp2_with fail
  refine (head_no 16 0 (by unfold headOk; omega) _).mono ?_
  rintro e w2 ⟨rfl, hb2⟩
  go_wp2_with fail
  refine (pack_any _ [97] _ _ rfl (Nat.le_refl _) _ (by have h := Rd.lit (w2.alloc (Obj.cells #[Value.bool false, Value.int IntKind.i64 0] 23)) #[.int .u8 97] 5 (size := 1) (n := 1) rfl (fr := (1, 2)); simp only [World.size_alloc] at h; exact h) (by simp)).mono ?_
  rintro e w3 ⟨v, rfl, hown, hb3⟩
  have e1 : icells (packL [97]) = [.bool false, .int .i64 1, .bool false, .int .i64 97] := by simp [icells, packL, packTo, packN, chunk, le8, wcells, wrap64, List.range_succ]
  have e2 : wordsN [97] = 2 := rfl
  rw [e1, e2] at hown
  obtain ⟨g, c, rfl, _, hg, hc, hcell, _⟩ := own_form hown (by omega)
  have hc3 := hcell 3 (by omega)
  simp at hc3
  clear hcell hown e1 e2
  have hc35 : w3.cell? ⟨w1.heap.size, 1, none⟩ = some (.int .i64 35) := cell_below hb3 (cell_alloc (cell_alloc (cell_below hb2 (cell_new w1 _ _ 1 rfl))))
  go_wp2_with fail
  go_returns
  exact ⟨rfl, below_then hb1 (below_then (Below.alloc (Below.refl _ _) (Nat.le_refl _) _) (below_then hb2 (below_then (((Below.refl _ _).alloc (Nat.le_refl _) _).alloc (by simp) _) hb3)))⟩
end Go.Proofs.Ytjhkblaplfhfcaa
