/-
  Pack: the words of bytes, by the code and by the document's answer.
-/
import Derived.Test.YtjhkblaplfhfcaaWordC
namespace Go.Proofs.Ytjhkblaplfhfcaa
open Go.ChangeShapes Go.WideShapes Go.ChangeAt Go.RowKit
set_option linter.unusedVariables false

theorem elWord : ElemTy Try.prog 43 23 (.agg #[.bool false, .int .i64 0]) 2 16 :=
  ⟨Try.underlying43, by kernel_rfl, rfl, by omega, by omega⟩
theorem elRef : ElemTy Try.prog 48 29 (.agg #[.bool false, .int .i64 0]) 2 16 :=
  ⟨Try.underlying48, by kernel_rfl, rfl, by omega, by omega⟩

def wordsN (l : List UInt8) : Nat := 1 + packN l

theorem wordsOf_any (n : Int) (h0 : 0 ≤ n) (h1 : n ≤ 1073741824) (w : World) : Calls Try.prog 23 #[.int .i64 n] w fun e w' => e = .returned (.int .i64 (1 + (n + 7) / 8)) ∧ w = w' := by
  go_enter Try.func23, Try.ntmps23
  go_wp2
  go_returns
  exact ⟨ret_eq (by rw [show n + 7 = n + 8 - 1 from by omega]; rfl), rfl⟩

theorem pack_any (A : Option Addr) (l : List UInt8) (n c : Nat) (hn : n = l.length) (hc : n ≤ c) (w : World) (hr : Rd w 1 A n (u8s l)) (hm : l.length ≤ 1048576) :
    Calls Try.prog 19 #[.slice A n c] w fun e w' => ∃ v, e = .returned v ∧ w'.ownsRow w.heap.size 23 2 v (wordsN l) (icells (packL l)) ∧ Below w.heap.size w w' := by
  subst hn
  go_enter Try.func19, Try.ntmps19
  go_wp2_with (first
    | (go_at_call 23; refine (wordsOf_any _ (by omega) (by omega) _).mono ?_; rintro e w' ⟨rfl, rfl⟩; rw [show (1 + ((l.length : Int) + 7) / 8) = (wordsN l : Int) from by unfold wordsN packN; omega])
    | (at_make; refine wpList_mk elWord _ rfl _ _ rfl w.heap.size .i64 .i64 1 _ 1 (wordsN l) rfl rfl rfl rfl (by unfold wordsN; omega) (by unfold wordsN packN; omega) (Nat.le_refl _) ?_; intro w1 hown hb1 hs1)
    | (go_at_call 13; refine (int_any _ _).mono ?_; rintro e w2 ⟨rfl, hb2⟩
       have hown2 := own_below hown hb2
       have hc0 : w2.cell? ⟨w.heap.size, 0, none⟩ = some (.bool false) := by rw [hown2.cellAt 0 (by omega)]; rfl
       have hc1 : w2.cell? ⟨w.heap.size, 1, none⟩ = some (.int .i64 0) := by rw [hown2.cellAt 1 (by omega)]; rfl
       have hf0 := hown2.frozenAt 0
       have hf1 := hown2.frozenAt 1))
  have h3 := hown2.stored 0 (.bool false)
  have h4 := h3.1.stored 1 (.int .i64 l.length)
  have hb4 : Below w.heap.size w ((w2.setCell ⟨w.heap.size, 0, none⟩ (.bool false)).setCell ⟨w.heap.size, 1, none⟩ (.int .i64 l.length)) := ((below_then hb1 hb2).setCell (Nat.le_refl _) _).setCell (Nat.le_refl _) _
  have hown4 := h4.1
  clear h3 h4 hown2 hown hc0 hc1 hf0 hf1 hs1
  generalize ((w2.setCell ⟨w.heap.size, 0, none⟩ (.bool false)).setCell ⟨w.heap.size, 1, none⟩ (.int .i64 l.length)) = w4 at *
  clear hb1 hb2
  go_loopw [3, 4] (fun v i wr => ∃ k : Nat, k ≤ packN l ∧ i = .int .i64 (8 * k : Nat) ∧ wr.ownsRow w.heap.size 23 2 v (k + 1) (icells (packTo l k)) ∧ Below w.heap.size w wr) (fun _ i _ => l.length + 8 - (intOf i).toNat)
  case atStart => exact ⟨0, Nat.zero_le _, rfl, hown4, hb4⟩
  case round =>
    clear hown4 hb4
    obtain ⟨k, hk, rfl, hown, hb⟩ := hrel
    by_cases hlt : 8 * k < l.length
    · have hl8 : ((l.drop (8 * k)).take 8).length ≤ 8 := List.length_take_le _ _
      have hpk : packN l ≤ 1048576 := by unfold packN; omega
      have hk1 : k + 1 ≤ packN l := by unfold packN; omega
      go_wp2_with fail
      all_goals
        refine (packed_any _ ((l.drop (8 * k)).take 8) _ _ (by simp; omega) _ (by
          have h := (hr.below hb).cut (lo := 8 * k) (hi := min l.length (8 * k + 8)) (k := 8 * k) (by omega) (by omega) (by omega)
          rw [u8s_cut] at h
          have e : (l.drop (8 * k)).take (min l.length (8 * k + 8) - 8 * k) = (l.drop (8 * k)).take 8 := by
            apply take_eq; rw [List.length_drop]; omega
          rw [e] at h
          first | (rw [show (8 * (k : Int) + 8).toNat - 8 * k = min l.length (8 * k + 8) - 8 * k from by omega]; exact h) | (rw [show l.length - 8 * k = min l.length (8 * k + 8) - 8 * k from by omega]; exact h)) hl8).mono ?_
        rintro e w5 ⟨rfl, hb5⟩
        have hown5 := own_below hown hb5
        go_wp2_with (at_builtin; refine wpList_app elWord _ rfl _ _ rfl w.heap.size u3 (k + 1) _ rfl (hown5.alloc _) (some ⟨w5.heap.size, 0, none⟩) 1 1 _ rfl (Rd.lit w5 _ _ rfl) (icells_one [chunk l k]) (by omega) (by have h1 := hb.size; have h2 := hb5.size; simp; omega) ?_; intro v' w6 hown6 hb6 _ _)
        go_roundw
        case rel => exact ⟨k + 1, hk1, by congr 1 <;> omega, by rw [packTo_succ, icells_append]; exact hown6, ((hb.trans (hb5.mono hb.size)).alloc (by have h1 := hb.size; have h2 := hb5.size; omega) _).trans hb6⟩
        case measure => simp [intOf] <;> omega
    · go_wp2_with fail
      go_returns
      obtain rfl : k = packN l := by unfold packN at hk ⊢; omega
      exact ⟨_, rfl, by rw [wordsN, Nat.add_comm]; exact hown, hb⟩
end Go.Proofs.Ytjhkblaplfhfcaa
