/-
  Pack: the words of bytes, by the document's answer.
-/
import Derived.Test.YtjhkblaplfhfcaaWordD
namespace Go.Proofs.Ytjhkblaplfhfcaa
open Go.ChangeShapes Go.WideShapes Go.ChangeAt Go.RowKit
set_option linter.unusedVariables false

def vlen : Value → Nat | .slice _ n _ => n | _ => 0

theorem refPack_any (A : Option Addr) (l : List UInt8) (n c : Nat) (hn : n = l.length) (hc : n ≤ c) (w : World) (hr : Rd w 1 A n (u8s l)) (hm : l.length ≤ 1048576) :
    Calls Try.prog 20 #[.slice A n c] w fun e w' => ∃ v, e = .returned v ∧ w'.ownsRow w.heap.size 29 2 v (wordsN l) (icells (packL l)) ∧ Below w.heap.size w w' := by
  have HN := Lib.hid hn
  clear hn
  go_enter Try.func20, Try.ntmps20
  go_wp2_with fail
  have hown0 : (w.alloc (Obj.cells #[.bool false, .int .i64 n] 29)).ownsRow w.heap.size 29 2 (.slice (some ⟨w.heap.size, 0, none⟩) 1 1) 1 (icells (packTo l 0)) := by
    obtain rfl := HN.out
    exact World.ownsRow_lit w #[.bool false, .int .i64 l.length] 1 (Nat.le_refl _) (by simp [maxLen]) rfl
  have hb0 : Below w.heap.size w (w.alloc (Obj.cells #[.bool false, .int .i64 n] 29)) := (Below.refl _ _).alloc (Nat.le_refl _) _
  generalize (w.alloc (Obj.cells #[.bool false, .int .i64 n] 29)) = w1 at *
  go_loopw [0, 3] (fun b v wr => ∃ (k : Nat) (A' : Option Addr) (n' c' : Nat), b = .slice A' n' c' ∧ n' + 8 * k = l.length ∧ n' ≤ c' ∧ Rd w 1 A' n' (u8s (l.drop (8 * k))) ∧ wr.ownsRow w.heap.size 29 2 v (k + 1) (icells (packTo l k)) ∧ Below w.heap.size w wr) (fun b _ _ => vlen b)
  case atStart => exact ⟨0, A, n, c, rfl, by have := HN.out; omega, hc, hr, hown0, hb0⟩
  case round =>
    clear hown0 hb0 hr hc HN
    obtain ⟨k, A', n', c', rfl, hn, hc, hr, hown, hb⟩ := hrel
    have hpk : packN l ≤ 1048576 := by unfold packN; omega
    by_cases h0 : 0 < n'
    · have hk1 : k + 1 ≤ packN l := by unfold packN; omega
      have HN := Lib.hid hn
      clear hn
      have hlen : (l.drop (8 * k)).length ≤ 1048576 := by simp; omega
      go_wp2_with fail
      refine (eight_any _ (l.drop (8 * k)) _ _ (by have := HN.out; simp; omega) _ (hr.below hb) hlen).mono ?_
      rintro e w5 ⟨rfl, hb5⟩
      have hown5 := own_below hown hb5
      by_cases h8 : n' < 8
      · go_wp2_with (at_builtin; refine wpList_app elRef _ rfl _ _ rfl w.heap.size u3 (k + 1) _ rfl (hown5.alloc _) (some ⟨w5.heap.size, 0, none⟩) 1 1 _ rfl (Rd.lit w5 _ _ rfl) (icells_one [chunk l k]) (by omega) (by have h1 := hb.size; have h2 := hb5.size; simp; omega) ?_; intro v' w6 hown6 hb6 _ _)
        go_returns
        have e : k + 1 = packN l := by have := HN.out; unfold packN; omega
        refine ⟨_, rfl, ?_, ((hb.trans (hb5.mono hb.size)).alloc (by have h1 := hb.size; have h2 := hb5.size; omega) _).trans hb6⟩
        rw [wordsN, packL, ← e, packTo_succ, icells_append, Nat.add_comm 1]
        exact hown6
      · go_wp2_with (at_builtin; refine wpList_app elRef _ rfl _ _ rfl w.heap.size u3 (k + 1) _ rfl (hown5.alloc _) (some ⟨w5.heap.size, 0, none⟩) 1 1 _ rfl (Rd.lit w5 _ _ rfl) (icells_one [chunk l k]) (by omega) (by have h1 := hb.size; have h2 := hb5.size; simp; omega) ?_; intro v' w6 hown6 hb6 _ _)
        go_roundw
        case rel => exact ⟨k + 1, _, _, _, rfl, by have := HN.out; omega, by omega, by
          have h1 := hr.from_ (lo := 8) (c := c') (k := 8) (by omega) hc rfl
          rw [show ∀ x : List UInt8, (u8s x).drop (8 * 1) = u8s (x.drop 8) from fun x => by simp [u8s, List.map_drop], List.drop_drop] at h1
          exact h1, by rw [packTo_succ, icells_append]; exact hown6, ((hb.trans (hb5.mono hb.size)).alloc (by have h1 := hb.size; have h2 := hb5.size; omega) _).trans hb6⟩
        case measure => simp [vlen] <;> omega
    · go_wp2_with fail
      go_returns
      obtain rfl : k = packN l := by unfold packN at *; omega
      exact ⟨_, rfl, by rw [wordsN, Nat.add_comm]; exact hown, hb⟩
end Go.Proofs.Ytjhkblaplfhfcaa
