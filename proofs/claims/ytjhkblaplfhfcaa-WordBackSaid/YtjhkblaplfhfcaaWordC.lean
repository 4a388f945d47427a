/-
  Bytes packed into one word, by the code and by the document's answer.
-/
import Derived.Test.YtjhkblaplfhfcaaPackMath
import Derived.Test.YtjhkblaplfhfcaaWordB
namespace Go.Proofs.Ytjhkblaplfhfcaa
open Go.ChangeShapes Go.WideShapes Go.ChangeAt Go.RowKit
set_option linter.unusedVariables false

theorem packed_any (A : Option Addr) (l : List UInt8) (n c : Nat) (hn : n = l.length) (w : World) (hr : Rd w 1 A n (u8s l)) (hl : l.length ≤ 8) :
    Calls Try.prog 24 #[.slice A n c] w fun e w' => e = .returned (.agg #[.bool false, .int .i64 (wrap64 (le8 l))]) ∧ Below w.heap.size w w' := by
  subst hn
  go_enter Try.func24, Try.ntmps24
  go_wp2
  go_loop [3, 8] (fun n i => ∃ k : Nat, k ≤ l.length ∧ i = .int .i64 k ∧ n = .int .u64 (le8 (l.take k))) (fun _ i => l.length - (intOf i).toNat)
  case atStart => exact ⟨0, Nat.zero_le _, rfl, rfl⟩
  case round =>
    obtain ⟨k, hk, rfl, rfl⟩ := hrel
    by_cases hlt : k < l.length
    · obtain ⟨a, rfl, hb, hh⟩ := hr.addr (by rw [u8s_length]; omega)
      have hc := hh k (.int .u8 l[k].toNat) (by simp [u8s, hlt])
      clear hh hr
      go_wp2
      go_round
      case rel => exact ⟨k + 1, by omega, by go_num, by
        have h1 := le8_lt (l.take k)
        rw [List.length_take, Nat.min_eq_left (by omega)] at h1
        rw [or_step _ k _ (by omega) h1 l[k].toNat_lt, le8_take_succ l k hlt]⟩
      case measure => simp [intOf]; omega
    · go_wp2
      go_returns
      obtain rfl : k = l.length := by omega
      rw [List.take_length]
      exact ⟨rfl, by go_grown⟩

theorem eight_any (A : Option Addr) (l : List UInt8) (n c : Nat) (hn : n = l.length) (w : World) (hr : Rd w 1 A n (u8s l)) (hm : l.length ≤ 1048576) :
    Calls Try.prog 25 #[.slice A n c] w fun e w' => e = .returned (.int .i64 (wrap64 (le8 (l.take 8)))) ∧ Below w.heap.size w w' := by
  subst hn
  go_enter Try.func25, Try.ntmps25
  go_wp2
  go_loop [3, 4] (fun n i => ∃ k : Nat, k ≤ 8 ∧ i = .int .i64 ((k : Int) - 1) ∧ n = .int .u64 (le8 ((l.take 8).drop k))) (fun _ i => (intOf i + 1).toNat)
  case atStart => exact ⟨8, by omega, rfl, by rw [le8_drop_none _ 8 (by simp; omega)]; rfl⟩
  case round =>
    obtain ⟨k, hk, rfl, rfl⟩ := hrel
    rcases Nat.eq_zero_or_pos k with h0 | h0
    · subst h0
      go_wp2
      go_returns
      exact ⟨rfl, by go_grown⟩
    · obtain ⟨j, rfl⟩ : ∃ j, k = j + 1 := ⟨k - 1, by omega⟩
      have e1 : ((j + 1 : Nat) : Int) - 1 = (j : Int) := by omega
      rw [e1]
      clear e1
      by_cases hlt : j < l.length
      · obtain ⟨a, rfl, hb, hh⟩ := hr.addr (by rw [u8s_length]; omega)
        have hc := hh j (.int .u8 l[j].toNat) (by simp [u8s, hlt])
        clear hh hr
        go_wp2
        go_round
        case rel => exact ⟨j, by omega, rfl, by rw [down_step l j hk hlt]⟩
        case measure => simp [intOf]
      · go_wp2
        go_round
        case rel => exact ⟨j, by omega, rfl, by rw [down_none l j hlt]⟩
        case measure => simp [intOf]
end Go.Proofs.Ytjhkblaplfhfcaa
