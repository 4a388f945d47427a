/-
  Unpack, by the code.
-/
import Derived.Test.YtjhkblaplfhfcaaWordH
namespace Go.Proofs.Ytjhkblaplfhfcaa
open Go.ChangeShapes Go.WideShapes Go.ChangeAt Go.RowKit
set_option linter.unusedVariables false

theorem elByte : ElemTy Try.prog 42 5 (.int .u8 0) 1 1 :=
  ⟨Try.underlying42, by kernel_rfl, rfl, by omega, by omega⟩

theorem unpack_no (A : Option Addr) (ws : List Wd) (n c : Nat) (hn : n = ws.length) (w : World) (hr : Rd w 2 A n (wcells ws)) (hm : ws.length ≤ 1048576) (hp : arePackedB ws = false) :
    Calls Try.prog 15 #[.slice A n c] w fun e w' => e = .returned (.tuple #[.slice none 0 0, .iface 32 (.int .i64 1)]) ∧ Below w.heap.size w w' := by
  have HP := Lib.hid hp
  have HN := Lib.hid hn
  clear hp hn
  go_enter Try.func15, Try.ntmps15
  go_wp2_with fail
  refine (arePacked_any A ws n c HN.out w hr hm).mono ?_
  rintro e w1 ⟨rfl, hb1⟩
  rw [HP.out]
  go_wp2_with fail
  go_returns
  exact ⟨rfl, hb1⟩

theorem unpack_yes (A : Option Addr) (ws : List Wd) (n c : Nat) (hn : n = ws.length) (w : World) (hr : Rd w 2 A n (wcells ws)) (hm : ws.length ≤ 1048576) (hp : arePackedB ws = true) :
    Calls Try.prog 15 #[.slice A n c] w fun e w' => ∃ v, e = .returned (.tuple #[v, .nilIface]) ∧ w'.ownsRow w.heap.size 5 1 v (nBytes ws) (u8s (bytesTo ws (nBytes ws))) ∧ Below w.heap.size w w' := by
  obtain ⟨hall, hlen, h0, hle, hwords, hrest⟩ := (arePackedB_iff ws).1 hp
  have hN : wat ws 0 = (nBytes ws : Int) := by unfold nBytes; omega
  have hbig : nBytes ws ≤ 8 * (ws.length - 1) := by unfold nBytes; omega
  have HP := Lib.hid hp
  have HN := Lib.hid hN
  subst hn
  clear hp hN hall hrest hwords hle h0
  go_enter Try.func15, Try.ntmps15
  go_wp2_with fail
  refine (arePacked_any A ws _ c rfl w hr hm).mono ?_
  rintro e w1 ⟨rfl, hb1⟩
  rw [HP.out]
  obtain ⟨b, o, rfl, hba, hc0, hc1⟩ := rd_word (hr.below hb1) hlen
  rw [Nat.zero_mul, Nat.add_zero] at hc0 hc1
  rw [HN.out] at hc1
  go_wp2_with (at_make; refine wpList_mk elByte _ rfl _ _ rfl w.heap.size .i64 .i64 0 _ 0 (nBytes ws) rfl rfl rfl rfl (Nat.zero_le _) (by omega) hb1.size ?_; intro w2 hown hb2 hs2; have hc2 := cell_below hb2 hc1)
  go_loopw [4, 19] (fun v i wr => ∃ k : Nat, k ≤ nBytes ws ∧ i = .int .i64 k ∧ wr.ownsRow w.heap.size 5 1 v k (u8s (bytesTo ws k)) ∧ Below w.heap.size w wr) (fun _ i _ => nBytes ws - (intOf i).toNat)
  case atStart => exact ⟨0, Nat.zero_le _, rfl, hown, below_then hb1 hb2⟩
  case round =>
    clear hown hb2 hs2 hc2 hc0 hc1 hba hb1
    obtain ⟨k, hk, rfl, hown, hb⟩ := hrel
    by_cases hlt : k < nBytes ws
    · obtain ⟨b', o', e', hba, hc0, hc1⟩ := rd_word (hr.below hb) (k := 1 + k / 8) (by omega)
      simp only [Option.some.injEq, Addr.mk.injEq, and_true] at e'
      obtain ⟨rfl, rfl⟩ := e'
      go_wp2_with fail
      refine (byteOf_any _ _ _ (by omega) (by omega) _).mono ?_
      rintro e w3 ⟨rfl, hb3⟩
      have hown3 := own_below hown hb3
      go_wp2_with (at_builtin; refine wpList_app elByte _ rfl _ _ rfl w.heap.size u4 k _ rfl (hown3.alloc _) (some ⟨w3.heap.size, 0, none⟩) 1 1 _ rfl (Rd.lit w3 _ _ rfl) (u8s_one [byteVal (wat ws (1 + k / 8)) ((k : Int) % 8)]) (by omega) (by have h1 := hb.size; have h2 := hb3.size; simp; omega) ?_; intro v' w6 hown6 hb6 _ _)
      go_roundw
      case rel => exact ⟨k + 1, by omega, by go_num, by
        rw [bytesTo_succ]
        have e : u8s (bytesTo ws k ++ [byteAt ws k]) = u8s (bytesTo ws k) ++ [Value.int .u8 ((byteVal (wat ws (1 + k / 8)) ((k : Int) % 8)).toNat : Int)] := by
          unfold byteVal
          rw [show ((k : Int) % 8).toNat = k % 8 from by omega]
          simp only [u8s, byteAt, List.map_append, List.map_cons, List.map_nil]
        rw [e]; exact hown6, ((hb.trans (hb3.mono hb.size)).alloc (by have h1 := hb.size; have h2 := hb3.size; omega) _).trans hb6⟩
      case measure => simp [intOf] <;> omega
    · obtain rfl : k = nBytes ws := by omega
      go_wp2_with fail
      go_returns
      exact ⟨_, rfl, hown, hb⟩

theorem all_any (A : Option Addr) (ws : List Wd) (n c : Nat) (hn : n = ws.length) (w : World) (hr : Rd w 2 A n (wcells ws)) (hm : ws.length ≤ 1048576) :
    Calls Try.prog 17 #[.slice A n c] w fun e w' => ∃ v, e = .returned v ∧ w'.ownsRow w.heap.size 29 2 v ws.length (wcells ws) ∧ Below w.heap.size w w' := by
  subst hn
  go_enter Try.func17, Try.ntmps17
  go_wp2_with fail
  go_loopw [3, 4] (fun v i wr => ∃ k : Nat, k ≤ ws.length ∧ i = .int .i64 k ∧ wr.ownsRow w.heap.size 29 2 v k (wcells (ws.take k)) ∧ Below w.heap.size w wr) (fun _ i _ => ws.length - (intOf i).toNat)
  case atStart => exact ⟨0, Nat.zero_le _, rfl, World.ownsRow_nil _ _ _ _, Below.refl _ _⟩
  case round =>
    obtain ⟨k, hk, rfl, hown, hb⟩ := hrel
    by_cases hlt : k < ws.length
    · obtain ⟨b, o, rfl, hba, hc0, hc1⟩ := rd_word (hr.below hb) hlt
      go_wp2_with fail
      refine (as_any _ _ _).mono ?_
      rintro e w3 ⟨rfl, hb3⟩
      have hown3 := own_below hown hb3
      go_wp2_with (at_builtin; refine wpList_app elRef _ rfl _ _ rfl w.heap.size u3 k _ rfl (hown3.alloc _) (some ⟨w3.heap.size, 0, none⟩) 1 1 _ rfl (Rd.lit w3 _ _ rfl) (wcells_one [(ws[k].1, wat ws k)]) (by omega) (by have h1 := hb.size; have h2 := hb3.size; simp; omega) ?_; intro v' w6 hown6 hb6 _ _)
      go_roundw
      case rel => exact ⟨k + 1, by omega, by go_num, by
        have e : wcells (ws.take (k + 1)) = wcells (ws.take k) ++ [.bool ws[k].1, .int .i64 (wat ws k)] := by
          rw [List.take_succ_eq_append_getElem hlt, wcells_append]
          simp [wcells, wat, hlt]
        rw [e]; exact hown6, ((hb.trans (hb3.mono hb.size)).alloc (by have h1 := hb.size; have h2 := hb3.size; omega) _).trans hb6⟩
      case measure => simp [intOf] <;> omega
    · obtain rfl : k = ws.length := by omega
      rw [List.take_length] at hown
      go_wp2_with fail
      go_returns
      exact ⟨_, rfl, hown, hb⟩

end Go.Proofs.Ytjhkblaplfhfcaa
