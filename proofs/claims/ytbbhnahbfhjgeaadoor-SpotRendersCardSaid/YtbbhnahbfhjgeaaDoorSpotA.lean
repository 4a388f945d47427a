/-
  Lines and columns: bytes.Count and bytes.LastIndexByte at this program, and the document's answer.
-/
import Derived.Test.YtbbhnahbfhjgeaaDoorBytes
import Derived.Shelf.Bytes.SlCountOne
import Derived.Lib.Hide
namespace Go.Proofs.YtbbhnahbfhjgeaaDoor
open Go.ChangeShapes Go.WideShapes Go.ChangeAt Go.RowKit
set_option linter.unusedVariables false
set_option linter.unusedSimpArgs false

def colF (s : Str) : Nat := (s.reverse.takeWhile (fun c => c != 10)).length + 1
theorem colF_snoc (s : Str) (c : UInt8) : colF (s ++ [c]) = if c = 10 then 1 else colF s + 1 := by
  unfold colF
  rw [List.reverse_append]
  by_cases h : c = 10 <;> simp [List.takeWhile_cons, h]
theorem colF_take (s : Str) (k : Nat) (h : k < s.length) : colF (s.take (k + 1)) = if s[k] = 10 then 1 else colF (s.take k) + 1 := by
  rw [List.take_succ_eq_append_getElem h, colF_snoc]
def lineF (s : Str) : Nat := s.count 10 + 1
theorem lineF_take (s : Str) (k : Nat) (h : k < s.length) : lineF (s.take (k + 1)) = if s[k] = 10 then lineF (s.take k) + 1 else lineF (s.take k) := by
  unfold lineF
  rw [List.take_succ_eq_append_getElem h, List.count_append]
  by_cases h : s[k] = 10 <;> simp [h]
theorem colF_le (s : Str) : colF s ≤ s.length + 1 := by
  unfold colF
  have h1 := (List.takeWhile_sublist (l := s.reverse) (p := fun c => c != 10)).length_le
  rw [List.length_reverse] at h1
  omega
theorem lineF_le (s : Str) : lineF s ≤ s.length + 1 := by
  unfold lineF
  have := List.count_le_length (a := (10 : UInt8)) (l := s)
  omega

def ints (l : Str) : List Int := l.map fun c => (c.toNat : Int)
theorem ints_back (l : Str) : Lib.bytesOf (ints l) = l := by
  unfold Lib.bytesOf ints
  rw [List.map_map]
  conv => rhs; rw [← List.map_id l]
  refine List.map_congr_left fun c _ => ?_
  show UInt8.ofNat ((c.toNat : Int).toNat) = c
  rw [Int.toNat_natCast]
  exact UInt8.ofNat_toNat

theorem u8_eq (c : UInt8) : c = 10 ↔ c.toNat = 10 := by
  rw [← UInt8.toNat_inj]; rfl

set_option maxRecDepth 100000 in
theorem count_any (A : Option Addr) (l : Str) (n cp : Nat) (b2 d : Nat) (w : World) (hr : Rd w 1 A n (u8s l)) (hc2 : w.cell? ⟨b2, 0, none⟩ = some (.int .u8 10)) :
    Calls Tryd.prog 18 #[.slice A n cp, .slice (some ⟨b2, 0, none⟩) 1 d] w fun e w' => e = .returned (.int .i64 (l.count 10 : Nat)) ∧ w = w' := by
  have hX := @run_callFunc_extern Tryd.prog 31 _ Extern.BytealgCount.count Tryd.func31 (by kernel_rfl) (by kernel_rfl) (by kernel_rfl) (by kernel_rfl)
  have hn := hr.bytesN
  have hcount : (Extern.BytealgCount.count #[.slice A n cp, .int .u8 10]).run Tryd.prog w = .ok (.int .i64 (l.count 10 : Nat)) w := by
    cases A with
    | none =>
      have h0 : l = [] := by
        cases l with
        | nil => rfl
        | cons a t => obtain ⟨a, e, _⟩ := hr.2 (by simp [u8s]); cases e
      subst h0
      rw [Lib.run_countNil]; rfl
    | some a =>
      have h := Lib.run_countAt (P := Tryd.prog) w a n cp (ints l) (by unfold ints; rw [List.length_map, hn]) (fun i hi => by
        obtain ⟨a', e, hh⟩ := hr.2 (by rw [u8s_length]; omega)
        injection e with e
        subst e
        rw [hh i _ (u8s_at l i (by omega))]
        unfold ints
        simp [List.getD_eq_getElem?_getD, show i < l.length by omega]) 10
      rw [h, ints_back]
      rfl
  clear hr
  go_enter Tryd.func18, Tryd.ntmps18
  go_wp2
  go_ret
  exact ⟨rfl, rfl⟩

set_option maxRecDepth 100000 in
theorem last_any (A : Option Addr) (l : Str) (n cp : Nat) (w : World) (hr : Rd w 1 A n (u8s l)) (hm : n ≤ 1048576) :
    Calls Tryd.prog 33 #[.slice A n cp, .int .u8 10] w fun e w' => e = .returned (.int .i64 ((n : Int) - (colF l : Int))) ∧ w = w' := by
  have hn := hr.bytesN
  go_enter Tryd.func33, Tryd.ntmps33
  go_wp2_with fail
  go_loop [5] (fun i => ∃ (k : Nat) (j : Int), i = .int .i64 j ∧ j = (k : Int) - 1 ∧ k ≤ n ∧ colF l = (n - k) + colF (l.take k)) (fun i => (intOf i + 1).toNat)
  case atStart => exact ⟨n, _, rfl, rfl, Nat.le_refl _, by rw [List.take_of_length_le (by omega)]; omega⟩
  case round =>
    obtain ⟨k, j, rfl, hj, hk, hc⟩ := hrel
    have HC := Lib.hid hc
    clear hc
    cases k with
    | zero =>
      obtain rfl : j = -1 := by omega
      clear hj
      go_wp2_with fail
      go_returns
      have h := HC.out
      rw [List.take_zero] at h
      have h2 : colF [] = 1 := rfl
      have h3 : (n : Int) - (colF l : Int) = -1 := by omega
      exact ⟨by rw [h3]; rfl, rfl⟩
    | succ k =>
      obtain rfl : j = (k : Int) := by omega
      clear hj
      have hkl : k < l.length := by omega
      obtain ⟨b, o, rfl, hb, hcl⟩ := hr.byte (k := k) hkl
      obtain ⟨c, hck⟩ : ∃ c, l[k] = c := ⟨_, rfl⟩
      have g0 := hcl k hkl
      rw [hck] at g0
      have hs := colF_take l k hkl
      rw [hck] at hs
      have HS := Lib.hid hs
      have z0 : (0 : Int) ≤ (k : Int) := by omega
      have z1 : (k : Int) < (n : Int) := by omega
      clear hcl hck hs hkl
      by_cases h10 : c.toNat = 10
      · have t10 : ((c.toNat : Int) == 10) = true := by rw [beq_iff_eq]; omega
        have HE := Lib.hid ((u8_eq c).2 h10)
        clear h10
        go_wp2_with fail
        go_returns
        have h := HC.out
        have h2 := HS.out
        rw [if_pos HE.out] at h2
        have h3 : (n : Int) - (colF l : Int) = (k : Int) := by omega
        exact ⟨by rw [h3]; rfl, rfl⟩
      · have t10 : ((c.toNat : Int) == 10) = false := by rw [beq_eq_false_iff_ne]; omega
        have HE := Lib.hid (fun h => h10 ((u8_eq c).1 h))
        clear h10
        go_wp2_with fail
        go_round
        case rel =>
          have h := HC.out
          have h2 := HS.out
          rw [if_neg HE.out] at h2
          exact ⟨k, _, rfl, by omega, by omega, by omega⟩
        case measure => simp [intOf] <;> omega
end Go.Proofs.YtbbhnahbfhjgeaaDoor
