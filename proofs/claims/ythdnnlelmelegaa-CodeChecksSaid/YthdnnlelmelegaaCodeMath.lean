/-
  Images as plain data, and their bytes. About no program.
-/
import Derived.Test.YthdnnlelmelegaaStrs
namespace Go.Proofs.Ythdnnlelmelegaa
set_option linter.unusedVariables false

/-- An instruction, a function, an image. -/
structure Ins where
  op : Int
  a : Int
  l : List Int
structure Fnc where
  regs : Int
  caps : Int
  code : List Ins
structure Img where
  ints : List Int
  texts : List Str
  funs : List Fnc

/-- A number of 64 bits as one without a sign: 2n, or -2n - 1. -/
def zz (n : Int) : Nat := if n < 0 then (-2 * n - 1).toNat else (2 * n).toNat
/-- And back. -/
def unzz (u : Nat) : Int := if u % 2 = 0 then (u / 2 : Nat) else -((u / 2 : Nat) : Int) - 1
theorem unzz_zz (n : Int) : unzz (zz n) = n := by
  unfold unzz zz
  split <;> split <;> omega
theorem zz_unzz (u : Nat) : zz (unzz u) = u := by
  unfold unzz zz
  split <;> split <;> omega
theorem zz_lt (n : Int) (h1 : -9223372036854775808 ≤ n) (h2 : n < 9223372036854775808) : zz n < 18446744073709551616 := by
  unfold zz; split <;> omega
theorem unzz_ge (u : Nat) (h : u < 18446744073709551616) : -9223372036854775808 ≤ unzz u ∧ unzz u < 9223372036854775808 := by
  unfold unzz; split <;> omega

/-- Seven bits a byte, the lowest first. -/
def numU (u : Nat) : List UInt8 := if u < 128 then [UInt8.ofNat u] else UInt8.ofNat (u % 128 + 128) :: numU (u / 128)
termination_by u
decreasing_by omega
def num (n : Int) : List UInt8 := numU (zz n)

theorem numU_small (u : Nat) (h : u < 128) : numU u = [UInt8.ofNat u] := by rw [numU, if_pos h]
theorem numU_big (u : Nat) (h : ¬ u < 128) : numU u = UInt8.ofNat (u % 128 + 128) :: numU (u / 128) := by rw [numU, if_neg h]
theorem numU_ne (u : Nat) : numU u ≠ [] := by rw [numU]; split <;> simp
theorem num_ne (n : Int) : num n ≠ [] := numU_ne _

/-- What the reader of a number tells: byte number i is next, u what was read. -/
def rdU : Nat → Nat → List UInt8 → Option (Nat × List UInt8)
  | _, _, [] => none
  | i, u, c :: r =>
    if (i = 9 ∧ 1 < c.toNat) ∨ (0 < i ∧ c.toNat = 0) then none
    else if c.toNat < 128 then some (u + c.toNat * 128 ^ i, r)
    else rdU (i + 1) (u + (c.toNat % 128) * 128 ^ i) r
def rd (b : List UInt8) : Option (Int × List UInt8) := (rdU 0 0 b).map fun x => (unzz x.1, x.2)

/-- What was written is read. -/
theorem rdU_numU : ∀ (n i u k : Nat) (r : List UInt8), i + n = 10 → k * 128 ^ i < 18446744073709551616 → (0 < i → 0 < k) → rdU i u (numU k ++ r) = some (u + k * 128 ^ i, r)
  | 0, i, u, k, r, hn, hk, hp => by
    obtain rfl : i = 10 := by omega
    have : 0 < k := hp (by omega)
    have : 18446744073709551616 ≤ k * 128 ^ 10 := by
      have h1 : (128 : Nat) ^ 10 = 1180591620717411303424 := by decide
      rw [h1]; omega
    omega
  | n + 1, i, u, k, r, hn, hk, hp => by
    by_cases hs : k < 128
    · rw [numU_small k hs, List.singleton_append, rdU]
      have hc : (UInt8.ofNat k).toNat = k := by simp; omega
      rw [hc]
      have h9 : ¬ ((i = 9 ∧ 1 < k) ∨ (0 < i ∧ k = 0)) := by
        rintro (⟨rfl, h⟩ | ⟨h, h0⟩)
        · have h1 : (128 : Nat) ^ 9 = 9223372036854775808 := by decide
          rw [h1] at hk; omega
        · have := hp h; omega
      rw [if_neg h9, if_pos hs]
    · rw [numU_big k hs, List.cons_append, rdU]
      have hc : (UInt8.ofNat (k % 128 + 128)).toNat = k % 128 + 128 := by simp; omega
      rw [hc]
      have h9 : ¬ ((i = 9 ∧ 1 < k % 128 + 128) ∨ (0 < i ∧ k % 128 + 128 = 0)) := by
        rintro (⟨rfl, h⟩ | ⟨h, h0⟩)
        · have h1 : (128 : Nat) ^ 9 = 9223372036854775808 := by decide
          rw [h1] at hk; omega
        · omega
      rw [if_neg h9, if_neg (by omega)]
      have e1 : k / 128 * 128 ^ (i + 1) + (k % 128) * 128 ^ i = k * 128 ^ i := by
        rw [Nat.pow_succ, Nat.mul_comm (128 ^ i) 128, ← Nat.mul_assoc, ← Nat.add_mul]
        congr 1; omega
      rw [rdU_numU n (i + 1) _ (k / 128) r (by omega) (by
        have : k / 128 * 128 ^ (i + 1) ≤ k * 128 ^ i := by omega
        omega) (by intro _; omega)]
      have e2 : (k % 128 + 128) % 128 = k % 128 := by omega
      rw [e2]
      congr 2; omega

theorem rd_num (n : Int) (r : List UInt8) (h1 : -9223372036854775808 ≤ n) (h2 : n < 9223372036854775808) : rd (num n ++ r) = some (n, r) := by
  unfold rd num
  rw [rdU_numU 10 0 0 (zz n) r (by omega) (by have := zz_lt n h1 h2; omega) (by omega)]
  simp [unzz_zz]

theorem bound_step (i k q : Nat) (hi : i ≤ 8) (hq : q < 128) (h : k * 128 ^ (i + 1) < 18446744073709551616) : (k * 128 + q) * 128 ^ i < 18446744073709551616 := by
  have hd : ∃ d, 128 ^ (i + 1) * d = 18446744073709551616 := by
    refine ⟨2 ^ (64 - 7 * (i + 1)), ?_⟩
    have e1 : (128 : Nat) = 2 ^ 7 := rfl
    rw [e1, ← Nat.pow_mul, ← Nat.pow_add, show 7 * (i + 1) + (64 - 7 * (i + 1)) = 64 from by omega]
  obtain ⟨d, hd⟩ := hd
  have hp : 0 < 128 ^ (i + 1) := Nat.pow_pos (by omega)
  have hk : k < d := by
    rw [← hd, Nat.mul_comm] at h
    exact Nat.lt_of_mul_lt_mul_left h
  have h1 : (k * 128 + q) * 128 ^ i < (k + 1) * 128 * 128 ^ i := by
    apply Nat.mul_lt_mul_of_pos_right _ (Nat.pow_pos (by omega))
    omega
  have h2 : (k + 1) * 128 * 128 ^ i = 128 ^ (i + 1) * (k + 1) := by
    rw [Nat.pow_succ, Nat.mul_comm (128 ^ i) 128, Nat.mul_comm (128 * 128 ^ i), Nat.mul_assoc]
  have h3 : 128 ^ (i + 1) * (k + 1) ≤ 128 ^ (i + 1) * d := Nat.mul_le_mul_left _ hk
  rw [h2] at h1
  rw [hd] at h3
  exact Nat.lt_of_lt_of_le h1 h3

/-- What is read is what would be written, and there is nothing more. -/
theorem rdU_back : ∀ (b : List UInt8) (i u : Nat) (x : Nat × List UInt8), i ≤ 9 → rdU i u b = some x → ∃ k, x.1 = u + k * 128 ^ i ∧ b = numU k ++ x.2 ∧ k * 128 ^ i < 18446744073709551616 ∧ (0 < i → 0 < k)
  | [], i, u, x, hi, h => by simp [rdU] at h
  | c :: r, i, u, x, hi, h => by
    have hc := c.toNat_lt
    rw [rdU] at h
    split at h
    · cases h
    · rename_i hno
      split at h
      · rename_i hs
        injection h with h
        subst h
        have hbound : c.toNat * 128 ^ i < 18446744073709551616 := by
          rcases Nat.lt_or_ge i 9 with h9 | h9
          · have hp : (128 : Nat) ^ i ≤ 128 ^ 8 := Nat.pow_le_pow_right (by omega) (by omega)
            have h8 : (128 : Nat) ^ 8 = 72057594037927936 := by decide
            have : c.toNat * 128 ^ i ≤ 127 * 128 ^ 8 := Nat.mul_le_mul (by omega) hp
            omega
          · obtain rfl : i = 9 := by omega
            have h1 : (128 : Nat) ^ 9 = 9223372036854775808 := by decide
            have : c.toNat ≤ 1 := by
              rcases Nat.lt_or_ge 1 c.toNat with hx | hx
              · exact absurd (.inl ⟨rfl, hx⟩) hno
              · exact hx
            rw [h1]; omega
        refine ⟨c.toNat, rfl, ?_, hbound, ?_⟩
        · rw [numU_small _ hs, UInt8.ofNat_toNat]; rfl
        · intro h0
          rcases Nat.eq_zero_or_pos c.toNat with hz | hz
          · exact absurd (.inr ⟨h0, hz⟩) hno
          · exact hz
      · rename_i hs
        have hi8 : i ≤ 8 := by
          rcases Nat.lt_or_ge i 9 with h9 | h9
          · omega
          · exact absurd (.inl ⟨by omega, by omega⟩) hno
        obtain ⟨k, h1, h2, h3, h4⟩ := rdU_back r (i + 1) _ x (by omega) h
        have hk := h4 (by omega)
        refine ⟨k * 128 + c.toNat % 128, ?_, ?_, ?_, ?_⟩
        · rw [h1, Nat.add_mul, Nat.pow_succ, Nat.mul_assoc k, Nat.mul_comm 128 (128 ^ i)]; omega
        · rw [numU_big _ (by omega), h2]
          have e1 : (k * 128 + c.toNat % 128) % 128 + 128 = c.toNat := by omega
          have e2 : (k * 128 + c.toNat % 128) / 128 = k := by omega
          rw [e1, e2, UInt8.ofNat_toNat]; rfl
        · exact bound_step i k (c.toNat % 128) (by omega) (Nat.mod_lt _ (by omega)) h3
        · intro _; omega

theorem rd_back (b : List UInt8) (x : Int × List UInt8) (h : rd b = some x) : b = num x.1 ++ x.2 ∧ (-9223372036854775808 ≤ x.1 ∧ x.1 < 9223372036854775808) := by
  unfold rd at h
  cases hr : rdU 0 0 b with
  | none => rw [hr] at h; cases h
  | some y =>
    rw [hr] at h
    injection h with h
    subst h
    obtain ⟨k, h1, h2, h3, _⟩ := rdU_back b 0 0 y (Nat.zero_le _) hr
    rw [Nat.pow_zero, Nat.mul_one] at h1 h3
    rw [Nat.zero_add] at h1
    have e : y.1 = k := h1
    have hk : k < 18446744073709551616 := h3
    refine ⟨?_, ?_⟩
    · unfold num
      show b = numU (zz (unzz y.1)) ++ y.2
      rw [zz_unzz, e]; exact h2
    · show _ ≤ unzz y.1 ∧ unzz y.1 < _
      rw [e]; exact unzz_ge k hk

/-- The bytes of an instruction, of a function, of an image. -/
def putIns (x : Ins) : List UInt8 := num x.op ++ num x.a ++ num x.l.length ++ x.l.flatMap num
def putFnc (f : Fnc) : List UInt8 := num f.regs ++ num f.caps ++ num f.code.length ++ f.code.flatMap putIns
def putStr (s : Str) : List UInt8 := num s.length ++ s
def putImg (m : Img) : List UInt8 := num m.ints.length ++ m.ints.flatMap num ++ (num m.texts.length ++ m.texts.flatMap putStr) ++ (num m.funs.length ++ m.funs.flatMap putFnc)
end Go.Proofs.Ythdnnlelmelegaa
