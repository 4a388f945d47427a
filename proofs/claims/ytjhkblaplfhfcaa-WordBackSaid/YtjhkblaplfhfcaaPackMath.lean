/-
  Plain arithmetic of bytes and words: what eight bytes are as one number, and back. About no program.
-/
import Derived.Test.YtjhkblaplfhfcaaMem
namespace Go.Proofs.Ytjhkblaplfhfcaa
open Go.RowKit
set_option linter.unusedVariables false

def u8s (l : List UInt8) : List Value := l.map fun c => .int .u8 c.toNat
theorem u8s_length (l : List UInt8) : (u8s l).length = l.length := by simp [u8s]
theorem u8s_one (l : List UInt8) : ∀ u ∈ u8s l, u.oneCell' = true := by
  intro u hu; obtain ⟨_, _, rfl⟩ := List.mem_map.1 hu; rfl

/-- Bytes as a number, the first one the lowest. -/
def le8 : List UInt8 → Nat
  | [] => 0
  | c :: r => c.toNat + 256 * le8 r

theorem le8_lt : ∀ l : List UInt8, le8 l < 256 ^ l.length
  | [] => by simp [le8]
  | c :: r => by
    have h := le8_lt r
    have hc := c.toNat_lt
    simp only [le8, List.length_cons, Nat.pow_succ]
    have : c.toNat + 256 * le8 r < 256 * (le8 r + 1) := by omega
    have h2 : 256 * (le8 r + 1) ≤ 256 * 256 ^ r.length := Nat.mul_le_mul_left _ h
    omega

theorem le8_snoc : ∀ (l : List UInt8) (c : UInt8), le8 (l ++ [c]) = le8 l + 256 ^ l.length * c.toNat
  | [], c => by simp [le8]
  | x :: r, c => by
    simp only [List.cons_append, le8, le8_snoc r c, List.length_cons, Nat.pow_succ]
    rw [Nat.mul_add, Nat.mul_comm (256 ^ r.length) 256, Nat.mul_assoc]
    omega

theorem pow_le_8 {k : Nat} (h : k ≤ 7) : 256 ^ k ≤ 256 ^ 7 := Nat.pow_le_pow_right (by omega) h
theorem le8_lt64 (l : List UInt8) (h : l.length ≤ 8) : le8 l < 18446744073709551616 := by
  have h1 := le8_lt l
  have h2 : 256 ^ l.length ≤ 256 ^ 8 := Nat.pow_le_pow_right (by omega) h
  have h3 : (256 : Nat) ^ 8 = 18446744073709551616 := by decide
  omega

theorem shl8 (k : Nat) : 2 ^ (8 * k) = 256 ^ k := by rw [Nat.pow_mul]

/-- One byte more, by shift and or. -/
theorem or_step (x k c : Nat) (hk : k ≤ 7) (hx : x < 256 ^ k) (hc : c < 256) :
    bits .or .u64 (x : Int) (IntKind.u64.wrap (IntKind.u64.wrap (c : Int) * 2 ^ (8 * k))) = ((x + 256 ^ k * c : Nat) : Int) := by
  have hp := pow_le_8 hk
  have h7 : (256 : Nat) ^ 7 = 72057594037927936 := by decide
  have hcw : IntKind.u64.wrap (c : Int) = (c : Int) := by rw [IntKind.wrap_u64]; omega
  have hmul : 256 ^ k * c ≤ 256 ^ k * 255 := Nat.mul_le_mul_left _ (by omega)
  have hprod : (c : Int) * 2 ^ (8 * k) = ((256 ^ k * c : Nat) : Int) := by
    have : (2 : Int) ^ (8 * k) = ((256 ^ k : Nat) : Int) := by rw [← shl8]; norm_cast
    rw [this, Nat.mul_comm]; norm_cast
  have hw : IntKind.u64.wrap ((256 ^ k * c : Nat) : Int) = ((256 ^ k * c : Nat) : Int) := by rw [IntKind.wrap_u64]; omega
  rw [hcw, hprod, hw, u64_or_nat _ _ (by omega) (by omega)]
  congr 1
  rw [Nat.or_comm, nat_join (8 * k) (256 ^ k * c) x (by rw [shl8]; exact Nat.mul_mod_right _ _) (by rw [shl8]; exact hx)]
  omega

theorem le8_take_succ (l : List UInt8) (k : Nat) (h : k < l.length) : le8 (l.take (k + 1)) = le8 (l.take k) + 256 ^ k * l[k].toNat := by
  rw [List.take_succ_eq_append_getElem h, le8_snoc, List.length_take, Nat.min_eq_left (by omega)]

/-- Upwards from the highest: one byte more in front. -/
theorem le8_drop (l : List UInt8) (k : Nat) (h : k < l.length) : le8 (l.drop k) = l[k].toNat + 256 * le8 (l.drop (k + 1)) := by
  rw [List.drop_eq_getElem_cons h, le8]
theorem le8_drop_none (l : List UInt8) (k : Nat) (h : l.length ≤ k) : le8 (l.drop k) = 0 := by rw [List.drop_eq_nil_of_le h]; rfl

/-- The lowest eight, downwards: one byte more below. -/
theorem down_step (l : List UInt8) (j : Nat) (hj : j + 1 ≤ 8) (hlt : j < l.length) :
    IntKind.u64.wrap (IntKind.u64.wrap ((le8 ((l.take 8).drop (j + 1)) : Int) * 256) + IntKind.u64.wrap (l[j].toNat : Int)) = (le8 ((l.take 8).drop j) : Int) := by
  have hl : j < (l.take 8).length := by rw [List.length_take]; omega
  have e := le8_drop (l.take 8) j hl
  have e2 : (l.take 8)[j] = l[j] := by simp
  rw [e2] at e
  have h1 := le8_lt64 ((l.take 8).drop j) (by simp; omega)
  rw [e] at h1 ⊢
  have := l[j].toNat_lt
  simp only [IntKind.wrap_u64]
  omega
theorem down_none (l : List UInt8) (j : Nat) (hlt : ¬ j < l.length) :
    IntKind.u64.wrap ((le8 ((l.take 8).drop (j + 1)) : Int) * 256) = (le8 ((l.take 8).drop j) : Int) := by
  rw [le8_drop_none _ _ (by simp; omega), le8_drop_none _ _ (by simp; omega)]
  rfl

/-- The words of bytes. -/
def chunk (l : List UInt8) (k : Nat) : Int := wrap64 (le8 ((l.drop (8 * k)).take 8))
def packN (l : List UInt8) : Nat := (l.length + 7) / 8
def packTo (l : List UInt8) (k : Nat) : List Int := (l.length : Int) :: (List.range k).map (chunk l)
def packL (l : List UInt8) : List Int := packTo l (packN l)

/-- The cells of words. -/
def wcells (ws : List (Bool × Int)) : List Value := ws.flatMap fun p => [.bool p.1, .int .i64 p.2]
def icells (ws : List Int) : List Value := wcells (ws.map fun n => (false, n))
theorem wcells_length (ws : List (Bool × Int)) : (wcells ws).length = ws.length * 2 := by
  induction ws with
  | nil => rfl
  | cons p r ih => simp only [wcells, List.flatMap_cons, List.length_append, List.length_cons] at ih ⊢; simp only [List.length_nil]; omega
theorem wcells_append (a b : List (Bool × Int)) : wcells (a ++ b) = wcells a ++ wcells b := by simp [wcells]
theorem wcells_one (ws : List (Bool × Int)) : ∀ u ∈ wcells ws, u.oneCell' = true := by
  intro u hu
  obtain ⟨p, _, hp⟩ := List.mem_flatMap.1 hu
  simp at hp
  rcases hp with rfl | rfl <;> rfl
theorem wcells_at (ws : List (Bool × Int)) : ∀ (k : Nat) (h : k < ws.length), (wcells ws)[2 * k]? = some (.bool ws[k].1) ∧ (wcells ws)[2 * k + 1]? = some (.int .i64 ws[k].2) := by
  induction ws with
  | nil => intro k h; cases h
  | cons p r ih =>
    intro k h
    cases k with
    | zero => simp [wcells]
    | succ k =>
      have h' := ih k (by simpa using h)
      have e : wcells (p :: r) = .bool p.1 :: .int .i64 p.2 :: wcells r := rfl
      rw [e, show 2 * (k + 1) = 2 * k + 1 + 1 from by omega]
      simpa using h'
theorem icells_length (ws : List Int) : (icells ws).length = ws.length * 2 := by simp [icells, wcells_length]
theorem icells_append (a b : List Int) : icells (a ++ b) = icells a ++ icells b := by simp [icells, wcells_append]
theorem icells_one (ws : List Int) : ∀ u ∈ icells ws, u.oneCell' = true := wcells_one _
theorem packTo_succ (l : List UInt8) (k : Nat) : packTo l (k + 1) = packTo l k ++ [chunk l k] := by
  simp [packTo, List.range_succ]
theorem packTo_length (l : List UInt8) (k : Nat) : (packTo l k).length = k + 1 := by simp [packTo]
theorem take_eq {α : Type} {l : List α} {a b : Nat} (h : min a l.length = min b l.length) : l.take a = l.take b := by
  rw [List.take_eq_take_min, h, ← List.take_eq_take_min]
theorem u8s_cut (l : List UInt8) (lo n : Nat) : ((u8s l).drop (lo * 1)).take (n * 1) = u8s ((l.drop lo).take n) := by
  simp [u8s, List.map_take, List.map_drop]
end Go.Proofs.Ytjhkblaplfhfcaa
