/-
  Words unpacked: which words are what some bytes are packed into, and which bytes those are. About no program.
-/
import Derived.Test.YtjhkblaplfhfcaaPackMath
namespace Go.Proofs.Ytjhkblaplfhfcaa
open Go.RowKit
set_option linter.unusedVariables false

abbrev Wd := Bool × Int
def u64n (v : Int) : Nat := (v % 18446744073709551616).toNat
def wat (ws : List Wd) (j : Nat) : Int := ((ws[j]?).getD (false, 0)).2
/-- Byte number i of a word. -/
def byteVal (v i : Int) : UInt8 := UInt8.ofNat (u64n v / 256 ^ i.toNat % 256)
def byteAt (ws : List Wd) (i : Nat) : UInt8 := UInt8.ofNat (u64n (wat ws (1 + i / 8)) / 256 ^ (i % 8) % 256)
def bytesTo (ws : List Wd) (m : Nat) : List UInt8 := (List.range m).map (byteAt ws)
def wfWs (ws : List Wd) : Prop := ∀ p ∈ ws, -9223372036854775808 ≤ p.2 ∧ p.2 < 9223372036854775808
def pw (b : List UInt8) : List Wd := (packL b).map fun n => (false, n)

theorem u64n_lt (v : Int) : u64n v < 18446744073709551616 := by unfold u64n; omega
theorem u64n_lt8 (v : Int) : u64n v < 256 ^ 8 := by
  have h := u64n_lt v
  have e : (256 : Nat) ^ 8 = 18446744073709551616 := by decide
  rw [e]; exact h
theorem u64n_wrap (v : Int) : IntKind.u64.wrap v = (u64n v : Int) := by rw [IntKind.wrap_u64]; unfold u64n; omega
theorem wrap_u64n (v : Int) (h1 : -9223372036854775808 ≤ v) (h2 : v < 9223372036854775808) : wrap64 (u64n v) = v := by unfold wrap64 u64n; omega
theorem u64n_wrap64 (n : Nat) (h : n < 18446744073709551616) : u64n (wrap64 n) = n := by unfold wrap64 u64n; omega

theorem bytesTo_length (ws : List Wd) (m : Nat) : (bytesTo ws m).length = m := by simp [bytesTo]
theorem bytesTo_succ (ws : List Wd) (m : Nat) : bytesTo ws (m + 1) = bytesTo ws m ++ [byteAt ws m] := by simp [bytesTo, List.range_succ]
theorem bytesTo_take (ws : List Wd) (m n : Nat) (h : n ≤ m) : (bytesTo ws m).take n = bytesTo ws n := by
  simp [bytesTo, ← List.map_take, List.take_range, Nat.min_eq_left h]

/-- k bytes of a number, the lowest first. -/
def les (n : Nat) : Nat → List UInt8
  | 0 => []
  | k + 1 => UInt8.ofNat (n % 256) :: les (n / 256) k
theorem le8_les : ∀ (k n : Nat), n < 256 ^ k → le8 (les n k) = n
  | 0, n, h => by simp at h; subst h; rfl
  | k + 1, n, h => by
    have h2 : n / 256 < 256 ^ k := by rw [Nat.pow_succ] at h; omega
    simp only [les, le8, le8_les k _ h2]
    have : (UInt8.ofNat (n % 256)).toNat = n % 256 := by simp
    omega
theorem les_eq : ∀ (k n : Nat), les n k = (List.range k).map fun i => UInt8.ofNat (n / 256 ^ i % 256)
  | 0, n => rfl
  | k + 1, n => by
    rw [List.range_succ_eq_map, List.map_cons, List.map_map, les, les_eq k]
    simp only [Nat.pow_zero, Nat.div_one, List.cons.injEq, true_and]
    apply List.map_congr_left
    intro i _
    simp only [Function.comp, Nat.pow_succ, Nat.mul_comm (256 ^ i) 256, Nat.div_div_eq_div_mul]
theorem les_le8 : ∀ (l : List UInt8), les (le8 l) l.length = l
  | [] => rfl
  | c :: r => by
    have hc := c.toNat_lt
    have h1 : (c.toNat + 256 * le8 r) % 256 = c.toNat := by omega
    have h2 : (c.toNat + 256 * le8 r) / 256 = le8 r := by omega
    simp only [le8, List.length_cons, les, h1, h2, les_le8 r]
    simp

/-- The bytes of one word, those from 8 k on. -/
theorem bytesTo_chunk (ws : List Wd) (k m n : Nat) (hm : m ≤ 8) (hn : 8 * k + m ≤ n) : ((bytesTo ws n).drop (8 * k)).take m = les (u64n (wat ws (1 + k))) m := by
  rw [les_eq]
  apply List.ext_getElem?
  intro i
  by_cases hi : i < m
  · rw [List.getElem?_take, if_pos hi, List.getElem?_drop]
    simp only [bytesTo, List.getElem?_map]
    rw [List.getElem?_range (by omega), List.getElem?_range hi]
    simp only [Option.map_some, byteAt]
    rw [show (8 * k + i) / 8 = k from by omega, show (8 * k + i) % 8 = i from by omega]
  · rw [List.getElem?_eq_none (by simp [bytesTo]; omega), List.getElem?_eq_none (by simp; omega)]

/-- Nothing lies behind the last of n bytes of a word. -/
def restZ (v n : Int) : Bool := decide (n % 8 = 0) || decide (u64n v / 256 ^ (n % 8).toNat = 0)

def arePackedB (ws : List Wd) : Bool :=
  ws.all (fun p => !p.1) && decide (0 < ws.length) && decide (0 ≤ wat ws 0) && decide (wat ws 0 ≤ (ws.length - 1 : Nat) * 8) &&
    (decide (1 + (wat ws 0 + 7) / 8 = ws.length) && (decide (wat ws 0 % 8 = 0) || decide (u64n (wat ws (ws.length - 1)) / 256 ^ (wat ws 0 % 8).toNat = 0)))

theorem arePackedB_iff (ws : List Wd) : arePackedB ws = true ↔ ws.all (fun p => !p.1) = true ∧ 0 < ws.length ∧ 0 ≤ wat ws 0 ∧ wat ws 0 ≤ (ws.length - 1 : Nat) * 8 ∧
    1 + (wat ws 0 + 7) / 8 = ws.length ∧ (wat ws 0 % 8 = 0 ∨ u64n (wat ws (ws.length - 1)) / 256 ^ (wat ws 0 % 8).toNat = 0) := by
  simp only [arePackedB, Bool.and_eq_true, decide_eq_true_eq, Bool.or_eq_true, and_assoc]

def nBytes (ws : List Wd) : Nat := (wat ws 0).toNat

theorem pw_length (b : List UInt8) : (pw b).length = 1 + packN b := by simp [pw, packL, packTo_length, Nat.add_comm]
theorem pw_zero (b : List UInt8) : wat (pw b) 0 = b.length := by simp [wat, pw, packL, packTo]
theorem pw_at (b : List UInt8) (k : Nat) (h : k < packN b) : wat (pw b) (1 + k) = chunk b k := by
  rw [Nat.add_comm]
  simp [wat, pw, packL, packTo, h]
theorem pw_all (b : List UInt8) : (pw b).all (fun p => !p.1) = true := by simp [pw]

theorem take_drop_length (b : List UInt8) (k : Nat) : ((b.drop (8 * k)).take 8).length = min 8 (b.length - 8 * k) := by simp

theorem pw_bytes (b : List UInt8) : bytesTo (pw b) b.length = b := by
  apply List.ext_getElem?
  intro i
  by_cases hi : i < b.length
  · have hk : i / 8 < packN b := by unfold packN; omega
    simp only [bytesTo, List.getElem?_map]
    rw [List.getElem?_range hi]
    simp only [Option.map_some, byteAt, pw_at b _ hk, chunk]
    have hlen := take_drop_length b (i / 8)
    rw [u64n_wrap64 _ (le8_lt64 _ (by rw [hlen]; omega))]
    have hl := les_le8 ((b.drop (8 * (i / 8))).take 8)
    have h2 : (les (le8 ((b.drop (8 * (i / 8))).take 8)) ((b.drop (8 * (i / 8))).take 8).length)[i % 8]? = b[i]? := by
      rw [hl, List.getElem?_take, if_pos (by omega), List.getElem?_drop]
      congr 1; omega
    rw [les_eq, List.getElem?_map, List.getElem?_range (by rw [hlen]; omega)] at h2
    exact h2
  · rw [List.getElem?_eq_none (by rw [bytesTo_length]; omega), List.getElem?_eq_none (by omega)]

theorem pw_packed (b : List UInt8) : arePackedB (pw b) = true := by
  rw [arePackedB_iff, pw_length, pw_zero]
  refine ⟨pw_all b, by omega, by omega, by unfold packN; omega, by unfold packN; omega, ?_⟩
  by_cases h0 : (b.length : Int) % 8 = 0
  · exact .inl h0
  · refine .inr ?_
    have hp : 0 < packN b := by unfold packN; omega
    have e : 1 + packN b - 1 = 1 + (packN b - 1) := by omega
    rw [e, pw_at b _ (by omega), chunk]
    have hlen := take_drop_length b (packN b - 1)
    rw [u64n_wrap64 _ (le8_lt64 _ (by rw [hlen]; omega))]
    apply Nat.div_eq_of_lt
    have hl := le8_lt ((b.drop (8 * (packN b - 1))).take 8)
    have hx : ((b.drop (8 * (packN b - 1))).take 8).length = ((b.length : Int) % 8).toNat := by rw [hlen]; unfold packN; omega
    rw [hx] at hl
    exact hl

/-- Words that are packed are what their bytes are packed into. -/
theorem packed_pw (ws : List Wd) (hw : wfWs ws) (h : arePackedB ws = true) : pw (bytesTo ws (nBytes ws)) = ws := by
  obtain ⟨hall, hlen, h0, hle, hwords, hrest⟩ := (arePackedB_iff ws).1 h
  have hn : (nBytes ws : Int) = wat ws 0 := by unfold nBytes; omega
  have hpn : 1 + packN (bytesTo ws (nBytes ws)) = ws.length := by unfold packN; rw [bytesTo_length]; omega
  have hsnd : ∀ j (hj : j < ws.length), ws[j] = (false, wat ws j) := by
    intro j hj
    have := List.all_eq_true.1 hall ws[j] (List.getElem_mem hj)
    have h2 : wat ws j = ws[j].2 := by simp [wat, hj]
    rw [h2]
    generalize ws[j] = q at *
    obtain ⟨b, v⟩ := q
    simp at this
    rw [this]
  apply List.ext_getElem
  · rw [pw_length, hpn]
  · intro j h1 h2
    rw [hsnd j h2]
    cases j with
    | zero => simp [pw, packL, packTo, bytesTo_length, hn]
    | succ k =>
      have hk : k < packN (bytesTo ws (nBytes ws)) := by omega
      have e1 : (pw (bytesTo ws (nBytes ws)))[k + 1] = (false, chunk (bytesTo ws (nBytes ws)) k) := by simp [pw, packL, packTo]
      rw [e1]
      congr 1
      have hwk := hw ws[k + 1] (List.getElem_mem h2)
      rw [hsnd (k + 1) h2] at hwk
      rw [chunk]
      have hrw : wat ws (k + 1) = wat ws (1 + k) := by rw [Nat.add_comm]
      by_cases hfull : 8 * k + 8 ≤ nBytes ws
      · rw [bytesTo_chunk ws k 8 (nBytes ws) (by omega) hfull, le8_les 8 _ (u64n_lt8 _), hrw]
        rw [hrw] at hwk
        exact wrap_u64n _ hwk.1 hwk.2
      · have hm : nBytes ws - 8 * k ≤ 8 := by omega
        have hlt : 8 * k < nBytes ws := by unfold packN at hk; rw [bytesTo_length] at hk; omega
        have e2 : ((bytesTo ws (nBytes ws)).drop (8 * k)).take 8 = ((bytesTo ws (nBytes ws)).drop (8 * k)).take (nBytes ws - 8 * k) := by
          apply take_eq; rw [List.length_drop, bytesTo_length]; omega
        rw [e2, bytesTo_chunk ws k (nBytes ws - 8 * k) (nBytes ws) hm (by omega)]
        have hkl : 1 + k = ws.length - 1 := by unfold packN at hpn hk; rw [bytesTo_length] at hpn hk; omega
        have hr : u64n (wat ws (1 + k)) < 256 ^ (nBytes ws - 8 * k) := by
          rcases hrest with hz | hz
          · omega
          · rw [← hkl] at hz
            have hx : (wat ws 0 % 8).toNat = nBytes ws - 8 * k := by omega
            rw [hx] at hz
            rcases Nat.lt_or_ge (u64n (wat ws (1 + k))) (256 ^ (nBytes ws - 8 * k)) with h | h
            · exact h
            · have := Nat.div_pos h (Nat.pow_pos (by omega)); omega
        rw [le8_les _ _ hr, hrw]
        rw [hrw] at hwk
        exact wrap_u64n _ hwk.1 hwk.2

/-- What the document asks: the words are those of their bytes. -/
def refOkB (ws : List Wd) : Bool :=
  decide (0 < ws.length) && !((ws[0]?).getD (false, 0)).1 && decide (0 ≤ wat ws 0) && decide (wat ws 0 ≤ 8 * ws.length) && decide (nBytes ws ≤ 8 * (ws.length - 1)) && decide (pw (bytesTo ws (nBytes ws)) = ws)

theorem ref_iff (ws : List Wd) (hw : wfWs ws) : refOkB ws = arePackedB ws := by
  cases h : arePackedB ws with
  | true =>
    have hp := packed_pw ws hw h
    obtain ⟨hall, hlen, h0, hle, hwords, hrest⟩ := (arePackedB_iff ws).1 h
    have h1 : (ws[0]).1 = false := by
      have := List.all_eq_true.1 hall ws[0] (List.getElem_mem hlen)
      simpa using this
    unfold refOkB
    have h3 : wat ws 0 ≤ 8 * (ws.length : Int) := by omega
    have h4 : nBytes ws ≤ 8 * (ws.length - 1) := by unfold nBytes; omega
    simp [hlen, h1, h0, h3, h4, hp]
  | false =>
    cases hr : refOkB ws with
    | false => rfl
    | true =>
      unfold refOkB at hr
      simp only [Bool.and_eq_true, decide_eq_true_eq] at hr
      have := pw_packed (bytesTo ws (nBytes ws))
      rw [hr.2, h] at this
      cases this

/-- One word more, or one less. -/
theorem pw_more (b : List UInt8) (w : Wd) : arePackedB (pw b ++ [w]) = false := by
  have h0 : wat (pw b ++ [w]) 0 = b.length := by simp [wat, pw, packL, packTo]
  have hl : (pw b ++ [w]).length = 2 + packN b := by simp [pw_length]; omega
  cases h : arePackedB (pw b ++ [w]) with
  | false => rfl
  | true =>
    obtain ⟨_, _, _, _, h4, _⟩ := (arePackedB_iff _).1 h
    rw [h0, hl] at h4
    unfold packN at h4
    omega
theorem pw_less (b : List UInt8) : arePackedB ((pw b).take (packN b)) = false := by
  have hl : ((pw b).take (packN b)).length = packN b := by simp [pw_length]
  cases h : arePackedB ((pw b).take (packN b)) with
  | false => rfl
  | true =>
    obtain ⟨_, h1, _, _, h4, _⟩ := (arePackedB_iff _).1 h
    rw [hl] at h1 h4
    have h0 : wat ((pw b).take (packN b)) 0 = b.length := by
      have := pw_zero b
      unfold wat at this ⊢
      rw [List.getElem?_take, if_pos h1]
      exact this
    rw [h0] at h4
    unfold packN at h4
    omega
theorem shr_div (v i : Int) (h0 : 0 ≤ i) : IntKind.u64.wrap v / 2 ^ (8 * i).toNat = ((u64n v / 256 ^ i.toNat : Nat) : Int) := by
  obtain ⟨k, rfl⟩ := Int.eq_ofNat_of_zero_le h0
  rw [u64n_wrap, show (8 * (k : Int)).toNat = 8 * k from by omega, Int.toNat_natCast, ← shl8]
  norm_cast
theorem byte_val (v i : Int) (h0 : 0 ≤ i) : IntKind.u64.wrap v / 2 ^ (8 * i).toNat % 256 = ((byteVal v i).toNat : Int) := by
  unfold byteVal
  rw [shr_div v i h0]
  have : (UInt8.ofNat (u64n v / 256 ^ i.toNat % 256)).toNat = u64n v / 256 ^ i.toNat % 256 := by simp
  rw [this]
  omega
end Go.Proofs.Ytjhkblaplfhfcaa
