/-
  Reading: what the reader holds; a number is read.
-/
import Derived.Test.YthdnnlelmelegaaCodeP
import Derived.Laws.DeepNot64
namespace Go.Proofs.Ythdnnlelmelegaa
open Go.ChangeShapes Go.WideShapes Go.ChangeAt Go.RowKit
set_option linter.unusedVariables false

theorem andNot128 (n : Nat) (h : n < 256) : bits .andNot .u8 (n : Int) 128 = ((n % 128 : Nat) : Int) := by
  rw [show (128 : Int) = ((128 : Nat) : Int) from rfl, u8_andNot_nat n 128 h (by omega)]
  have key : ∀ m : Fin 256, m.val &&& (255 - 128) = m.val % 128 := by decide +kernel
  have := key ⟨n, h⟩
  simp only at this
  rw [this]
/-- What a reading turns: the reader's own block. -/
abbrev RK (rb : Nat) (w w' : World) : Prop := WK (some rb) w .nilIface w' .nilIface
theorem RK.refl (rb : Nat) (w : World) : RK rb w w := WK.refl _ _ _
theorem RK.set {rb : Nat} {w w1 : World} (h : RK rb w w1) (j : Nat) (u : Value) : RK rb w (w1.setCell ⟨rb, j, none⟩ u) :=
  h.trans ⟨by simp [World.setCell], by simp [World.setCell], by simp [World.setCell], by simp, fun k hk hX _ => Below.heap_setCell w1 _ u k (fun e => hX (by rw [e])), .inl rfl⟩
theorem RK.of_below {rb : Nat} {w w1 w2 : World} (h : RK rb w w1) (k : Below w1.heap.size w1 w2) : RK rb w w2 :=
  h.trans ⟨k.os, k.tape, k.output, k.size, fun i hi _ _ => k.block i hi, .inl rfl⟩
theorem RK.at_ {rb : Nat} {w w' : World} (h : RK rb w w') {p : Addr} {u : Value} (hp : p.block ≠ rb) (hc : w.cell? p = some u) : w'.cell? p = some u :=
  h.cell (fun e => hp (by injection e)) (by simp [Value.ownBlock]) hc
theorem RK.below {rb : Nat} {w w' : World} (h : RK rb w w') {B : Nat} (hB : B ≤ rb) (hs : B ≤ w.heap.size) : Below B w w' :=
  WK.below h hs (fun k e => by injection e with e; omega) (fun k e => by simp [Value.ownBlock] at e)
theorem Held.rk {rb : Nat} {w w' : World} {a : Addr} {cs : List Value} (h : Held w a cs) (k : RK rb w w') (ha : a.block ≠ rb) : Held w' a cs :=
  fun j u hu => k.at_ (by rw [add_block]; exact ha) (h j u hu)
theorem Rd.rk {rb : Nat} {w w' : World} {size n : Nat} {A : Option Addr} {cs : List Value} (h : Rd w size A n cs) (k : RK rb w w') (ha : 0 < cs.length → ∀ a, A = some a → a.block ≠ rb) : Rd w' size A n cs :=
  ⟨h.1, fun h0 => let ⟨a, e, hh⟩ := h.2 h0; ⟨a, e, hh.rk k (ha h0 a e)⟩⟩

/-- What the reader holds: the bytes that are left, and whether they are amiss. -/
structure RS (w : World) (rb : Nat) (s : List UInt8) (bad : Bool) (A : Option Addr) (c : Nat) : Prop where
  c0 : w.cell? ⟨rb, 0, none⟩ = some (.slice A s.length c)
  c1 : w.cell? ⟨rb, 1, none⟩ = some (.bool bad)
  f0 : w.frozen? ⟨rb, 0, none⟩ = false
  f1 : w.frozen? ⟨rb, 1, none⟩ = false
  rd : Rd w 1 A s.length (u8s s)
  cap : s.length ≤ c ∧ c ≤ maxLen
  lt : 0 < s.length → ∀ a, A = some a → a.block < rb
def RSt (w : World) (rb : Nat) (s : List UInt8) (bad : Bool) : Prop := ∃ A c, RS w rb s bad A c

theorem rs_set {w : World} {rb : Nat} {s s' : List UInt8} {bad : Bool} {A A' : Option Addr} {c c' : Nat} (h : RS w rb s bad A c) (hrd : Rd w 1 A' s'.length (u8s s')) (hc : s'.length ≤ c' ∧ c' ≤ maxLen) (hl : 0 < s'.length → ∀ a, A' = some a → a.block < rb) :
    RS (w.setCell ⟨rb, 0, none⟩ (.slice A' s'.length c')) rb s' bad A' c' := by
  have hk : RK rb w (w.setCell ⟨rb, 0, none⟩ (.slice A' s'.length c')) := (RK.refl rb w).set 0 _
  exact ⟨World.cell?_setCell_same _ _ _ h.c0, by rw [World.cell?_setCell_other _ _ _ _ (by simp)]; exact h.c1, by rw [World.frozen?_setCell]; exact h.f0, by rw [World.frozen?_setCell]; exact h.f1, hrd.rk hk (fun h0 a e => by have := hl (by rwa [u8s_length] at h0) a e; omega), hc, hl⟩
theorem RS.below {w w' : World} {rb : Nat} {s : List UInt8} {bad : Bool} {A : Option Addr} {c : Nat} (h : RS w rb s bad A c) (hb : Below w.heap.size w w') : RS w' rb s bad A c :=
  ⟨cell_below hb h.c0, cell_below hb h.c1, (hb.frozen (p := ⟨rb, 0, none⟩) (World.block_lt_of_cell? w _ h.c0)).trans h.f0, (hb.frozen (p := ⟨rb, 1, none⟩) (World.block_lt_of_cell? w _ h.c1)).trans h.f1, h.rd.below hb, h.cap, h.lt⟩
theorem rd_dropU {w : World} {b o n : Nat} {l : List UInt8} (h : Rd w 1 (some ⟨b, o, none⟩) n (u8s l)) (k : Nat) (hk : k ≤ n) : Rd w 1 (some ⟨b, o + k, none⟩) (l.drop k).length (u8s (l.drop k)) := by
  have hl : l.length = n := by have := h.1; rw [u8s_length] at this; omega
  have h1 := h.cut (lo := k) (hi := n) (k := k) hk (Nat.le_refl _) (by omega)
  have e : ((u8s l).drop (k * 1)).take ((n - k) * 1) = u8s (l.drop k) := by
    rw [Nat.mul_one, Nat.mul_one]
    unfold u8s
    rw [← List.map_drop, ← List.map_take, List.take_of_length_le (by rw [List.length_drop]; omega)]
  rw [e] at h1
  rw [List.length_drop, hl]
  simp only [Option.map_some] at h1
  have e2 : (⟨b, o, none⟩ : Addr).add k = ⟨b, o + k, none⟩ := Addr.add_lit ..
  rw [e2] at h1
  exact h1
theorem rs_drop {w : World} {rb b o : Nat} {s : List UInt8} {bad : Bool} {c : Nat} (h : RS w rb s bad (some ⟨b, o, none⟩) c) (k : Nat) (hk : k ≤ s.length) :
    RSt (w.setCell ⟨rb, 0, none⟩ (.slice (some ⟨b, o + k, none⟩) (s.length - k) (c - k))) rb (s.drop k) bad := by
  rw [← List.length_drop]
  have hc := h.cap
  exact ⟨_, _, rs_set h (rd_dropU h.rd k hk) ⟨by rw [List.length_drop]; omega, by omega⟩ (fun h0 a e => by injection e with e; subst e; exact h.lt (by rw [List.length_drop] at h0; omega) ⟨b, o, none⟩ rfl)⟩
theorem rs_drop_nil {w : World} {rb : Nat} {s : List UInt8} {bad : Bool} {A : Option Addr} {c : Nat} (h : RS w rb s bad A c) (k : Nat) (hk : s.length ≤ k) :
    RSt (w.setCell ⟨rb, 0, none⟩ (.slice A (s.length - k) 0)) rb (s.drop k) bad := by
  have e : s.drop k = [] := List.drop_eq_nil_of_le hk
  have e2 : s.length - k = ([] : List UInt8).length := by simp; omega
  rw [e, e2]
  exact ⟨_, _, rs_set h (Rd.nil _ _ _) ⟨Nat.le_refl _, by simp [maxLen]⟩ (fun h0 => by cases h0)⟩
theorem rs_fail {w : World} {rb : Nat} {s : List UInt8} {bad : Bool} {A : Option Addr} {c : Nat} (h : RS w rb s bad A c) :
    RS ((w.setCell ⟨rb, 1, none⟩ (.bool true)).setCell ⟨rb, 0, none⟩ (.slice none 0 0)) rb [] true none 0 := by
  have h0 : (w.setCell ⟨rb, 1, none⟩ (.bool true)).cell? ⟨rb, 0, none⟩ = some (.slice A s.length c) := by
    rw [World.cell?_setCell_other _ _ _ _ (by simp)]; exact h.c0
  refine ⟨World.cell?_setCell_same _ _ _ h0, ?_, ?_, ?_, Rd.nil _ _ _, ⟨Nat.le_refl _, by simp [maxLen]⟩, fun h0 a e => by cases e⟩
  · rw [World.cell?_setCell_other _ _ _ _ (by simp)]; exact World.cell?_setCell_same _ _ _ h.c1
  · rw [World.frozen?_setCell, World.frozen?_setCell]; exact h.f0
  · rw [World.frozen?_setCell, World.frozen?_setCell]; exact h.f1

theorem fail_any (rb : Nat) (s : List UInt8) (bad : Bool) (w : World) (h : RSt w rb s bad) :
    Calls Try.prog 42 #[.pointer (some ⟨rb, 0, none⟩)] w fun e w' => e = .returned (.tuple #[]) ∧ RSt w' rb [] true ∧ RK rb w w' := by
  obtain ⟨A, c, hs⟩ := h
  have c0 := hs.c0
  have c1 := hs.c1
  have f0 := hs.f0
  have f1 := hs.f1
  have HS := Lib.hid hs
  clear hs
  go_enter Try.func42, Try.ntmps42
  go_wp2_with fail
  go_returns
  exact ⟨rfl, ⟨none, 0, rs_fail HS.out⟩, ((RK.refl rb w).set 1 _).set 0 _⟩

/-- What a reading of one thing comes to. -/
def Step {α : Type} (p : List UInt8 → Option (α × List UInt8)) (s : List UInt8) (bad : Bool) (rb : Nat) (w' : World) (x : α) : Prop :=
  (bad = false ∧ ∃ r, p s = some (x, r) ∧ RSt w' rb r false) ∨ ((bad = true ∨ p s = none) ∧ RSt w' rb [] true)

theorem or_at (k U cn : Nat) (hk : k ≤ 9) (hU : U < 128 ^ k) (hc : cn < 128 ∨ k ≤ 8) (h9 : k = 9 → cn ≤ 1) (h256 : cn < 256) :
    bits .or .u64 (U : Int) (IntKind.u64.wrap ((cn : Int) % 128 * 2 ^ (7 * k))) = ((U + cn % 128 * 128 ^ k : Nat) : Int) := by
  have e128 : (128 : Nat) ^ k = 2 ^ (7 * k) := by rw [Nat.pow_mul]
  have hp : cn % 128 * 128 ^ k < 18446744073709551616 := by
    rcases Nat.lt_or_ge k 9 with h | h
    · have h1 : (128 : Nat) ^ k ≤ 128 ^ 8 := Nat.pow_le_pow_right (by omega) (by omega)
      have h8 : (128 : Nat) ^ 8 = 72057594037927936 := by decide
      have : cn % 128 * 128 ^ k ≤ 127 * 128 ^ 8 := Nat.mul_le_mul (by omega) h1
      omega
    · obtain rfl : k = 9 := by omega
      have h1 : (128 : Nat) ^ 9 = 9223372036854775808 := by decide
      have := h9 rfl
      rw [h1]; omega
  have hu : U < 18446744073709551616 := by
    have h1 : (128 : Nat) ^ k ≤ 128 ^ 9 := Nat.pow_le_pow_right (by omega) hk
    have h9' : (128 : Nat) ^ 9 = 9223372036854775808 := by decide
    omega
  have ew : IntKind.u64.wrap ((cn : Int) % 128 * 2 ^ (7 * k)) = ((cn % 128 * 128 ^ k : Nat) : Int) := by
    have e1 : ((cn : Int) % 128 * 2 ^ (7 * k)) = ((cn % 128 * 128 ^ k : Nat) : Int) := by
      rw [e128]; push_cast; rfl
    rw [e1, u64_wrap]; omega
  rw [ew, u64_or_nat _ _ hu hp]
  congr 1
  have h2 := Nat.two_pow_add_eq_or_of_lt (i := 7 * k) (b := U) (by rw [← e128]; exact hU) (cn % 128)
  rw [Nat.or_comm, Nat.mul_comm, e128, ← h2]; omega

theorem xor_zero (a : Nat) (h : a < 9223372036854775808) : bits .xor .i64 (a : Int) 0 = (a : Int) := by
  show IntKind.i64.wrap ((BitVec.ofInt 64 (a : Int) ^^^ BitVec.ofInt 64 0).toNat : Int) = _
  rw [show BitVec.ofInt 64 0 = 0#64 from rfl, BitVec.xor_zero, ofInt_u64 a (by omega), IntKind.wrap_i64]; omega
theorem xor_neg (a : Nat) (h : a < 9223372036854775808) : bits .xor .i64 (a : Int) (-1) = -1 - (a : Int) := by
  rw [← i64_not a h]
  show IntKind.i64.wrap ((BitVec.ofInt 64 (a : Int) ^^^ BitVec.ofInt 64 (-1)).toNat : Int) = IntKind.i64.wrap ((BitVec.ofInt 64 (-1) ^^^ BitVec.ofInt 64 (a : Int)).toNat : Int)
  rw [BitVec.xor_comm]
theorem unz_bits (u : Nat) (h : u < 18446744073709551616) : bits .xor .i64 (wrap64 ((u : Int) / 2)) (wrap64 (-wrap64 (bits .and .u64 (u : Int) 1))) = unzz u := by
  have e1 : bits .and .u64 (u : Int) 1 = ((u % 2 : Nat) : Int) := by
    rw [show (1 : Int) = ((1 : Nat) : Int) from rfl, u64_and_nat u 1 h (by omega), nat_mask1]
  have e2 : wrap64 ((u : Int) / 2) = ((u / 2 : Nat) : Int) := by unfold wrap64; omega
  rw [e1, e2]
  unfold unzz
  rcases Nat.mod_two_eq_zero_or_one u with h2 | h2
  · rw [h2, if_pos rfl, show wrap64 (-wrap64 ((0 : Nat) : Int)) = 0 by unfold wrap64; omega]
    exact xor_zero _ (by omega)
  · rw [h2, if_neg (by omega), show wrap64 (-wrap64 ((1 : Nat) : Int)) = -1 by unfold wrap64; omega]
    rw [xor_neg _ (by omega)]; omega
theorem at_lt {k U cn U' : Nat} (hk : k ≤ 9) (hU : U < 128 ^ k) (h9 : k = 9 → cn ≤ 1) (hc : cn < 128) (e : U + cn % 128 * 128 ^ k = U') : U' < 18446744073709551616 := by
  rcases Nat.lt_or_ge k 9 with h | h
  · have h1 : (128 : Nat) ^ (k + 1) ≤ 128 ^ 9 := Nat.pow_le_pow_right (by omega) (by omega)
    have h9' : (128 : Nat) ^ 9 = 9223372036854775808 := by decide
    have : cn % 128 * 128 ^ k ≤ 127 * 128 ^ k := Nat.mul_le_mul_right _ (by omega)
    rw [Nat.pow_succ] at h1; omega
  · obtain rfl : k = 9 := by omega
    have h1 : (128 : Nat) ^ 9 = 9223372036854775808 := by decide
    have := h9 rfl
    rw [h1] at hU e; omega

theorem drop_cons {s : List UInt8} {k : Nat} (h : k < s.length) : s.drop k = s[k] :: s.drop (k + 1) := List.drop_eq_getElem_cons h
theorem rd_of (s : List UInt8) : rd s = (rdU 0 0 s).map fun x => (unzz x.1, x.2) := rfl

set_option maxRecDepth 100000 in
set_option maxHeartbeats 400000 in
theorem rnumber_any (rb : Nat) (s : List UInt8) (bad : Bool) (w : World) (h : RSt w rb s bad) (hbad : bad = true → s = []) (hl : s.length ≤ 1099511627776) :
    Calls Try.prog 33 #[.pointer (some ⟨rb, 0, none⟩)] w fun e w' => ∃ n, e = .returned (.int .i64 n) ∧ inRange n ∧ Step rd s bad rb w' n ∧ (bad = true ∨ rd s = none → n = 0) ∧ RK rb w w' := by
  obtain ⟨A, c, hs⟩ := h
  have c0 := hs.c0
  have HS := Lib.hid hs
  clear hs
  go_enter Try.func33, Try.ntmps33
  go_wp2_with fail
  go_loopw [3, 12] (fun z i wr => ∃ (k U : Nat), z = .int .u64 U ∧ i = .int .i64 k ∧ k ≤ s.length ∧ k ≤ 9 ∧ U < 128 ^ k ∧ rdU 0 0 s = rdU k U (s.drop k) ∧ Below w.heap.size w wr) (fun _ i _ => s.length - (intOf i).toNat)
  case atStart => exact ⟨0, 0, rfl, rfl, by omega, by omega, by simp, by simp, Below.refl _ _⟩
  case round =>
    obtain ⟨k, U, rfl, rfl, hk, hk9, hU, hrd, hb⟩ := hrel
    by_cases hlt : k < s.length
    · have hcell : ∃ b o, A = some ⟨b, o, none⟩ ∧ wr.cell? ⟨b, o + k, none⟩ = some (.int .u8 s[k].toNat) := by
        obtain ⟨b, o, e, _, hh⟩ := (HS.out.rd.below hb).base (by rw [u8s_length]; omega)
        exact ⟨b, o, e, hh k _ (u8s_at s k hlt)⟩
      obtain ⟨b, o, e, g0⟩ := hcell
      have HU := Lib.hid (And.intro hU hrd)
      have HE := Lib.hid e
      clear hU hrd
      obtain ⟨ch, hch⟩ : ∃ ch, s[k] = ch := ⟨_, rfl⟩
      rw [hch] at g0
      have h256 : ch.toNat < 256 := ch.toNat_lt
      obtain ⟨cn, hcn⟩ : ∃ cn, ch.toNat = cn := ⟨_, rfl⟩
      rw [hcn] at g0 h256
      have HC := Lib.hid (And.intro hch hcn)
      clear hch hcn
      by_cases hstop : (k = 9 ∧ 1 < cn) ∨ (0 < k ∧ cn = 0)
      · have hno : rd s = none := by
          rw [rd_of, HU.out.2, drop_cons hlt, HC.out.1, rdU, HC.out.2, if_pos hstop]; rfl
        have h9c : ((k : Int) == 9) = true ∧ decide (1 < (cn : Int)) = true ∨ (((k : Int) == 9) = false ∨ ((k : Int) == 9) = true ∧ decide (1 < (cn : Int)) = false) ∧ 0 < k ∧ ((cn : Int) == 0) = true := by
          by_cases h : k = 9 ∧ 1 < cn
          · exact .inl ⟨by rw [h.1]; rfl, decide_eq_true (by omega)⟩
          · refine .inr ⟨?_, ?_⟩
            · by_cases h9 : k = 9
              · exact .inr ⟨by rw [h9]; rfl, decide_eq_false (fun h' => h ⟨h9, by omega⟩)⟩
              · exact .inl (by rw [beq_eq_false_iff_ne]; omega)
            · rcases hstop with h' | h'
              · exact absurd h' h
              · exact ⟨h'.1, by rw [h'.2]; rfl⟩
        have qa : bits .andNot .u8 (cn : Int) 128 = ((cn % 128 : Nat) : Int) := andNot128 cn h256
        have HNO := Lib.hid (And.intro hno hb)
        clear hstop h256 hno
        have HR := Lib.hid (HS.out.below hb)
        rcases h9c with ⟨r1, r2⟩ | ⟨r1 | ⟨r1, r2⟩, r3, r4⟩
        all_goals
          go_wp2_with fail
          refine (fail_any rb s bad _ ⟨_, _, HR.out⟩).mono ?_
          rintro e5 w5 ⟨rfl, h1, h2⟩
          go_wp2_with fail
          go_returns
          exact ⟨0, rfl, by unfold inRange; omega, .inr ⟨.inr HNO.out.1, h1⟩, (fun _ => rfl), (RK.refl rb w).of_below HNO.out.2 |>.trans h2⟩
      · have hpl : U + cn % 128 * 128 ^ k < 128 ^ (k + 1) := by
          have h1 := HU.out.1
          have : cn % 128 * 128 ^ k ≤ 127 * 128 ^ k := Nat.mul_le_mul_right _ (by omega)
          rw [Nat.pow_succ]; omega
        by_cases hsm : cn < 128
        · have qor := or_at k U cn hk9 HU.out.1 (.inl hsm) (fun h => by rcases Nat.lt_or_ge 1 cn with h' | h'; exact absurd (.inl ⟨h, h'⟩) hstop; exact h') h256
          obtain ⟨U', hU'⟩ : ∃ U', U + cn % 128 * 128 ^ k = U' := ⟨_, rfl⟩
          rw [hU'] at qor hpl
          have q1 : decide ((cn : Int) < 128) = true := decide_eq_true (by omega)
          have qa : bits .andNot .u8 (cn : Int) 128 = ((cn % 128 : Nat) : Int) := andNot128 cn h256
          have HN := Lib.hid (And.intro hstop (And.intro hsm (And.intro h256 (And.intro hU' hpl))))
          have hcs := HS.out.cap
          have h9c : ¬ (k : Int) = 9 ∨ ((k : Int) == 9) = true ∧ decide (1 < (cn : Int)) = false := by
            by_cases h : k = 9
            · refine .inr ⟨by rw [h]; rfl, decide_eq_false (fun h' => hstop (.inl ⟨h, by omega⟩))⟩
            · exact .inl (by omega)
          have h0c : ¬ 0 < k ∨ 0 < k ∧ ((cn : Int) == 0) = false := by
            by_cases h : 0 < k
            · refine .inr ⟨h, by rw [beq_eq_false_iff_ne]; exact fun h' => hstop (.inr ⟨h, by omega⟩)⟩
            · exact .inl h
          have c0r := cell_below hb c0
          have f0r : wr.frozen? ⟨rb, 0, none⟩ = false := (hb.frozen (p := ⟨rb, 0, none⟩) (World.block_lt_of_cell? w _ c0)).trans HS.out.f0
          have hrd2 : rdU k U (s.drop k) = some (U', s.drop (k + 1)) := by
            rw [drop_cons hlt, HC.out.1]
            have hm : cn % 128 = cn := by omega
            rw [rdU, HC.out.2, if_neg hstop, if_pos hsm, ← hU', hm]
          have hlt64 := at_lt hk9 HU.out.1 (fun h => by rcases Nat.lt_or_ge 1 cn with h' | h'; exact absurd (.inl ⟨h, h'⟩) hstop; exact h') hsm hU'
          have hunz := unz_bits U' hlt64
          have HRD : RowKit.Hid (rd s = some (unzz U', s.drop (k + 1)) ∧ inRange (unzz U') ∧ ¬ s = []) := Lib.hid ⟨by rw [rd_of, HU.out.2, hrd2]; rfl, unzz_ge U' hlt64, by intro h; rw [h] at hlt; simp at hlt⟩
          have hbad2 : bad = false := by
            cases hbb : bad with
            | false => rfl
            | true => exact absurd (hbad hbb) HRD.out.2.2
          have HB := Lib.hid (And.intro hbad2 (And.intro hb hunz))
          have hsk : (s.drop (k + 1)).length = s.length - (k + 1) := List.length_drop
          have HSK := Lib.hid (And.intro hsk hcs)
          clear hstop hsm h256 hU' hpl hrd2 hlt64 hunz hbad2 hsk hbad
          rcases h9c with r1 | ⟨r1, r2⟩ <;> rcases h0c with t1 | ⟨t1, t2⟩
          all_goals
            go_wp2_with fail
            all_goals
              go_returns
              rw [HB.out.2.2]
              refine ⟨unzz U', rfl, HRD.out.2.1, .inl ⟨HB.out.1, s.drop (k + 1), HRD.out.1, ?_⟩, (fun h => by rcases h with h | h; rw [HB.out.1] at h; cases h; rw [HRD.out.1] at h; cases h), ?_⟩
              · have hR := HS.out.below HB.out.2.1
                have hbf := HB.out.1
                rw [hbf] at hR
                rw [HE.out] at hR
                have hcc := HSK.out.2
                first
                | exact rs_drop hR (k + 1) (by omega)
                | exact rs_drop_nil hR (k + 1) (by omega)
              · exact ((RK.refl rb w).of_below HB.out.2.1).set 0 _
        · have qor := or_at k U cn hk9 HU.out.1 (.inr (by omega)) (fun h => by omega) h256
          have hrd2 : rdU k U (s.drop k) = rdU (k + 1) (U + cn % 128 * 128 ^ k) (s.drop (k + 1)) := by
            rw [drop_cons hlt, HC.out.1]
            rw [rdU, HC.out.2, if_neg (by rintro (⟨h, h'⟩ | ⟨h, h'⟩); omega; omega), if_neg hsm]
          obtain ⟨U', hU'⟩ : ∃ U', U + cn % 128 * 128 ^ k = U' := ⟨_, rfl⟩
          rw [hU'] at qor hrd2 hpl
          have q9' : ((k : Int) == 9) = false := by rw [beq_eq_false_iff_ne]; omega
          have q0' : ((cn : Int) == 0) = false := by rw [beq_eq_false_iff_ne]; omega
          have q1 : decide ((cn : Int) < 128) = false := decide_eq_false (by omega)
          have qa : bits .andNot .u8 (cn : Int) 128 = ((cn % 128 : Nat) : Int) := andNot128 cn h256
          have hk8 : k + 1 ≤ 9 := by omega
          have qk : 0 < k ∨ ¬ 0 < k := Nat.lt_or_ge 0 k |>.imp id (fun h => by omega)
          have HN := Lib.hid (And.intro hrd2 (And.intro hk8 hpl))
          clear hstop hsm h256 hrd2 hk8 hpl hU'
          rcases qk with qk | qk
          all_goals
            go_wp2_with fail
            go_roundw
            case rel => exact ⟨k + 1, U', rfl, by go_num, by omega, HN.out.2.1, HN.out.2.2, by rw [HU.out.2]; exact HN.out.1, hb⟩
            case measure => simp [intOf] <;> omega
    · have hno : rd s = none := by
        rw [rd_of, hrd, List.drop_eq_nil_of_le (by omega)]; rfl
      have HNO := Lib.hid (And.intro hno hb)
      have HR := Lib.hid (HS.out.below hb)
      clear hrd hno hU
      go_wp2_with fail
      refine (fail_any rb s bad _ ⟨_, _, HR.out⟩).mono ?_
      rintro e5 w5 ⟨rfl, h1, h2⟩
      go_wp2_with fail
      go_returns
      exact ⟨0, rfl, by unfold inRange; omega, .inr ⟨.inr HNO.out.1, h1⟩, (fun _ => rfl), (RK.refl rb w).of_below HNO.out.2 |>.trans h2⟩
end Go.Proofs.Ythdnnlelmelegaa
