/-
  A number's bytes, by the code and by the document's answer.
-/
import Derived.Test.YthdnnlelmelegaaCodeA
import Derived.Laws.BitsAllLaws
namespace Go.Proofs.Ythdnnlelmelegaa
open Go.ChangeShapes Go.WideShapes Go.ChangeAt Go.RowKit
set_option linter.unusedVariables false

/-- The cells of bytes. -/
def u8s (l : List UInt8) : List Value := l.map fun b => .int .u8 b.toNat
theorem u8s_length (l : List UInt8) : (u8s l).length = l.length := by simp [u8s]
theorem u8s_append (a b : List UInt8) : u8s (a ++ b) = u8s a ++ u8s b := by simp [u8s]
theorem u8s_one (l : List UInt8) : ∀ u ∈ u8s l, u.oneCell' = true := by
  intro u hu; obtain ⟨_, _, rfl⟩ := List.mem_map.1 hu; rfl
theorem u8s_at (l : List UInt8) (k : Nat) (h : k < l.length) : (u8s l)[k]? = some (.int .u8 l[k].toNat) := by simp [u8s, h]
theorem elU8 : ElemTy Try.prog 29 5 (.int .u8 0) 1 1 := ⟨Try.underlying29, by kernel_rfl, rfl, by decide, by decide⟩

theorem or128 (a : Int) (h0 : 0 ≤ a) (h : a < 256) : bits .or .u8 a 128 = a % 128 + 128 := by
  obtain ⟨n, rfl⟩ : ∃ n : Nat, a = n := ⟨a.toNat, by omega⟩
  have hn : n < 256 := by omega
  rw [show (128 : Int) = ((128 : Nat) : Int) from rfl, u8_or_nat n 128 hn (by omega)]
  have key : ∀ m : Fin 256, m.val ||| 128 = m.val % 128 + 128 := by decide +kernel
  have := key ⟨n, hn⟩
  simp only at this
  rw [this]; omega

theorem numU_len : ∀ (k u : Nat), u < 128 ^ (k + 1) → (numU u).length ≤ k + 1
  | 0, u, h => by rw [numU_small u (by simpa using h)]; simp
  | k + 1, u, h => by
    by_cases hu : u < 128
    · rw [numU_small u hu]; simp
    · rw [numU_big u hu, List.length_cons]
      have := numU_len k (u / 128) (by rw [Nat.pow_succ] at h; omega)
      omega
theorem num_len (n : Int) (h : inRange n) : (num n).length ≤ 10 :=
  numU_len 9 (zz n) (by have := zz_lt n h.1 h.2; have h1 : (128 : Nat) ^ 10 = 1180591620717411303424 := by decide
                        omega)
theorem zz_neg (n : Int) (h : n < 0) : (2 * -(n + 1) + 1 : Int) = ((zz n : Nat) : Int) := by unfold zz; rw [if_pos h]; omega
theorem zz_pos (n : Int) (h : 0 ≤ n) : (n * 2 : Int) = ((zz n : Nat) : Int) := by unfold zz; rw [if_neg (by omega)]; omega
theorem zz_pos' (n : Int) (h : 0 ≤ n) : (2 * n : Int) = ((zz n : Nat) : Int) := by unfold zz; rw [if_neg (by omega)]; omega
theorem u64_max : IntKind.u64.max = 18446744073709551615 := by decide
theorem u64_wrap (n : Int) : IntKind.u64.wrap n = n % 18446744073709551616 := by simp [IntKind.wrap, IntKind.bits, IntKind.signed]
theorem xor_max (a : Nat) (h : a < 18446744073709551616) : 18446744073709551615 ^^^ a = 18446744073709551615 - a := by
  have h2 : 18446744073709551615 ^^^ a = 2 ^ 64 - (a + 1) := by
    apply Nat.eq_of_testBit_eq
    intro i
    rw [Nat.testBit_xor, Nat.testBit_two_pow_sub_succ h, show (18446744073709551615 : Nat) = 2 ^ 64 - 1 from rfl, Nat.testBit_two_pow_sub_one]
    by_cases hi : i < 64
    · simp [hi]
    · have h64 : 64 ≤ i := by omega
      have h2 : (2 : Nat) ^ 64 ≤ 2 ^ i := Nat.pow_le_pow_right (by decide) h64
      have hlt : a < 2 ^ i := Nat.lt_of_lt_of_le (show a < 2 ^ 64 from h) h2
      have : a.testBit i = false := Nat.testBit_lt_two_pow hlt
      simp [hi, this]
  rw [h2]; omega
theorem zz_xor (n : Int) (h : n < 0) (hr : -9223372036854775808 ≤ n) : bits .xor .u64 IntKind.u64.max (IntKind.u64.wrap (IntKind.u64.wrap n * 2)) = ((zz n : Nat) : Int) := by
  have e1 : IntKind.u64.wrap (IntKind.u64.wrap n * 2) = ((18446744073709551616 + 2 * n).toNat : Int) := by
    rw [u64_wrap, u64_wrap]; omega
  have hlt : (18446744073709551616 + 2 * n).toNat < 18446744073709551616 := by omega
  rw [e1, u64_max, show (18446744073709551615 : Int) = ((18446744073709551615 : Nat) : Int) from rfl, u64_xor_nat _ _ (by omega) hlt, xor_max _ hlt]
  unfold zz
  rw [if_pos h]; omega

theorem byte_big (u : Nat) : (UInt8.ofNat (u % 128 + 128)).toNat = u % 128 + 128 := by simp; omega
theorem byte_small (u : Nat) (h : u < 128) : (UInt8.ofNat u).toNat = u := by simp; omega

/-- How far a number's bytes have come. -/
structure NumAt (bs : List UInt8) (n : Int) (bs' : List UInt8) (u : Nat) : Prop where
  lt : u < 18446744073709551616
  eq : bs' ++ numU u = bs ++ num n
theorem NumAt.len {bs bs' : List UInt8} {n : Int} {u : Nat} (h : NumAt bs n bs' u) (hr : inRange n) : bs'.length + 1 ≤ bs.length + 10 := by
  have h1 := congrArg List.length h.eq
  have h2 := num_len n hr
  have h3 : 0 < (numU u).length := List.length_pos_iff.2 (numU_ne u)
  simp only [List.length_append] at h1
  omega
theorem NumAt.next {bs bs' : List UInt8} {n : Int} {u : Nat} (h : NumAt bs n bs' u) (hu : ¬ u < 128) : NumAt bs n (bs' ++ [UInt8.ofNat (u % 128 + 128)]) (u / 128) :=
  ⟨by have := h.lt; omega, by rw [← h.eq, numU_big u hu]; simp⟩
theorem NumAt.last {bs bs' : List UInt8} {n : Int} {u : Nat} (h : NumAt bs n bs' u) (hu : u < 128) : bs' ++ [UInt8.ofNat u] = bs ++ num n := by rw [← h.eq, numU_small u hu]
theorem one_u8 (x : Int) : ∀ u ∈ (#[Value.int .u8 x] : Array Value).toList, u.oneCell' = true := by
  intro u hu; simp at hu; subst hu; rfl
def valU : Value → Nat | .int _ n => n.toNat | _ => 0

theorem last_row {w : World} {B : Nat} {v : Value} {bs' : List UInt8} {u : Nat} (hu : u < 128) (h : w.ownsRow B 5 1 v (bs'.length + 1) (u8s bs' ++ [.int .u8 (u : Int)])) : w.ownsRow B 5 1 v (bs' ++ [UInt8.ofNat u]).length (u8s (bs' ++ [UInt8.ofNat u])) := by
  rw [u8s_append, show u8s [UInt8.ofNat u] = [.int .u8 (u : Int)] by simp only [u8s, List.map_cons, List.map_nil, byte_small u hu]]
  simpa using h
theorem big_row {w : World} {B : Nat} {v : Value} {bs' : List UInt8} {u : Nat} (h : w.ownsRow B 5 1 v (bs'.length + 1) (u8s bs' ++ [.int .u8 ((u : Int) % 128 + 128)])) : w.ownsRow B 5 1 v (bs' ++ [UInt8.ofNat (u % 128 + 128)]).length (u8s (bs' ++ [UInt8.ofNat (u % 128 + 128)])) := by
  rw [u8s_append, show u8s [UInt8.ofNat (u % 128 + 128)] = [.int .u8 ((u : Int) % 128 + 128)] by simp only [u8s, List.map_cons, List.map_nil, byte_big u]; rfl]
  simpa using h

/-- What a writing turns: the block X, and the row's own. -/
structure WK (X : Option Nat) (w : World) (v : Value) (w' : World) (v' : Value) : Prop where
  os : w'.os = w.os
  tape : w'.tape = w.tape
  output : w'.output = w.output
  size : w.heap.size ≤ w'.heap.size
  block : ∀ k, k < w.heap.size → some k ≠ X → some k ≠ v.ownBlock → w'.heap[k]? = w.heap[k]?
  own : v'.ownBlock = v.ownBlock ∨ ∃ g, v'.ownBlock = some g ∧ w.heap.size ≤ g
theorem WK.refl (X : Option Nat) (w : World) (v : Value) : WK X w v w v := ⟨rfl, rfl, rfl, Nat.le_refl _, fun _ _ _ _ => rfl, .inl rfl⟩
theorem WK.trans {X : Option Nat} {w w1 w2 : World} {v v1 v2 : Value} (h : WK X w v w1 v1) (k : WK X w1 v1 w2 v2) : WK X w v w2 v2 := by
  refine ⟨k.os.trans h.os, k.tape.trans h.tape, k.output.trans h.output, Nat.le_trans h.size k.size, fun i hi hX hv => ?_, ?_⟩
  · refine (k.block i (Nat.lt_of_lt_of_le hi h.size) hX ?_).trans (h.block i hi hX hv)
    rcases h.own with e | ⟨g, e, hg⟩
    · rw [e]; exact hv
    · rw [e]; intro h'; injection h' with h'; omega
  · rcases k.own with e | ⟨g, e, hg⟩
    · rcases h.own with e1 | ⟨g1, e1, hg1⟩
      · exact .inl (e.trans e1)
      · exact .inr ⟨g1, e.trans e1, hg1⟩
    · exact .inr ⟨g, e, Nat.le_trans h.size hg⟩
theorem WK.alloc {X : Option Nat} {w w1 : World} {v v1 : Value} (h : WK X w v w1 v1) (o : Obj) : WK X w v (w1.alloc o) v1 :=
  h.trans ⟨rfl, rfl, rfl, by simp, fun k hk _ _ => Below.heap_alloc w1 o k hk, .inl rfl⟩
theorem WK.app {X : Option Nat} {w w1 w2 : World} {v v1 v2 : Value} (h : WK X w v w1 v1) (hg : w1.grownBy w2 v1.ownBlock) (ho : v2.ownBlock = v1.ownBlock ∨ v2.ownBlock = some w1.heap.size) : WK X w v w2 v2 :=
  h.trans ⟨hg.os, hg.tape, hg.output, hg.size, fun k hk _ hv => hg.block k hk hv, by
    rcases ho with e | e
    · exact .inl e
    · exact .inr ⟨_, e, Nat.le_refl _⟩⟩
theorem WK.set {wb : Nat} {w w1 : World} {v v1 : Value} (h : WK (some wb) w v w1 v1) (u : Value) : WK (some wb) w v (w1.setCell ⟨wb, 0, none⟩ u) v1 :=
  h.trans ⟨by simp [World.setCell], by simp [World.setCell], by simp [World.setCell], by simp, fun k hk hX _ => Below.heap_setCell w1 _ u k (fun e => hX (by rw [e])), .inl rfl⟩
theorem WK.cell {X : Option Nat} {w w' : World} {v v' : Value} (h : WK X w v w' v') {p : Addr} {u : Value} (hX : some p.block ≠ X) (hv : some p.block ≠ v.ownBlock) (hc : w.cell? p = some u) : w'.cell? p = some u :=
  (World.cell?_of_block (h.block p.block (World.block_lt_of_cell? w p hc) hX hv)).trans hc
theorem WK.below {X : Option Nat} {w w' : World} {v v' : Value} (h : WK X w v w' v') {B : Nat} (hB : B ≤ w.heap.size) (hX : ∀ k, X = some k → B ≤ k) (hv : ∀ k, v.ownBlock = some k → B ≤ k) : Below B w w' :=
  ⟨h.os, h.tape, h.output, h.size, fun k hk => h.block k (Nat.lt_of_lt_of_le hk hB) (fun e => by have := hX k e.symm; omega) (fun e => by have := hv k e.symm; omega)⟩

set_option maxHeartbeats 400000 in
theorem refNumber_any (B : Nat) (v : Value) (bs : List UInt8) (n : Int) (w : World) (hr : inRange n) (hown : w.ownsRow B 5 1 v bs.length (u8s bs)) (hB : B ≤ w.heap.size) (hb : bs.length ≤ 1099511627776) :
    Calls Try.prog 24 #[v, .int .i64 n] w fun e w' => ∃ v', e = .returned v' ∧ w'.ownsRow B 5 1 v' (bs ++ num n).length (u8s (bs ++ num n)) ∧ WK none w v w' v' := by
  have HR := Lib.hid hr
  obtain ⟨hr1, hr2⟩ := hr
  have HZ : RowKit.Hid (zz n < 18446744073709551616) := Lib.hid (zz_lt n hr1 hr2)
  have hat : NumAt bs n bs (zz n) := ⟨HZ.out, rfl⟩
  have hb0 := WK.refl none w v
  by_cases h0 : n < 0
  all_goals
    go_enter Try.func24, Try.ntmps24
    go_wp2_with fail
    first
    | rw [zz_neg n (by omega)]
    | rw [zz_pos' n (by omega)]
    | rw [zz_pos n (by omega)]
    go_loopw [0, 5] (fun z i wr => ∃ (bs' : List UInt8) (u : Nat), i = .int .u64 u ∧ NumAt bs n bs' u ∧ wr.ownsRow B 5 1 z bs'.length (u8s bs') ∧ WK none w v wr z) (fun _ i _ => valU i)
    case atStart => exact ⟨bs, zz n, rfl, hat, hown, hb0⟩
    case round =>
      clear hat hown hb0
      obtain ⟨bs', u, rfl, hat, hown, hb0⟩ := hrel
      have hlt := hat.lt
      have hlen := hat.len HR.out
      have HAT := Lib.hid hat
      clear hat
      have hsz := hb0.size
      by_cases hu : u < 128
      · go_wp2_with (at_builtin; refine wpList_app elU8 _ rfl (.tmp 28) (.tmp 31) rfl B u0 bs'.length _ rfl (hown.alloc _) (some ⟨wr.heap.size, 0, none⟩) 1 1 _ rfl (Rd.lit wr _ _ rfl) (one_u8 _) (by omega) (by simp; omega) ?_; intro v' w6 hown6 hb6 hg6 ho6)
        go_returns
        have e := HAT.out.last hu
        have hl := congrArg List.length e
        have hown7 := last_row hu hown6
        rw [e] at hown7
        simp only [List.length_append] at hown7
        exact ⟨_, rfl, hown7, (hb0.alloc _).app hg6 ho6⟩
      · go_wp2_with (at_builtin; refine wpList_app elU8 _ rfl (.tmp 19) (.tmp 24) rfl B u0 bs'.length _ rfl (hown.alloc _) (some ⟨wr.heap.size, 0, none⟩) 1 1 _ rfl (Rd.lit wr _ _ rfl) (one_u8 _) (by omega) (by simp; omega) ?_; intro v' w6 hown6 hb6 hg6 ho6)
        go_roundw
        case rel => exact ⟨bs' ++ [UInt8.ofNat (u % 128 + 128)], u / 128, by go_num, HAT.out.next hu, big_row hown6, (hb0.alloc _).app hg6 ho6⟩
        case measure => simp [valU] <;> omega

/-- What the writer holds. -/
structure WB (w : World) (wb : Nat) (bs : List UInt8) (v : Value) : Prop where
  c : w.cell? ⟨wb, 0, none⟩ = some v
  f : w.frozen? ⟨wb, 0, none⟩ = false
  own : w.ownsRow (wb + 1) 5 1 v bs.length (u8s bs)
theorem wb_app {wr w6 : World} {o : Obj} {wb : Nat} {v : Value} (hc : wr.cell? ⟨wb, 0, none⟩ = some v) (hf : wr.frozen? ⟨wb, 0, none⟩ = false) (hb6 : Below (wb + 1) (wr.alloc o) w6) : w6.cell? ⟨wb, 0, none⟩ = some v ∧ w6.frozen? ⟨wb, 0, none⟩ = false :=
  ⟨(hb6.cell (p := ⟨wb, 0, none⟩) (Nat.lt_succ_self wb)).trans (cell_alloc hc), (hb6.frozen (p := ⟨wb, 0, none⟩) (Nat.lt_succ_self wb)).trans ((((Below.refl wr.heap.size wr).alloc (Nat.le_refl _) o).frozen (p := ⟨wb, 0, none⟩) (World.block_lt_of_cell? wr _ hc)).trans hf)⟩
theorem wb_set {w6 : World} {wb : Nat} {bs : List UInt8} {v v' : Value} (hc : w6.cell? ⟨wb, 0, none⟩ = some v) (hf : w6.frozen? ⟨wb, 0, none⟩ = false) (hown : w6.ownsRow (wb + 1) 5 1 v' bs.length (u8s bs)) : WB (w6.setCell ⟨wb, 0, none⟩ v') wb bs v' :=
  ⟨World.cell?_setCell_same _ _ _ hc, by rw [World.frozen?_setCell]; exact hf, ownsRow_setCell_below hown (Nat.lt_succ_self wb) _⟩
/-- Where a round of the writing of a number stands. -/
def WNum (wb : Nat) (bs : List UInt8) (n : Int) (w : World) (v0 : Value) (i : Value) (wr : World) : Prop :=
  ∃ (v : Value) (bs' : List UInt8) (u : Nat), i = .int .u64 u ∧ NumAt bs n bs' u ∧ WB wr wb bs' v ∧ WK (some wb) w v0 wr v

set_option maxHeartbeats 400000 in
theorem number_any (wb : Nat) (v : Value) (bs : List UInt8) (n : Int) (w : World) (hr : inRange n) (hw : WB w wb bs v) (hb : bs.length ≤ 1099511627776) :
    Calls Try.prog 18 #[.pointer (some ⟨wb, 0, none⟩), .int .i64 n] w fun e w' => e = .returned (.tuple #[]) ∧ (∃ v', WB w' wb (bs ++ num n) v' ∧ WK (some wb) w v w' v') := by
  have HR := Lib.hid hr
  obtain ⟨hr1, hr2⟩ := hr
  have HZ : RowKit.Hid (zz n < 18446744073709551616) := Lib.hid (zz_lt n hr1 hr2)
  have hat : NumAt bs n bs (zz n) := ⟨HZ.out, rfl⟩
  have hb0 := WK.refl (some wb) w v
  by_cases h0 : n < 0
  all_goals
    go_enter Try.func18, Try.ntmps18
    go_wp2_with fail
    first
    | rw [zz_xor n (by omega) (by omega)]
    | rw [zz_pos n (by omega)]
    go_loopw [4] (fun i wr => WNum wb bs n w v i wr) (fun i _ => valU i)
    case atStart => exact ⟨_, bs, zz n, rfl, hat, hw, hb0⟩
    case round =>
      clear hat hb0 hw
      obtain ⟨v1, bs', u, rfl, hat, hw, hb0⟩ := hrel
      have hlt := hat.lt
      have hlen := hat.len HR.out
      have HAT := Lib.hid hat
      clear hat
      have hsz := hb0.size
      obtain ⟨hc, hf, hown⟩ := hw
      have hwb : wb < wr.heap.size := World.block_lt_of_cell? wr _ hc
      obtain ⟨A1, c1, rfl, hnc1, hcm1, _⟩ := own_cap hown
      have HSZ := Lib.hid (And.intro hsz (And.intro hwb hlen))
      clear hlt
      by_cases hu0 : u < 128
      · have hu : decide ((128 : Int) ≤ (u : Int)) = false := decide_eq_false (by omega)
        have hw8 : IntKind.u8.wrap (u : Int) = (u : Int) := by rw [IntKind.wrap_u8']; omega
        have HU := Lib.hid hu0
        clear hu0
        go_wp2_with (at_builtin; refine wpList_app elU8 _ rfl (.tmp 32) (.tmp 35) rfl (wb + 1) (.slice A1 bs'.length c1) bs'.length _ rfl (hown.alloc _) (some ⟨wr.heap.size, 0, none⟩) 1 1 _ rfl (Rd.lit wr _ _ rfl) (one_u8 _) (by omega) (by simp; omega) ?_; intro v' w6 hown6 hb6 hg6 ho6; obtain ⟨hc6, hf6⟩ := wb_app hc hf hb6; obtain ⟨A6, c6, hv6, _⟩ := own_cap hown6; rw [hv6] at hown6 ho6 ⊢; clear hv6)
        go_returns
        have e := HAT.out.last HU.out
        have hown7 := last_row HU.out hown6
        rw [e] at hown7
        exact ⟨rfl, _, wb_set hc6 hf6 hown7, ((hb0.alloc _).app hg6 ho6).set _⟩
      · have hu : decide ((128 : Int) ≤ (u : Int)) = true := decide_eq_true (by omega)
        have hor : bits .or .u8 ((u : Int) % 256) 128 = (u : Int) % 128 + 128 := by rw [or128 _ (by omega) (by omega)]; omega
        have HU := Lib.hid hu0
        clear hu0
        go_wp2_with (at_builtin; refine wpList_app elU8 _ rfl (.tmp 20) (.tmp 24) rfl (wb + 1) (.slice A1 bs'.length c1) bs'.length _ rfl (hown.alloc _) (some ⟨wr.heap.size, 0, none⟩) 1 1 _ rfl (Rd.lit wr _ _ rfl) (one_u8 _) (by omega) (by simp; omega) ?_; intro v' w6 hown6 hb6 hg6 ho6; obtain ⟨hc6, hf6⟩ := wb_app hc hf hb6; obtain ⟨A6, c6, hv6, _⟩ := own_cap hown6; rw [hv6] at hown6 ho6 ⊢; clear hv6)
        go_roundw
        case rel => exact ⟨_, bs' ++ [UInt8.ofNat (u % 128 + 128)], u / 128, by go_num, HAT.out.next HU.out, wb_set hc6 hf6 (big_row hown6), ((hb0.alloc _).app hg6 ho6).set _⟩
        case measure => have := HU.out; simp [valU] <;> omega
end Go.Proofs.Ythdnnlelmelegaa
