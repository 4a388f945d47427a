/-
  Reading: a count, an integer; lists as plain mathematics.
-/
import Derived.Test.YthdnnlelmelegaaCodeS
import Derived.Test.YthdnnlelmelegaaCodeL
namespace Go.Proofs.Ythdnnlelmelegaa
open Go.ChangeShapes Go.WideShapes Go.ChangeAt Go.RowKit
set_option linter.unusedVariables false

/-- A count: no more than bytes are left. -/
def cntP (s : List UInt8) : Option (Nat × List UInt8) :=
  match rd s with
  | some (n, r) => if 0 ≤ n ∧ n ≤ r.length then some (n.toNat, r) else none
  | none => none
def plistN {α : Type} (p : List UInt8 → Option (α × List UInt8)) : Nat → List UInt8 → Option (List α × List UInt8)
  | 0, s => some ([], s)
  | n + 1, s =>
    match p s with
    | none => none
    | some (x, r) =>
      match plistN p n r with
      | none => none
      | some (l, r') => some (x :: l, r')
def plist {α : Type} (p : List UInt8 → Option (α × List UInt8)) (s : List UInt8) : Option (List α × List UInt8) :=
  match cntP s with
  | none => none
  | some (n, r) => plistN p n r

theorem rd_len (s : List UInt8) (n : Int) (r : List UInt8) (h : rd s = some (n, r)) : r.length < s.length := by
  have := (rd_back s (n, r) h).1
  rw [this]
  have := List.length_pos_iff.2 (num_ne n)
  simp; omega
theorem rd_nil : rd [] = none := rfl
theorem cnt_nil : cntP [] = none := rfl

theorem rint_any (rb : Nat) (s : List UInt8) (bad : Bool) (w : World) (h : RSt w rb s bad) (hbad : bad = true → s = []) (hl : s.length ≤ 1099511627776) :
    Calls Try.prog 43 #[.pointer (some ⟨rb, 0, none⟩)] w fun e w' => ∃ n, e = .returned (.int .i64 n) ∧ inRange n ∧ Step rd s bad rb w' n ∧ RK rb w w' := by
  go_enter Try.func43, Try.ntmps43
  go_wp2_with fail
  refine (rnumber_any rb s bad w h hbad hl).mono ?_
  rintro e w1 ⟨n, rfl, hn, h1, _, h2⟩
  go_wp2_with fail
  go_returns
  exact ⟨n, rfl, hn, h1, h2⟩

theorem rcount_any (rb : Nat) (s : List UInt8) (bad : Bool) (w : World) (h : RSt w rb s bad) (hbad : bad = true → s = []) (hl : s.length ≤ 1099511627776) :
    Calls Try.prog 41 #[.pointer (some ⟨rb, 0, none⟩)] w fun e w' => ∃ n : Nat, e = .returned (.int .i64 n) ∧ Step cntP s bad rb w' n ∧ ((bad = true ∨ cntP s = none) → n = 0) ∧ RK rb w w' := by
  go_enter Try.func41, Try.ntmps41
  go_wp2_with fail
  refine (rnumber_any rb s bad w h hbad hl).mono ?_
  rintro e w1 ⟨n, rfl, hn, h1, hz, h2⟩
  rcases h1 with ⟨hb, r, hr, hst⟩ | ⟨hno, hst⟩
  · have hrl := rd_len s n r hr
    have hcnt : cntP s = if 0 ≤ n ∧ n ≤ r.length then some (n.toNat, r) else none := by unfold cntP; rw [hr]
    obtain ⟨A, c, hs⟩ := hst
    have c0 := hs.c0
    have HS := Lib.hid hs
    by_cases h0 : n < 0
    · rw [if_neg (by omega)] at hcnt
      have HC := Lib.hid (And.intro hcnt hn)
      clear hcnt hr hn
      go_wp2_with fail
      refine (fail_any rb r false _ ⟨A, c, HS.out⟩).mono ?_
      rintro e5 w5 ⟨rfl, h3, h4⟩
      go_wp2_with fail
      go_returns
      exact ⟨0, rfl, .inr ⟨.inr HC.out.1, h3⟩, fun _ => rfl, h2.trans h4⟩
    · by_cases hgt : (r.length : Int) < n
      · rw [if_neg (by omega)] at hcnt
        have HC := Lib.hid (And.intro hcnt hn)
        clear hcnt hr hn
        go_wp2_with fail
        refine (fail_any rb r false _ ⟨A, c, HS.out⟩).mono ?_
        rintro e5 w5 ⟨rfl, h3, h4⟩
        go_wp2_with fail
        go_returns
        exact ⟨0, rfl, .inr ⟨.inr HC.out.1, h3⟩, fun _ => rfl, h2.trans h4⟩
      · rw [if_pos (by omega)] at hcnt
        obtain ⟨q, rfl⟩ : ∃ q : Nat, n = (q : Int) := ⟨n.toNat, by omega⟩
        have HC := Lib.hid (And.intro hcnt (And.intro hb hn))
        clear hcnt hr hn h0
        go_wp2_with fail
        go_returns
        have h5 := HC.out.1
        rw [Int.toNat_natCast] at h5
        exact ⟨q, rfl, .inl ⟨HC.out.2.1, r, h5, ⟨A, c, HS.out⟩⟩, (fun h => by
          rcases h with h | h
          · rw [HC.out.2.1] at h; cases h
          · rw [h5] at h; cases h), h2⟩
  · have hcnt : bad = true ∨ cntP s = none := by
      rcases hno with h | h
      · exact .inl h
      · refine .inr ?_
        unfold cntP; rw [h]
    have HC := Lib.hid hcnt
    obtain ⟨A, c, hs⟩ := hst
    have c0 := hs.c0
    have HS := Lib.hid hs
    have c0' : w1.cell? ⟨rb, 0, none⟩ = some (.slice A 0 c) := c0
    obtain rfl := hz hno
    clear hcnt hno c0 hz
    go_wp2_with fail
    go_returns
    exact ⟨0, rfl, .inr ⟨HC.out, ⟨A, c, HS.out⟩⟩, fun _ => rfl, h2⟩

/-- What comes behind a count. -/
theorem Step.enter {s : List UInt8} {bad : Bool} {rb : Nat} {w' : World} {n : Nat} (h : Step cntP s bad rb w' n) (hn : (bad = true ∨ cntP s = none) → n = 0) :
    ∃ s0 b0, RSt w' rb s0 b0 ∧ (b0 = true → s0 = []) ∧ s0.length ≤ s.length ∧ n ≤ s0.length ∧ ((b0 = false ∧ bad = false ∧ cntP s = some (n, s0)) ∨ (b0 = true ∧ n = 0 ∧ (bad = true ∨ cntP s = none))) := by
  rcases h with ⟨hb, r, hr, hst⟩ | ⟨hno, hst⟩
  · have hrr : r.length < s.length ∧ n ≤ r.length := by
      unfold cntP at hr
      cases hd : rd s with
      | none => rw [hd] at hr; cases hr
      | some x =>
        obtain ⟨m, r2⟩ := x
        rw [hd] at hr
        simp only at hr
        split at hr
        · injection hr with hr
          injection hr with e1 e2
          subst e2
          exact ⟨rd_len s m r2 hd, by omega⟩
        · cases hr
    exact ⟨r, false, hst, (fun h => by cases h), by omega, hrr.2, .inl ⟨rfl, hb, hr⟩⟩
  · exact ⟨[], true, hst, fun _ => rfl, Nat.zero_le _, by rw [hn hno]; exact Nat.zero_le _, .inr ⟨rfl, hn hno, hno⟩⟩
end Go.Proofs.Ythdnnlelmelegaa
