/-
  What an expression's kind asks for, by the document's answers: how many parts; whether an operator is.
-/
import Derived.Test.YtpnihimoekkepaaCoL
namespace Go.Proofs.Ytpnihimoekkepaa
open Go.ChangeShapes Go.WideShapes Go.ChangeAt Go.RowKit Go.Sort
set_option linter.unusedVariables false
set_option linter.unusedSimpArgs false

def partsI (d : ExD) : Int :=
  if d.kind = 1 ∨ d.kind = 2 ∨ d.kind = 3 ∨ d.kind = 22 then 0
  else if d.kind = 4 ∨ d.kind = 17 ∨ d.kind = 18 ∨ d.kind = 20 ∨ d.kind = 21 then 1
  else if d.kind = 5 ∨ d.kind = 6 ∨ d.kind = 7 ∨ d.kind = 9 ∨ d.kind = 11 ∨ d.kind = 13 ∨ d.kind = 16 ∨ d.kind = 19 then 2
  else if d.kind = 10 ∨ d.kind = 12 ∨ d.kind = 15 then 3
  else if d.kind = 8 then d.pn
  else if d.kind = 14 then (if d.t = [] then 1 + 2 * d.nn else 1 + 2 * d.nn + 1)
  else -1

set_option maxRecDepth 100000 in
set_option maxHeartbeats 2000000 in
theorem Parts_any (d : ExD) (w : World) (hp : d.pn ≤ 4000000) (hn : d.nn ≤ 4000000) :
    Calls Try.prog 25 #[.agg d.arr] w fun e w' => e = .returned (.int .i64 (partsI d)) ∧ Below w.heap.size w w' := by
  obtain ⟨kind, n, s, t, nA, nn, nc, names, pA, pn, pc⟩ := d
  have hp : pn ≤ 4000000 := hp
  have hn : nn ≤ 4000000 := hn
  have HB := Lib.hid (show Below w.heap.size w (w.alloc (.cells (ExD.mk kind n s t nA nn nc names pA pn pc).arr 25)) from (Below.refl _ _).alloc (Nat.le_refl _) _)
  by_cases h1 : kind = 1
  · subst h1
    go_enter Try.func25, Try.ntmps25
    go_wp2_with fail
    go_returns
    exact ⟨rfl, HB.out⟩
  by_cases h2 : kind = 2
  · subst h2
    go_enter Try.func25, Try.ntmps25
    go_wp2_with fail
    go_returns
    exact ⟨rfl, HB.out⟩
  by_cases h3 : kind = 3
  · subst h3
    go_enter Try.func25, Try.ntmps25
    go_wp2_with fail
    go_returns
    exact ⟨rfl, HB.out⟩
  by_cases h22 : kind = 22
  · subst h22
    go_enter Try.func25, Try.ntmps25
    go_wp2_with fail
    go_returns
    exact ⟨rfl, HB.out⟩
  by_cases h4 : kind = 4
  · subst h4
    go_enter Try.func25, Try.ntmps25
    go_wp2_with fail
    go_returns
    exact ⟨rfl, HB.out⟩
  by_cases h17 : kind = 17
  · subst h17
    go_enter Try.func25, Try.ntmps25
    go_wp2_with fail
    go_returns
    exact ⟨rfl, HB.out⟩
  by_cases h18 : kind = 18
  · subst h18
    go_enter Try.func25, Try.ntmps25
    go_wp2_with fail
    go_returns
    exact ⟨rfl, HB.out⟩
  by_cases h20 : kind = 20
  · subst h20
    go_enter Try.func25, Try.ntmps25
    go_wp2_with fail
    go_returns
    exact ⟨rfl, HB.out⟩
  by_cases h21 : kind = 21
  · subst h21
    go_enter Try.func25, Try.ntmps25
    go_wp2_with fail
    go_returns
    exact ⟨rfl, HB.out⟩
  by_cases h5 : kind = 5
  · subst h5
    go_enter Try.func25, Try.ntmps25
    go_wp2_with fail
    go_returns
    exact ⟨rfl, HB.out⟩
  by_cases h6 : kind = 6
  · subst h6
    go_enter Try.func25, Try.ntmps25
    go_wp2_with fail
    go_returns
    exact ⟨rfl, HB.out⟩
  by_cases h7 : kind = 7
  · subst h7
    go_enter Try.func25, Try.ntmps25
    go_wp2_with fail
    go_returns
    exact ⟨rfl, HB.out⟩
  by_cases h9 : kind = 9
  · subst h9
    go_enter Try.func25, Try.ntmps25
    go_wp2_with fail
    go_returns
    exact ⟨rfl, HB.out⟩
  by_cases h11 : kind = 11
  · subst h11
    go_enter Try.func25, Try.ntmps25
    go_wp2_with fail
    go_returns
    exact ⟨rfl, HB.out⟩
  by_cases h13 : kind = 13
  · subst h13
    go_enter Try.func25, Try.ntmps25
    go_wp2_with fail
    go_returns
    exact ⟨rfl, HB.out⟩
  by_cases h16 : kind = 16
  · subst h16
    go_enter Try.func25, Try.ntmps25
    go_wp2_with fail
    go_returns
    exact ⟨rfl, HB.out⟩
  by_cases h19 : kind = 19
  · subst h19
    go_enter Try.func25, Try.ntmps25
    go_wp2_with fail
    go_returns
    exact ⟨rfl, HB.out⟩
  by_cases h10 : kind = 10
  · subst h10
    go_enter Try.func25, Try.ntmps25
    go_wp2_with fail
    go_returns
    exact ⟨rfl, HB.out⟩
  by_cases h12 : kind = 12
  · subst h12
    go_enter Try.func25, Try.ntmps25
    go_wp2_with fail
    go_returns
    exact ⟨rfl, HB.out⟩
  by_cases h15 : kind = 15
  · subst h15
    go_enter Try.func25, Try.ntmps25
    go_wp2_with fail
    go_returns
    exact ⟨rfl, HB.out⟩
  by_cases h8 : kind = 8
  · subst h8
    go_enter Try.func25, Try.ntmps25
    go_wp2_with fail
    go_returns
    exact ⟨rfl, HB.out⟩
  by_cases h14 : kind = 14
  · subst h14
    by_cases ht : t = []
    · subst ht
      have g1 : (bstr []).toList.isEmpty = true := str_nil
      go_enter Try.func25, Try.ntmps25
      go_wp2_with fail
      go_returns
      exact ⟨rfl, HB.out⟩
    · have g1 : (bstr t).toList.isEmpty = false := str_empty ht
      have HT := Lib.hid ht
      clear ht
      go_enter Try.func25, Try.ntmps25
      go_wp2_with fail
      go_returns
      exact ⟨by simp [partsI, HT.out], HB.out⟩
  have q1 : (kind == 1) = false := by simpa using h1
  have q2 : (kind == 2) = false := by simpa using h2
  have q3 : (kind == 3) = false := by simpa using h3
  have q22 : (kind == 22) = false := by simpa using h22
  have q4 : (kind == 4) = false := by simpa using h4
  have q17 : (kind == 17) = false := by simpa using h17
  have q18 : (kind == 18) = false := by simpa using h18
  have q20 : (kind == 20) = false := by simpa using h20
  have q21 : (kind == 21) = false := by simpa using h21
  have q5 : (kind == 5) = false := by simpa using h5
  have q6 : (kind == 6) = false := by simpa using h6
  have q7 : (kind == 7) = false := by simpa using h7
  have q9 : (kind == 9) = false := by simpa using h9
  have q11 : (kind == 11) = false := by simpa using h11
  have q13 : (kind == 13) = false := by simpa using h13
  have q16 : (kind == 16) = false := by simpa using h16
  have q19 : (kind == 19) = false := by simpa using h19
  have q10 : (kind == 10) = false := by simpa using h10
  have q12 : (kind == 12) = false := by simpa using h12
  have q15 : (kind == 15) = false := by simpa using h15
  have q8 : (kind == 8) = false := by simpa using h8
  have q14 : (kind == 14) = false := by simpa using h14
  have HK := Lib.hid (show partsI (ExD.mk kind n s t nA nn nc names pA pn pc) = -1 from by simp [partsI, h1, h2, h3, h22, h4, h17, h18, h20, h21, h5, h6, h7, h9, h11, h13, h16, h19, h10, h12, h15, h8, h14])
  clear h1 h2 h3 h22 h4 h17 h18 h20 h21 h5 h6 h7 h9 h11 h13 h16 h19 h10 h12 h15 h8 h14
  go_enter Try.func25, Try.ntmps25
  go_wp2_with fail
  go_returns
  exact ⟨by rw [HK.out]; rfl, HB.out⟩

set_option maxRecDepth 100000 in
set_option maxHeartbeats 2000000 in
theorem Arith_any (s : Str) (w : World) : Calls Try.prog 26 #[.string (bstr s), .int .i64 1, .int .i64 1] w fun e w' => (∃ (a b : Int) (c : Bool), e = .returned (.tuple #[.int .i64 a, .int .i64 b, .bool c])) ∧ Below w.heap.size w w' := by
  cases g0 : ((bstr s).toList == [43]) with
  | true =>
    go_enter Try.func26, Try.ntmps26
    go_wp2_with fail
    go_returns
    exact ⟨⟨_, _, _, rfl⟩, Below.refl _ _⟩
  | false =>
  cases g1 : ((bstr s).toList == [45]) with
  | true =>
    go_enter Try.func26, Try.ntmps26
    go_wp2_with fail
    go_returns
    exact ⟨⟨_, _, _, rfl⟩, Below.refl _ _⟩
  | false =>
  cases g2 : ((bstr s).toList == [42]) with
  | true =>
    go_enter Try.func26, Try.ntmps26
    go_wp2_with fail
    go_returns
    exact ⟨⟨_, _, _, rfl⟩, Below.refl _ _⟩
  | false =>
  cases g3 : ((bstr s).toList == [47]) with
  | true =>
    go_enter Try.func26, Try.ntmps26
    go_wp2_with fail
    go_returns
    exact ⟨⟨_, _, _, rfl⟩, Below.refl _ _⟩
  | false =>
  cases g4 : ((bstr s).toList == [60]) with
  | true =>
    go_enter Try.func26, Try.ntmps26
    go_wp2_with fail
    go_returns
    exact ⟨⟨_, _, _, rfl⟩, Below.refl _ _⟩
  | false =>
  cases g5 : ((bstr s).toList == [61, 61]) with
  | true =>
    go_enter Try.func26, Try.ntmps26
    go_wp2_with fail
    go_returns
    exact ⟨⟨_, _, _, rfl⟩, Below.refl _ _⟩
  | false =>
  go_enter Try.func26, Try.ntmps26
  go_wp2_with fail
  go_returns
  exact ⟨⟨_, _, _, rfl⟩, Below.refl _ _⟩
end Go.Proofs.Ytpnihimoekkepaa
