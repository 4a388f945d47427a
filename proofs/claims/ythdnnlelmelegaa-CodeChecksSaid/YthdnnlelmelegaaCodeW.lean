/-
  Reading a text; what an instruction, a function, an image are read as.
-/
import Derived.Test.YthdnnlelmelegaaCodeV
import Derived.Laws.IdiomStrings
namespace Go.Proofs.Ythdnnlelmelegaa
open Go.ChangeShapes Go.WideShapes Go.ChangeAt Go.RowKit
set_option linter.unusedVariables false

def pText (s : List UInt8) : Option (Str × List UInt8) :=
  match cntP s with
  | some (n, r) => some (r.take n, r.drop n)
  | none => none
def pIns (s : List UInt8) : Option (Ins × List UInt8) :=
  match rd s with
  | none => none
  | some (op, r1) =>
    match rd r1 with
    | none => none
    | some (a, r2) =>
      match plist rd r2 with
      | none => none
      | some (l, r3) => some (⟨op, a, l⟩, r3)
def pFnc (s : List UInt8) : Option (Fnc × List UInt8) :=
  match rd s with
  | none => none
  | some (op, r1) =>
    match rd r1 with
    | none => none
    | some (a, r2) =>
      match plist pIns r2 with
      | none => none
      | some (l, r3) => some (⟨op, a, l⟩, r3)
def pImg (s : List UInt8) : Option (Img × List UInt8) :=
  match plist rd s with
  | none => none
  | some (i, r1) =>
    match plist pText r1 with
    | none => none
    | some (t, r2) =>
      match plist pFnc r2 with
      | none => none
      | some (l, r3) => some (⟨i, t, l⟩, r3)

theorem cnt_len (s : List UInt8) (n : Nat) (r : List UInt8) (h : cntP s = some (n, r)) : r.length < s.length ∧ n ≤ r.length := by
  unfold cntP at h
  cases hd : rd s with
  | none => rw [hd] at h; cases h
  | some x =>
    obtain ⟨m, r2⟩ := x
    rw [hd] at h
    simp only at h
    split at h
    · injection h with h
      injection h with e1 e2
      subst e2
      exact ⟨rd_len s m r2 hd, by omega⟩
    · cases h
theorem plistN_le {α : Type} {p : List UInt8 → Option (α × List UInt8)} (hp : ∀ s x r, p s = some (x, r) → r.length ≤ s.length) : ∀ (n : Nat) (s : List UInt8) (l : List α) (r : List UInt8), plistN p n s = some (l, r) → r.length ≤ s.length
  | 0, s, l, r, h => by rw [plistN] at h; injection h with h; injection h with _ e; rw [e]; exact Nat.le_refl _
  | n + 1, s, l, r, h => by
    rw [plistN] at h
    cases h1 : p s with
    | none => rw [h1] at h; cases h
    | some x =>
      obtain ⟨x, r1⟩ := x
      rw [h1] at h
      simp only at h
      cases h2 : plistN p n r1 with
      | none => rw [h2] at h; cases h
      | some y =>
        obtain ⟨l2, r2⟩ := y
        rw [h2] at h
        injection h with h
        injection h with _ e
        subst e
        have := plistN_le hp n r1 l2 r2 h2
        have := hp _ _ _ h1
        omega
theorem plist_le {α : Type} {p : List UInt8 → Option (α × List UInt8)} (hp : ∀ s x r, p s = some (x, r) → r.length ≤ s.length) : ∀ s l r, plist p s = some (l, r) → r.length ≤ s.length := by
  intro s l r h
  unfold plist at h
  cases h1 : cntP s with
  | none => rw [h1] at h; cases h
  | some x =>
    obtain ⟨n, r1⟩ := x
    rw [h1] at h
    have := plistN_le hp n r1 l r h
    have := (cnt_len s n r1 h1).1
    omega
theorem pText_le : ∀ s x r, pText s = some (x, r) → r.length ≤ s.length := by
  intro s x r h
  unfold pText at h
  cases h1 : cntP s with
  | none => rw [h1] at h; cases h
  | some y =>
    obtain ⟨n, r1⟩ := y
    rw [h1] at h
    injection h with h
    injection h with _ e
    subst e
    have := (cnt_len s n r1 h1).1
    rw [List.length_drop]; omega
theorem pIns_le : ∀ s x r, pIns s = some (x, r) → r.length ≤ s.length := by
  intro s x r h
  unfold pIns at h
  cases h1 : rd s with
  | none => rw [h1] at h; cases h
  | some y =>
    obtain ⟨op, r1⟩ := y
    rw [h1] at h
    simp only at h
    cases h2 : rd r1 with
    | none => rw [h2] at h; cases h
    | some y =>
      obtain ⟨a, r2⟩ := y
      rw [h2] at h
      simp only at h
      cases h3 : plist rd r2 with
      | none => rw [h3] at h; cases h
      | some y =>
        obtain ⟨l, r3⟩ := y
        rw [h3] at h
        injection h with h
        injection h with _ e
        subst e
        have := rd_le _ _ _ h1
        have := rd_le _ _ _ h2
        have := plist_le rd_le _ _ _ h3
        omega
theorem pFnc_le : ∀ s x r, pFnc s = some (x, r) → r.length ≤ s.length := by
  intro s x r h
  unfold pFnc at h
  cases h1 : rd s with
  | none => rw [h1] at h; cases h
  | some y =>
    obtain ⟨op, r1⟩ := y
    rw [h1] at h
    simp only at h
    cases h2 : rd r1 with
    | none => rw [h2] at h; cases h
    | some y =>
      obtain ⟨a, r2⟩ := y
      rw [h2] at h
      simp only at h
      cases h3 : plist pIns r2 with
      | none => rw [h3] at h; cases h
      | some y =>
        obtain ⟨l, r3⟩ := y
        rw [h3] at h
        injection h with h
        injection h with _ e
        subst e
        have := rd_le _ _ _ h1
        have := rd_le _ _ _ h2
        have := plist_le pIns_le _ _ _ h3
        omega

/-- What comes behind a reading. -/
theorem Step.out {α : Type} {p : List UInt8 → Option (α × List UInt8)} {s : List UInt8} {bad : Bool} {rb : Nat} {w' : World} {x : α} (h : Step p s bad rb w' x) (hp : ∀ s x r, p s = some (x, r) → r.length ≤ s.length) :
    ∃ s1 b1, RSt w' rb s1 b1 ∧ (b1 = true → s1 = []) ∧ s1.length ≤ s.length ∧ ((b1 = false ∧ bad = false ∧ p s = some (x, s1)) ∨ (b1 = true ∧ (bad = true ∨ p s = none))) := by
  rcases h with ⟨hb, r, hr, hst⟩ | ⟨hno, hst⟩
  · exact ⟨r, false, hst, (fun h => by cases h), hp _ _ _ hr, .inl ⟨rfl, hb, hr⟩⟩
  · exact ⟨[], true, hst, fun _ => rfl, Nat.zero_le _, .inr ⟨rfl, hno⟩⟩

theorem conv_bytes {w : World} {A : Option Addr} {l : List UInt8} {n c : Nat} (hn : l.length = n) (h : Rd w 1 A n (u8s l)) : (convert 29 9 (.slice A n c)).run Try.prog w = .ok (.string (bstr l)) w := by
  subst hn
  cases A with
  | none =>
    have hl : l = [] := by
      cases l with
      | nil => rfl
      | cons a t => obtain ⟨a, e, _⟩ := h.2 (by simp [u8s]); cases e
    subst hl
    rw [show ([] : List UInt8).length = 0 from rfl, run_convert_bytes_string w _ _ 5 none 0 c Try.underlying29 Try.underlying5 Try.underlying9]
    simp [Conv.bytesToString]
    rfl
  | some a =>
    refine run_convert_bytes_back w _ _ 5 a c l Try.underlying29 Try.underlying5 Try.underlying9 (fun j hj => ?_)
    obtain ⟨a', e, hh⟩ := h.2 (by rw [u8s_length]; omega)
    injection e with e
    subst e
    exact hh j _ (u8s_at l j hj)
theorem rd_takeU {w : World} {A : Option Addr} {n : Nat} {l : List UInt8} (h : Rd w 1 A n (u8s l)) (k : Nat) (hk : k ≤ n) : Rd w 1 A k (u8s (l.take k)) := by
  have h1 := h.cut (lo := 0) (hi := k) (k := 0) (by omega) hk (by omega)
  have e : ((u8s l).drop (0 * 1)).take ((k - 0) * 1) = u8s (l.take k) := by simp [u8s, List.map_take]
  rw [e, Nat.sub_zero] at h1
  cases A with
  | none => exact h1
  | some a => rw [show (some a).map (fun x => x.add 0) = some a by simp [add_zero]] at h1; exact h1

theorem rs_dropM {w : World} {rb : Nat} {s : List UInt8} {bad : Bool} {A : Option Addr} {c : Nat} (h : RS w rb s bad A c) (k : Nat) (hk : k ≤ s.length) :
    RSt (w.setCell ⟨rb, 0, none⟩ (.slice (A.map fun x => x.add k) (s.length - k) (c - k))) rb (s.drop k) bad := by
  have hc := h.cap
  have h1 := h.rd.cut (lo := k) (hi := s.length) (k := k) hk (Nat.le_refl _) (by omega)
  have e : ((u8s s).drop (k * 1)).take ((s.length - k) * 1) = u8s (s.drop k) := by
    rw [Nat.mul_one, Nat.mul_one]
    unfold u8s
    rw [← List.map_drop, ← List.map_take, List.take_of_length_le (by rw [List.length_drop]; omega)]
  rw [e] at h1
  rw [← List.length_drop] at h1 ⊢
  exact ⟨_, _, rs_set h h1 ⟨by rw [List.length_drop]; omega, by omega⟩ (fun h0 a e => by
    cases A with
    | none => cases e
    | some a0 => injection e with e; subst e; rw [add_block]; exact h.lt (by rw [List.length_drop] at h0; omega) a0 rfl)⟩

set_option maxRecDepth 100000 in
set_option maxHeartbeats 400000 in
theorem rtext_any (rb : Nat) (s : List UInt8) (bad : Bool) (w : World) (h : RSt w rb s bad) (hbad : bad = true → s = []) (hl : s.length ≤ 1099511627776) :
    Calls Try.prog 35 #[.pointer (some ⟨rb, 0, none⟩)] w fun e w' => ∃ t : Str, e = .returned (.string (bstr t)) ∧ t.length ≤ maxLen ∧ Step pText s bad rb w' t ∧ RK rb w w' := by
  go_enter Try.func35, Try.ntmps35
  go_wp2_with fail
  refine (rcount_any rb s bad w h hbad hl).mono ?_
  rintro e w1 ⟨n, rfl, hst, hn, hk⟩
  obtain ⟨s0, b0, ⟨A, c, hs0⟩, hb0, hl0, hnl, hpl⟩ := hst.enter hn
  have c0 := hs0.c0
  have f0 := hs0.f0
  have hcap := hs0.cap
  have hlen : (s0.take n).length = n := by rw [List.length_take]; omega
  have hconv : ∀ c', (convert 29 9 (.slice A n c')).run Try.prog w1 = .ok (.string (bstr (s0.take n))) w1 := fun c' => conv_bytes hlen (rd_takeU hs0.rd n hnl)
  have HX := Lib.hid (And.intro hs0 (And.intro hpl (And.intro hk hb0)))
  have hnn : n ≤ 1099511627776 := by omega
  clear hs0 hpl hk hb0 hst hn h hbad hlen
  have HL := Lib.hid (And.intro hnl hcap)
  go_wp2_with fail
  all_goals
    go_returns
    refine ⟨s0.take n, rfl, by rw [List.length_take]; simp only [maxLen]; omega, ?_, HX.out.2.2.1.set 0 _⟩
    have hr := HX.out.1
    have hfin : ∀ w9, RSt w9 rb (s0.drop n) b0 → Step pText s bad rb w9 (s0.take n) := by
      intro w9 h9
      rcases HX.out.2.1 with ⟨q1, q2, q3⟩ | ⟨q1, q2, q3⟩
      · refine .inl ⟨q2, s0.drop n, by unfold pText; rw [q3], by rw [q1] at h9; exact h9⟩
      · have e := HX.out.2.2.2 q1
        rw [e, q1, List.drop_nil] at h9
        refine .inr ⟨?_, h9⟩
        rcases q3 with q3 | q3
        · exact .inl q3
        · exact .inr (by unfold pText; rw [q3])
    refine hfin _ ?_
    have hcc := HL.out.2
    first
    | exact rs_dropM hr n hnl
    | exact rs_drop_nil hr n (by omega)
end Go.Proofs.Ythdnnlelmelegaa
