/-
  What was written is read, and what is read is what would be written: plain mathematics.
-/
import Derived.Test.YthdnnlelmelegaaCodeW
namespace Go.Proofs.Ythdnnlelmelegaa
set_option linter.unusedVariables false

theorem cntP_num (n : Nat) (r : List UInt8) (h : n ≤ r.length) (hn : n < 4611686018427387904) : cntP (num n ++ r) = some (n, r) := by
  unfold cntP
  rw [rd_num n r (by omega) (by omega)]
  simp only
  rw [if_pos (by omega), Int.toNat_natCast]
theorem cntP_back {s : List UInt8} {n : Nat} {r : List UInt8} (h : cntP s = some (n, r)) : s = num n ++ r := by
  unfold cntP at h
  cases hd : rd s with
  | none => rw [hd] at h; cases h
  | some x =>
    obtain ⟨m, r2⟩ := x
    rw [hd] at h
    simp only at h
    split at h
    · injection h with h
      injection h with e1 e2
      subst e2
      have := (rd_back s _ hd).1
      rw [this]
      simp only
      rw [← e1, Int.toNat_of_nonneg (by omega)]
    · cases h
section
variable {α : Type} {p : List UInt8 → Option (α × List UInt8)} {put : α → List UInt8}
theorem plistN_put : ∀ (l : List α) (r : List UInt8), (∀ x ∈ l, ∀ r, p (put x ++ r) = some (x, r)) → plistN p l.length (l.flatMap put ++ r) = some (l, r)
  | [], r, h => rfl
  | x :: l, r, h => by
    rw [List.length_cons, plistN, List.flatMap_cons, List.append_assoc, h x (by simp)]
    simp only
    rw [plistN_put l r (fun y hy => h y (by simp [hy]))]
theorem flat_ge : ∀ (l : List α), (∀ x ∈ l, put x ≠ []) → l.length ≤ (l.flatMap put).length
  | [], h => by simp
  | x :: l, h => by
    have h1 := flat_ge l (fun y hy => h y (by simp [hy]))
    have h2 := List.length_pos_iff.2 (h x (by simp))
    rw [List.flatMap_cons, List.length_append, List.length_cons]; omega
theorem plist_put (l : List α) (r : List UInt8) (h : ∀ x ∈ l, ∀ r, p (put x ++ r) = some (x, r)) (hne : ∀ x ∈ l, put x ≠ []) (hl : l.length < 4611686018427387904) : plist p (num l.length ++ l.flatMap put ++ r) = some (l, r) := by
  unfold plist
  rw [List.append_assoc, cntP_num _ _ (by have := flat_ge l hne; rw [List.length_append]; omega) hl]
  simp only
  exact plistN_put l r h
theorem plistN_back (hp : ∀ s x r, p s = some (x, r) → s = put x ++ r) : ∀ (n : Nat) (s : List UInt8) (l : List α) (r : List UInt8), plistN p n s = some (l, r) → s = l.flatMap put ++ r ∧ l.length = n
  | 0, s, l, r, h => by rw [plistN] at h; injection h with h; injection h with e1 e2; subst e1 e2; simp
  | n + 1, s, l, r, h => by
    rw [plistN] at h
    cases h1 : p s with
    | none => rw [h1] at h; cases h
    | some x =>
      obtain ⟨x, r1⟩ := x
      rw [h1] at h
      simp only at h
      cases h2 : plistN p n r1 with
      | none => rw [h2] at h; cases h
      | some y =>
        obtain ⟨l2, r2⟩ := y
        rw [h2] at h
        injection h with h
        injection h with e1 e2
        subst e1 e2
        obtain ⟨h3, h4⟩ := plistN_back hp n r1 l2 r2 h2
        rw [hp _ _ _ h1, h3]
        simp [h4]
theorem plist_back (hp : ∀ s x r, p s = some (x, r) → s = put x ++ r) {s : List UInt8} {l : List α} {r : List UInt8} (h : plist p s = some (l, r)) : s = num l.length ++ l.flatMap put ++ r := by
  unfold plist at h
  cases h1 : cntP s with
  | none => rw [h1] at h; cases h
  | some x =>
    obtain ⟨n, r1⟩ := x
    rw [h1] at h
    simp only at h
    obtain ⟨h2, h3⟩ := plistN_back hp n r1 l r h
    rw [cntP_back h1, h2, h3, List.append_assoc]
end

structure InsR (x : Ins) : Prop where
  op : -9223372036854775808 ≤ x.op ∧ x.op < 9223372036854775808
  a : -9223372036854775808 ≤ x.a ∧ x.a < 9223372036854775808
  n : x.l.length < 4611686018427387904
  l : ∀ n ∈ x.l, -9223372036854775808 ≤ n ∧ n < 9223372036854775808
structure FncR (f : Fnc) : Prop where
  regs : -9223372036854775808 ≤ f.regs ∧ f.regs < 9223372036854775808
  caps : -9223372036854775808 ≤ f.caps ∧ f.caps < 9223372036854775808
  n : f.code.length < 4611686018427387904
  code : ∀ x ∈ f.code, InsR x
structure ImgR (m : Img) : Prop where
  i : ∀ n ∈ m.ints, -9223372036854775808 ≤ n ∧ n < 9223372036854775808
  il : m.ints.length < 4611686018427387904
  t : ∀ s ∈ m.texts, s.length < 4611686018427387904
  tl : m.texts.length < 4611686018427387904
  f : ∀ f ∈ m.funs, FncR f
  fl : m.funs.length < 4611686018427387904

theorem pText_put (s : Str) (r : List UInt8) (h : s.length < 4611686018427387904) : pText (putStr s ++ r) = some (s, r) := by
  unfold pText putStr
  rw [List.append_assoc, cntP_num _ _ (by rw [List.length_append]; omega) h]
  simp
theorem pText_back (s : List UInt8) (x : Str) (r : List UInt8) (h : pText s = some (x, r)) : s = putStr x ++ r := by
  unfold pText at h
  cases h1 : cntP s with
  | none => rw [h1] at h; cases h
  | some y =>
    obtain ⟨n, r1⟩ := y
    rw [h1] at h
    injection h with h
    injection h with e1 e2
    have hn := (cnt_len s n r1 h1).2
    have hl : x.length = n := by rw [← e1, List.length_take]; omega
    rw [cntP_back h1]
    unfold putStr
    rw [hl, List.append_assoc, ← e1, ← e2, List.take_append_drop]
theorem rd_put (n : Int) (r : List UInt8) (h : -9223372036854775808 ≤ n ∧ n < 9223372036854775808) : rd (num n ++ r) = some (n, r) := rd_num n r h.1 h.2
theorem rd_bk (s : List UInt8) (x : Int) (r : List UInt8) (h : rd s = some (x, r)) : s = num x ++ r := (rd_back s (x, r) h).1
theorem pIns_put (x : Ins) (r : List UInt8) (h : InsR x) : pIns (putIns x ++ r) = some (x, r) := by
  unfold pIns putIns
  rw [List.append_assoc, List.append_assoc, List.append_assoc, rd_put _ _ h.op]
  simp only
  rw [rd_put _ _ h.a]
  simp only
  rw [← List.append_assoc (num (x.l.length : Int)), plist_put x.l r (fun n hn r => rd_put n r (h.l n hn)) (fun n _ => num_ne n) h.n]
theorem pIns_back (s : List UInt8) (x : Ins) (r : List UInt8) (h : pIns s = some (x, r)) : s = putIns x ++ r := by
  unfold pIns at h
  cases h1 : rd s with
  | none => rw [h1] at h; cases h
  | some y =>
    obtain ⟨op, r1⟩ := y
    rw [h1] at h
    simp only at h
    cases h2 : rd r1 with
    | none => rw [h2] at h; cases h
    | some y =>
      obtain ⟨a, r2⟩ := y
      rw [h2] at h
      simp only at h
      cases h3 : plist rd r2 with
      | none => rw [h3] at h; cases h
      | some y =>
        obtain ⟨l, r3⟩ := y
        rw [h3] at h
        injection h with h
        injection h with e1 e2
        subst e1 e2
        rw [rd_bk _ _ _ h1, rd_bk _ _ _ h2, plist_back rd_bk h3]
        unfold putIns
        simp only [List.append_assoc]
theorem putIns_ne (x : Ins) : putIns x ≠ [] := by
  unfold putIns; have := num_ne x.op; simp [this]
theorem pFnc_put (x : Fnc) (r : List UInt8) (h : FncR x) : pFnc (putFnc x ++ r) = some (x, r) := by
  unfold pFnc putFnc
  rw [List.append_assoc, List.append_assoc, List.append_assoc, rd_put _ _ h.regs]
  simp only
  rw [rd_put _ _ h.caps]
  simp only
  rw [← List.append_assoc (num (x.code.length : Int)), plist_put x.code r (fun n hn r => pIns_put n r (h.code n hn)) (fun n _ => putIns_ne n) h.n]
theorem pFnc_back (s : List UInt8) (x : Fnc) (r : List UInt8) (h : pFnc s = some (x, r)) : s = putFnc x ++ r := by
  unfold pFnc at h
  cases h1 : rd s with
  | none => rw [h1] at h; cases h
  | some y =>
    obtain ⟨op, r1⟩ := y
    rw [h1] at h
    simp only at h
    cases h2 : rd r1 with
    | none => rw [h2] at h; cases h
    | some y =>
      obtain ⟨a, r2⟩ := y
      rw [h2] at h
      simp only at h
      cases h3 : plist pIns r2 with
      | none => rw [h3] at h; cases h
      | some y =>
        obtain ⟨l, r3⟩ := y
        rw [h3] at h
        injection h with h
        injection h with e1 e2
        subst e1 e2
        rw [rd_bk _ _ _ h1, rd_bk _ _ _ h2, plist_back pIns_back h3]
        unfold putFnc
        simp only [List.append_assoc]
theorem putFnc_ne (x : Fnc) : putFnc x ≠ [] := by
  unfold putFnc; have := num_ne x.regs; simp [this]
theorem putStr_ne (x : Str) : putStr x ≠ [] := by
  unfold putStr; have := num_ne (x.length : Int); simp [this]
theorem pImg_put (m : Img) (r : List UInt8) (h : ImgR m) : pImg (putImg m ++ r) = some (m, r) := by
  unfold pImg putImg
  have e : num (m.ints.length : Int) ++ m.ints.flatMap num ++ (num (m.texts.length : Int) ++ m.texts.flatMap putStr) ++ (num (m.funs.length : Int) ++ m.funs.flatMap putFnc) ++ r =
      num (m.ints.length : Int) ++ m.ints.flatMap num ++ (num (m.texts.length : Int) ++ m.texts.flatMap putStr ++ (num (m.funs.length : Int) ++ m.funs.flatMap putFnc ++ r)) := by simp only [List.append_assoc]
  rw [e, plist_put m.ints _ (fun n hn r => rd_put n r (h.i n hn)) (fun n _ => num_ne n) h.il]
  simp only
  rw [plist_put m.texts _ (fun n hn r => pText_put n r (h.t n hn)) (fun n _ => putStr_ne n) h.tl]
  simp only
  rw [plist_put m.funs _ (fun n hn r => pFnc_put n r (h.f n hn)) (fun n _ => putFnc_ne n) h.fl]
theorem pImg_back (s : List UInt8) (m : Img) (r : List UInt8) (h : pImg s = some (m, r)) : s = putImg m ++ r := by
  unfold pImg at h
  cases h1 : plist rd s with
  | none => rw [h1] at h; cases h
  | some y =>
    obtain ⟨op, r1⟩ := y
    rw [h1] at h
    simp only at h
    cases h2 : plist pText r1 with
    | none => rw [h2] at h; cases h
    | some y =>
      obtain ⟨a, r2⟩ := y
      rw [h2] at h
      simp only at h
      cases h3 : plist pFnc r2 with
      | none => rw [h3] at h; cases h
      | some y =>
        obtain ⟨l, r3⟩ := y
        rw [h3] at h
        injection h with h
        injection h with e1 e2
        subst e1 e2
        rw [plist_back rd_bk h1, plist_back pText_back h2, plist_back pFnc_back h3]
        unfold putImg
        simp only [List.append_assoc]
end Go.Proofs.Ythdnnlelmelegaa
