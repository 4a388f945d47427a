/-
  The tokens of a text, and quoted texts, by themselves: about no program.
-/
import Derived.Test.YtaglmmcjhlehjaaDoorStrs
import Derived.Lib.ParseIntB
namespace Go.Proofs.YtaglmmcjhlehjaaDoor
set_option linter.unusedVariables false
set_option linter.unusedSimpArgs false

def lowB (c : UInt8) : Bool := decide (97 ≤ c.toNat ∧ c.toNat ≤ 122)
def highB (c : UInt8) : Bool := decide (65 ≤ c.toNat ∧ c.toNat ≤ 90)
def digB (c : UInt8) : Bool := decide (48 ≤ c.toNat ∧ c.toNat ≤ 57)
def nameB (c : UInt8) : Bool := lowB c || digB c
def tagB (c : UInt8) : Bool := lowB c || highB c || digB c
def spcB (c : UInt8) : Bool := decide (c.toNat = 32 ∨ c.toNat = 10 ∨ c.toNat = 9)
def plainB (c : UInt8) : Bool := decide (32 ≤ c.toNat ∧ c.toNat ≤ 126)
def escB (c : UInt8) : Bool := decide (c.toNat = 34 ∨ c.toNat = 92 ∨ c.toNat = 110)
def unesc (c : UInt8) : UInt8 := if c.toNat = 110 then 10 else c
def wordsL : List Str := [[102, 110], [108, 101, 116], [114, 101, 99], [105, 110], [109, 97, 116, 99, 104], [119, 105, 116, 104], [101, 110, 100], [105, 102], [116, 104, 101, 110], [101, 108, 115, 101], [114, 101, 102], [112, 114, 105, 110, 116], [115, 104, 111, 119], [114, 101, 97, 100]]
def isWordB (s : Str) : Bool := decide (s ∈ wordsL)
def signsL : Str := [40, 41, 123, 125, 61, 46, 44, 124, 92, 43, 45, 42, 47, 60, 94, 35, 33, 59]
def signB (c : UInt8) : Bool := decide (c ∈ signsL)
def twosL : List Str := [[45, 62], [61, 61], [58, 61]]
def twoB (s : Str) : Bool := decide (s ∈ twosL)

theorem nat_u8 {c d : UInt8} (h : c.toNat = d.toNat) : c = d := UInt8.toNat_inj.1 h

/-! ### Texts -/
inductive TxtR where
  | ok (s : Str) (n : Nat)
  | bad (o : Nat)
def TxtR.more (k : Nat) (l : Str) : TxtR → TxtR
  | .ok s n => .ok (l ++ s) (n + k)
  | .bad o => .bad (o + k)
theorem TxtR.more_more (k j : Nat) (l m : Str) (r : TxtR) : (r.more k l).more j m = r.more (k + j) (m ++ l) := by
  cases r <;> simp [TxtR.more, Nat.add_assoc]
theorem TxtR.more_nil (r : TxtR) : r.more 0 [] = r := by cases r <;> simp [TxtR.more]
def txt : Str → TxtR
  | [] => .bad 0
  | [c] => if c.toNat = 34 then .ok [] 1 else if c.toNat = 92 then .bad 1 else if plainB c then .bad 1 else .bad 0
  | c :: d :: r =>
    if c.toNat = 34 then .ok [] 1
    else if c.toNat = 92 then (if escB d then (txt r).more 2 [unesc d] else .bad 1)
    else if plainB c then (txt (d :: r)).more 1 [c]
    else .bad 0
theorem txt_end (c : UInt8) (r : Str) (h : c.toNat = 34) : txt (c :: r) = .ok [] 1 := by
  cases r <;> simp [txt, h]
theorem txt_plain (c : UInt8) (r : Str) (h : c.toNat ≠ 34) (h2 : c.toNat ≠ 92) (hp : plainB c = true) : txt (c :: r) = (txt r).more 1 [c] := by
  cases r <;> simp [txt, h, h2, hp, TxtR.more]
theorem txt_unplain (c : UInt8) (r : Str) (hp : plainB c = false) : txt (c :: r) = .bad 0 := by
  have h : c.toNat ≠ 34 := fun e => by unfold plainB at hp; rw [e] at hp; simp at hp
  have h2 : c.toNat ≠ 92 := fun e => by unfold plainB at hp; rw [e] at hp; simp at hp
  cases r <;> simp [txt, h, h2, hp]
theorem txt_back0 (c : UInt8) (h : c.toNat = 92) : txt [c] = .bad 1 := by simp [txt, h]
theorem txt_back (c d : UInt8) (r : Str) (h : c.toNat = 92) (hd : escB d = true) : txt (c :: d :: r) = (txt r).more 2 [unesc d] := by simp [txt, h, hd]
theorem txt_backbad (c d : UInt8) (r : Str) (h : c.toNat = 92) (hd : escB d = false) : txt (c :: d :: r) = .bad 1 := by simp [txt, h, hd]

/-- What is behind a text makes no difference. -/
theorem txt_front : ∀ (l : Str) (s : Str) (n : Nat), txt l = .ok s n → 0 < n ∧ n ≤ l.length ∧ ∀ m, txt (l.take n ++ m) = .ok s n
  | [], s, n, h => by simp [txt] at h
  | [c], s, n, h => by
    simp only [txt] at h
    split at h
    · rename_i hc
      injection h with h1 h2
      subst h1
      subst h2
      exact ⟨by omega, by simp, fun m => by simpa using txt_end c m hc⟩
    · split at h
      · cases h
      · split at h <;> cases h
  | c :: d :: r, s, n, h => by
    by_cases hc : c.toNat = 34
    · rw [txt_end c _ hc] at h
      injection h with h1 h2
      subst h1
      subst h2
      exact ⟨by omega, by simp, fun m => by simpa using txt_end c m hc⟩
    · by_cases h92 : c.toNat = 92
      · cases hd : escB d with
        | false => rw [txt_backbad c d r h92 hd] at h; cases h
        | true =>
          rw [txt_back c d r h92 hd] at h
          cases hr : txt r with
          | bad o => rw [hr] at h; cases h
          | ok s' n' =>
            rw [hr] at h
            injection h with h1 h2
            subst h1
            subst h2
            obtain ⟨k0, k1, k2⟩ := txt_front r s' n' hr
            refine ⟨by omega, by simp; omega, fun m => ?_⟩
            rw [List.take_succ_cons, List.take_succ_cons, List.cons_append, List.cons_append, txt_back c d _ h92 hd, k2 m]; rfl
      · cases hp : plainB c with
        | false => rw [txt_unplain c _ hp] at h; cases h
        | true =>
          rw [txt_plain c _ hc h92 hp] at h
          cases hr : txt (d :: r) with
          | bad o => rw [hr] at h; cases h
          | ok s' n' =>
            rw [hr] at h
            injection h with h1 h2
            subst h1
            subst h2
            obtain ⟨k0, k1, k2⟩ := txt_front (d :: r) s' n' hr
            refine ⟨by omega, by simp at k1 ⊢; omega, fun m => ?_⟩
            rw [List.take_succ_cons, List.cons_append, txt_plain c _ hc h92 hp, k2 m]; rfl

/-! ### One token -/
structure Tk where
  kind : Int
  n : Int
  s : Str
inductive OneR where
  | ok (t : Tk) (n : Nat)
  | bad (o : Nat)
def nameR (k : Int) (s : Str) : OneR := if 20 < s.length then .bad 0 else .ok ⟨if k = 1 ∧ isWordB s = true then 2 else k, 0, s⟩ s.length
def numR (ds : Str) : OneR :=
  match Lib.parseIntB 64 ds with
  | .ok v => if ds.head? = some 48 ∧ 1 < ds.length then .bad 0 else .ok ⟨4, v, []⟩ ds.length
  | _ => .bad 0
def textR : TxtR → OneR
  | .ok s n => if 2000 < s.length then .bad 0 else .ok ⟨5, 0, s⟩ (n + 1)
  | .bad o => .bad (o + 1)
def signR (c : UInt8) (l : Str) : OneR := if twoB (l.take 2) then .ok ⟨6, 0, l.take 2⟩ 2 else if signB c then .ok ⟨6, 0, [c]⟩ 1 else .bad 0
def one : Str → OneR
  | [] => .bad 0
  | c :: r =>
    if lowB c then nameR 1 ((c :: r).takeWhile nameB)
    else if highB c then nameR 3 ((c :: r).takeWhile tagB)
    else if digB c then numR ((c :: r).takeWhile digB)
    else if c.toNat = 34 then textR (txt r)
    else signR c (c :: r)

theorem one_cons (c : UInt8) (r : Str) : one (c :: r) =
    if lowB c then nameR 1 ((c :: r).takeWhile nameB)
    else if highB c then nameR 3 ((c :: r).takeWhile tagB)
    else if digB c then numR ((c :: r).takeWhile digB)
    else if c.toNat = 34 then textR (txt r)
    else signR c (c :: r) := rfl

theorem tw_take {p : UInt8 → Bool} : ∀ l : Str, l.take (l.takeWhile p).length = l.takeWhile p
  | [] => rfl
  | c :: r => by
    cases h : p c <;> simp [List.takeWhile_cons, h, tw_take r]
theorem tw_le {p : UInt8 → Bool} (l : Str) : (l.takeWhile p).length ≤ l.length := by
  have := congrArg List.length (tw_take (p := p) l)
  rw [List.length_take] at this; omega
theorem tw_pos {p : UInt8 → Bool} {c : UInt8} {r : Str} (h : p c = true) : 0 < ((c :: r).takeWhile p).length := by simp [List.takeWhile_cons, h]
theorem spc_not {c : UInt8} (h : spcB c = true) : nameB c = false ∧ tagB c = false ∧ digB c = false := by
  unfold spcB at h
  have := of_decide_eq_true h
  unfold nameB tagB lowB highB digB
  simp only [Bool.or_eq_false_iff, decide_eq_false_iff_not]
  omega
theorem tw_front {p : UInt8 → Bool} (hp : ∀ c, spcB c = true → p c = false) : ∀ (l sp : Str), (∀ c ∈ sp, spcB c = true) → (l.takeWhile p ++ sp).takeWhile p = l.takeWhile p
  | [], [], h => rfl
  | [], c :: r, h => by simp [List.takeWhile_cons, hp c (h c (by simp))]
  | c :: r, sp, h => by
    cases hc : p c with
    | true => simp [List.takeWhile_cons, hc, tw_front hp r sp h]
    | false =>
      have := tw_front hp [] sp h
      simpa [List.takeWhile_cons, hc] using this

/-- The length of a token, and that spaces behind it make no difference. -/
theorem one_front (l : Str) (t : Tk) (n : Nat) (h : one l = .ok t n) : 0 < n ∧ n ≤ l.length ∧ ∀ sp, (∀ c ∈ sp, spcB c = true) → one (l.take n ++ sp) = .ok t n := by
  cases l with
  | nil => simp [one] at h
  | cons c r =>
    have hcons : ∀ (k : Nat) sp, 0 < k → ∃ r', (c :: r).take k ++ sp = c :: r' := fun k sp hk => by
      cases k with
      | zero => omega
      | succ k => exact ⟨r.take k ++ sp, by simp⟩
    rw [one_cons] at h
    by_cases h1 : lowB c = true
    · rw [if_pos h1] at h
      unfold nameR at h
      split at h
      · cases h
      · rename_i hl
        injection h with e1 e2
        have hp : 0 < n := by rw [← e2]; exact tw_pos (by unfold nameB; rw [h1]; rfl)
        refine ⟨hp, by rw [← e2]; exact tw_le _, fun sp hsp => ?_⟩
        have ef := tw_front (p := nameB) (fun c h => (spc_not h).1) (c :: r) sp hsp
        rw [← tw_take (c :: r), e2] at ef
        obtain ⟨r', er⟩ := hcons n sp hp
        rw [er] at ef ⊢
        rw [one_cons]
        rw [if_pos h1, ef, ← e2, tw_take]
        unfold nameR
        rw [if_neg hl, ← e1]
    · rw [if_neg h1] at h
      by_cases h2 : highB c = true
      · rw [if_pos h2] at h
        unfold nameR at h
        split at h
        · cases h
        · rename_i hl
          injection h with e1 e2
          have hp : 0 < n := by rw [← e2]; exact tw_pos (by unfold tagB; rw [h2]; simp)
          refine ⟨hp, by rw [← e2]; exact tw_le _, fun sp hsp => ?_⟩
          have ef := tw_front (p := tagB) (fun c h => (spc_not h).2.1) (c :: r) sp hsp
          rw [← tw_take (c :: r), e2] at ef
          obtain ⟨r', er⟩ := hcons n sp hp
          rw [er] at ef ⊢
          rw [one_cons]
          rw [if_neg h1, if_pos h2, ef, ← e2, tw_take]
          unfold nameR
          rw [if_neg hl, ← e1]
      · rw [if_neg h2] at h
        by_cases h3 : digB c = true
        · rw [if_pos h3] at h
          have h0 := h
          unfold numR at h
          split at h
          · split at h
            · cases h
            · injection h with e1 e2
              have hp : 0 < n := by rw [← e2]; exact tw_pos h3
              refine ⟨hp, by rw [← e2]; exact tw_le _, fun sp hsp => ?_⟩
              have ef := tw_front (p := digB) (fun c h => (spc_not h).2.2) (c :: r) sp hsp
              rw [← tw_take (c :: r), e2] at ef
              obtain ⟨r', er⟩ := hcons n sp hp
              rw [er] at ef ⊢
              rw [one_cons]
              rw [if_neg h1, if_neg h2, if_pos h3, ef, ← e2, tw_take, h0, e2]
          · cases h
        · rw [if_neg h3] at h
          by_cases h4 : c.toNat = 34
          · rw [if_pos h4] at h
            cases ht : txt r with
            | bad o => rw [ht] at h; cases h
            | ok s m =>
              obtain ⟨k0, k1, k2⟩ := txt_front r s m ht
              rw [ht] at h
              unfold textR at h
              simp only at h
              split at h
              · cases h
              · rename_i hl
                injection h with e1 e2
                subst e2
                refine ⟨by omega, by simp; omega, fun sp hsp => ?_⟩
                rw [List.take_succ_cons, List.cons_append]
                rw [one_cons]
                rw [if_neg h1, if_neg h2, if_neg h3, if_pos h4, k2 sp]
                unfold textR
                simp only
                rw [if_neg hl, ← e1]
          · rw [if_neg h4] at h
            unfold signR at h
            split at h
            · rename_i h5
              injection h with e1 e2
              subst e2
              have hl : 2 ≤ (c :: r).length := by
                rcases Nat.lt_or_ge (c :: r).length 2 with hlt | hge
                · have hr : r = [] := by cases r with | nil => rfl | cons a b => simp only [List.length_cons] at hlt; omega
                  subst hr
                  simp [twoB, twosL] at h5
                · exact hge
              refine ⟨by omega, hl, fun sp hsp => ?_⟩
              obtain ⟨r', er⟩ := hcons 2 sp (by omega)
              have et : (c :: r').take 2 = (c :: r).take 2 := by
                rw [← er, List.take_append_of_le_length (by rw [List.length_take]; omega), List.take_take, Nat.min_self]
              rw [er]
              rw [one_cons]
              rw [if_neg h1, if_neg h2, if_neg h3, if_neg h4]
              unfold signR
              rw [et, if_pos h5, ← e1]
            · rename_i h5
              split at h
              · rename_i h6
                injection h with e1 e2
                subst e2
                refine ⟨by omega, by simp, fun sp hsp => ?_⟩
                have et : twoB (([c] ++ sp).take 2) = false := by
                  cases sp with
                  | nil => simp [twoB, twosL]
                  | cons d r' =>
                    have hd := hsp d (by simp)
                    unfold spcB at hd
                    have hd2 := of_decide_eq_true hd
                    have a1 : d ≠ 62 := fun e => by subst e; simp at hd2
                    have a2 : d ≠ 61 := fun e => by subst e; simp at hd2
                    simp [twoB, twosL, a1, a2]
                show one (c :: sp) = _
                have er : [c] ++ sp = c :: sp := rfl
                rw [one_cons]
                rw [if_neg h1, if_neg h2, if_neg h3, if_neg h4]
                unfold signR
                rw [er] at et
                rw [et, if_neg (by simp), if_pos h6, ← e1]
              · cases h

/-! ### All tokens -/
structure Tok where
  kind : Int
  place : Nat
  n : Int
  s : Str
def Tk.put (t : Tk) (p : Nat) : Tok := ⟨t.kind, p, t.n, t.s⟩
inductive CutR where
  | ok (l : List Tok)
  | bad (p : Nat)
def CutR.pre (a : List Tok) : CutR → CutR
  | .ok l => .ok (a ++ l)
  | .bad p => .bad p
theorem CutR.pre_nil (r : CutR) : r.pre [] = r := by cases r <;> rfl
theorem CutR.pre_pre (a b : List Tok) (r : CutR) : (r.pre a).pre b = r.pre (b ++ a) := by cases r <;> simp [CutR.pre]
def cutF : Nat → Str → Nat → CutR
  | 0, _, _ => .ok []
  | _ + 1, [], _ => .ok []
  | f + 1, c :: r, p => if spcB c then cutF f r (p + 1) else
    match one (c :: r) with
    | .bad o => .bad (p + o)
    | .ok t n => (cutF f ((c :: r).drop n) (p + n)).pre [t.put p]
theorem cutF_fuel : ∀ (f g : Nat) (l : Str) (p : Nat), l.length ≤ f → l.length ≤ g → cutF f l p = cutF g l p
  | f, g, [], p, _, _ => by cases f <;> cases g <;> rfl
  | 0, g, c :: r, p, h, _ => by simp at h
  | f, 0, c :: r, p, _, h => by simp at h
  | f + 1, g + 1, c :: r, p, h, k => by
    simp only [List.length_cons] at h k
    simp only [cutF]
    split
    · exact cutF_fuel f g r (p + 1) (by omega) (by omega)
    · split
      · rfl
      · rename_i t n ho
        obtain ⟨h0, h1, _⟩ := one_front _ _ _ ho
        rw [cutF_fuel f g _ _ (by rw [List.length_drop, List.length_cons]; omega) (by rw [List.length_drop, List.length_cons]; omega)]
def cutS (l : Str) (p : Nat) : CutR := cutF l.length l p
theorem cutS_nil (p : Nat) : cutS [] p = .ok [] := rfl
theorem cutS_spc (c : UInt8) (r : Str) (p : Nat) (h : spcB c = true) : cutS (c :: r) p = cutS r (p + 1) := by
  unfold cutS
  rw [List.length_cons, cutF, if_pos h]
theorem cutS_bad (c : UInt8) (r : Str) (p o : Nat) (h : spcB c = false) (ho : one (c :: r) = .bad o) : cutS (c :: r) p = .bad (p + o) := by
  unfold cutS
  rw [List.length_cons, cutF, if_neg (by simp [h]), ho]
theorem cutS_ok (c : UInt8) (r : Str) (p n : Nat) (t : Tk) (h : spcB c = false) (ho : one (c :: r) = .ok t n) : cutS (c :: r) p = (cutS ((c :: r).drop n) (p + n)).pre [t.put p] := by
  obtain ⟨h0, h1, _⟩ := one_front _ _ _ ho
  unfold cutS
  rw [List.length_cons, cutF, if_neg (by simp [h]), ho]
  simp only
  rw [cutF_fuel r.length ((c :: r).drop n).length _ _ (by rw [List.length_drop, List.length_cons]; omega) (Nat.le_refl _)]
theorem cutS_skip : ∀ (l : Str) (p : Nat), cutS l p = cutS (l.drop (l.takeWhile spcB).length) (p + (l.takeWhile spcB).length)
  | [], p => rfl
  | c :: r, p => by
    cases h : spcB c with
    | false => simp [List.takeWhile_cons, h]
    | true =>
      rw [cutS_spc c r p h, cutS_skip r (p + 1)]
      simp [List.takeWhile_cons, h, Nat.add_assoc, Nat.add_comm 1]
theorem cutS_spaces : ∀ (l : Str) (p : Nat), (∀ c ∈ l, spcB c = true) → cutS l p = .ok []
  | [], p, h => rfl
  | c :: r, p, h => by rw [cutS_spc c r p (h c (by simp))]; exact cutS_spaces r _ (fun d hd => h d (by simp [hd]))

theorem pre_ok {r : CutR} {a l : List Tok} (h : r.pre a = .ok l) : ∃ l', r = .ok l' ∧ l = a ++ l' := by
  cases r with
  | bad p => cases h
  | ok l' => exact ⟨l', rfl, by injection h with h; exact h.symm⟩

/-- Where the first token begins (or where the text ends); what is ahead of it is spaces. -/
def firstAt (l : Str) (p : Nat) (ts : List Tok) : Nat :=
  match ts with
  | [] => p + l.length
  | t :: _ => t.place
theorem first_spaces : ∀ (f : Nat) (l : Str) (p : Nat) (ts : List Tok), l.length ≤ f → cutS l p = .ok ts → p ≤ firstAt l p ts ∧ firstAt l p ts ≤ p + l.length ∧ ∀ c ∈ l.take (firstAt l p ts - p), spcB c = true
  | f, [], p, ts, _, h => by
    rw [cutS_nil] at h
    injection h with h
    subst h
    simp [firstAt]
  | 0, c :: r, p, ts, hf, h => by simp at hf
  | f + 1, c :: r, p, ts, hf, h => by
    cases hs : spcB c with
    | true =>
      rw [cutS_spc c r p hs] at h
      obtain ⟨a1, a2, a3⟩ := first_spaces f r (p + 1) ts (by simp at hf; omega) h
      have e : firstAt (c :: r) p ts = firstAt r (p + 1) ts := by
        cases ts with
        | nil => simp [firstAt]; omega
        | cons t _ => rfl
      rw [e]
      refine ⟨by omega, by simp; omega, fun d hd => ?_⟩
      obtain ⟨q, hq⟩ : ∃ q, firstAt r (p + 1) ts - p = q + 1 := ⟨firstAt r (p + 1) ts - p - 1, by omega⟩
      rw [hq, List.take_succ_cons] at hd
      rcases List.mem_cons.1 hd with rfl | hd
      · exact hs
      · exact a3 d (by rw [show firstAt r (p + 1) ts - (p + 1) = q from by omega]; exact hd)
    | false =>
      cases ho : one (c :: r) with
      | bad o => rw [cutS_bad c r p o hs ho] at h; cases h
      | ok t n =>
        rw [cutS_ok c r p n t hs ho] at h
        obtain ⟨l', _, rfl⟩ := pre_ok h
        refine ⟨Nat.le_refl _, by show p ≤ _; omega, fun d hd => ?_⟩
        have e : firstAt (c :: r) p ([t.put p] ++ l') = p := rfl
        rw [e, Nat.sub_self] at hd
        cases hd

/-- A token that was cut out is that token. -/
theorem cut_again : ∀ (f : Nat) (l : Str) (p : Nat) (ts : List Tok), l.length ≤ f → cutS l p = .ok ts → ∀ (i : Nat) (hi : i < ts.length),
    p ≤ ts[i].place ∧ ts[i].place < firstAt l p (ts.drop (i + 1)) ∧ firstAt l p (ts.drop (i + 1)) ≤ p + l.length ∧
      cutS ((l.drop (ts[i].place - p)).take (firstAt l p (ts.drop (i + 1)) - ts[i].place)) 0 = .ok [⟨ts[i].kind, 0, ts[i].n, ts[i].s⟩]
  | f, [], p, ts, _, h, i, hi => by
    rw [cutS_nil] at h
    injection h with h
    subst h
    cases hi
  | 0, c :: r, p, ts, hf, h, i, hi => by simp at hf
  | f + 1, c :: r, p, ts, hf, h, i, hi => by
    cases hs : spcB c with
    | true =>
      rw [cutS_spc c r p hs] at h
      obtain ⟨a1, a2, a3, a4⟩ := cut_again f r (p + 1) ts (by simp at hf; omega) h i hi
      have e : firstAt (c :: r) p (ts.drop (i + 1)) = firstAt r (p + 1) (ts.drop (i + 1)) := by
        cases ts.drop (i + 1) with
        | nil => simp [firstAt]; omega
        | cons t _ => rfl
      rw [e]
      refine ⟨by omega, a2, by simp; omega, ?_⟩
      rw [show ts[i].place - p = (ts[i].place - (p + 1)) + 1 from by omega, List.drop_succ_cons]
      exact a4
    | false =>
      cases ho : one (c :: r) with
      | bad o => rw [cutS_bad c r p o hs ho] at h; cases h
      | ok t n =>
        obtain ⟨n0, n1, n2⟩ := one_front _ _ _ ho
        rw [cutS_ok c r p n t hs ho] at h
        obtain ⟨l', hl', rfl⟩ := pre_ok h
        have hlen : ((c :: r).drop n).length = (c :: r).length - n := List.length_drop
        simp only [List.length_cons] at hf n1 hlen
        cases i with
        | zero =>
          obtain ⟨b1, b2, b3⟩ := first_spaces _ _ _ _ (Nat.le_refl _) hl'
          have e : firstAt (c :: r) p (([t.put p] ++ l').drop (0 + 1)) = firstAt ((c :: r).drop n) (p + n) l' := by
            show firstAt (c :: r) p l' = _
            cases l' with
            | nil => simp [firstAt]; omega
            | cons t _ => rfl
          rw [e]
          have ep : ([t.put p] ++ l')[0].place = p := rfl
          have ek : ([t.put p] ++ l')[0] = t.put p := rfl
          rw [ek]
          show p ≤ p ∧ p < _ ∧ _ ∧ cutS (((c :: r).drop (p - p)).take (_ - p)) 0 = .ok [t.put 0]
          refine ⟨Nat.le_refl _, by omega, by simp only [List.length_cons]; omega, ?_⟩
          rw [Nat.sub_self, List.drop_zero]
          obtain ⟨q, hq⟩ : ∃ q, firstAt ((c :: r).drop n) (p + n) l' = p + n + q := ⟨firstAt ((c :: r).drop n) (p + n) l' - (p + n), by omega⟩
          rw [hq] at b3 ⊢
          rw [show p + n + q - (p + n) = q from by omega] at b3
          rw [show p + n + q - p = n + q from by omega, List.take_add]
          have hone := n2 _ b3
          obtain ⟨r', er⟩ : ∃ r', (c :: r).take n ++ ((c :: r).drop n).take q = c :: r' := by
            cases n with
            | zero => omega
            | succ n => exact ⟨_, by rw [List.take_succ_cons, List.cons_append]⟩
          have elen : ((c :: r).take n).length = n := by rw [List.length_take, List.length_cons]; omega
          have hd : (c :: r').drop n = ((c :: r).drop n).take q := by rw [← er, List.drop_append, elen, Nat.sub_self, List.drop_zero, List.drop_of_length_le (by omega), List.nil_append]
          rw [er] at hone ⊢
          rw [cutS_ok c r' 0 n t hs hone, hd, cutS_spaces _ _ b3]
          rfl
        | succ j =>
          have hj : j < l'.length := by simp at hi; omega
          obtain ⟨a1, a2, a3, a4⟩ := cut_again f ((c :: r).drop n) (p + n) l' (by omega) hl' j hj
          have e : firstAt (c :: r) p (([t.put p] ++ l').drop (j + 1 + 1)) = firstAt ((c :: r).drop n) (p + n) (l'.drop (j + 1)) := by
            show firstAt (c :: r) p (l'.drop (j + 1)) = _
            cases l'.drop (j + 1) with
            | nil => simp [firstAt]; omega
            | cons t _ => rfl
          have ek : ([t.put p] ++ l')[j + 1] = l'[j] := rfl
          rw [e, ek]
          refine ⟨by omega, a2, by simp only [List.length_cons]; omega, ?_⟩
          rw [List.drop_drop, show n + (l'[j].place - (p + n)) = l'[j].place - p from by omega] at a4
          exact a4

/-! ### Quoted -/
def qch (c : UInt8) : Option Str := if c.toNat = 10 then some [92, 110] else if plainB c then (if c.toNat = 34 ∨ c.toNat = 92 then some [92, c] else some [c]) else none
def qbody : Str → Option Str
  | [] => some []
  | c :: r => match qch c, qbody r with
    | some a, some b => some (a ++ b)
    | _, _ => none
def quoteS (s : Str) : Option Str := if 2000 < s.length then none else (qbody s).map fun b => [34] ++ b ++ [34]
theorem qbody_len : ∀ (s b : Str), qbody s = some b → b.length ≤ 2 * s.length
  | [], b, h => by injection h with h; subst h; simp
  | c :: r, b, h => by
    unfold qbody at h
    cases h1 : qch c with
    | none => rw [h1] at h; cases h
    | some a =>
      cases h2 : qbody r with
      | none => rw [h1, h2] at h; cases h
      | some d =>
        rw [h1, h2] at h
        injection h with h
        subst h
        have := qbody_len r d h2
        have ha : a.length ≤ 2 := by
          unfold qch at h1
          split at h1
          · injection h1 with h1; subst h1; simp
          · split at h1
            · split at h1 <;> (injection h1 with h1; subst h1; simp)
            · cases h1
        simp; omega
theorem txt_quoted : ∀ (s b rest : Str), qbody s = some b → txt (b ++ 34 :: rest) = .ok s (b.length + 1)
  | [], b, rest, h => by
    injection h with h; subst h
    exact txt_end 34 rest rfl
  | c :: r, b, rest, h => by
    unfold qbody at h
    cases h1 : qch c with
    | none => rw [h1] at h; cases h
    | some a =>
      cases h2 : qbody r with
      | none => rw [h1, h2] at h; cases h
      | some d =>
        rw [h1, h2] at h
        injection h with h
        subst h
        have ih := txt_quoted r d rest h2
        unfold qch at h1
        split at h1
        · rename_i hc
          injection h1 with h1; subst h1
          rw [List.append_assoc]
          show txt (92 :: 110 :: (d ++ 34 :: rest)) = _
          rw [txt_back 92 110 _ rfl rfl, ih]
          have e : unesc 110 = c := nat_u8 (by rw [hc]; rfl)
          simp [TxtR.more, e]
        · rename_i hc
          split at h1
          · rename_i hp
            split at h1
            · rename_i hq
              injection h1 with h1; subst h1
              rw [List.append_assoc]
              show txt (92 :: c :: (d ++ 34 :: rest)) = _
              have he : escB c = true := by unfold escB; rw [decide_eq_true_iff]; omega
              have hu : unesc c = c := by unfold unesc; rw [if_neg (by omega)]
              rw [txt_back 92 c _ rfl he, ih, hu]
              simp [TxtR.more]
            · rename_i hq
              injection h1 with h1; subst h1
              rw [List.append_assoc]
              show txt (c :: (d ++ 34 :: rest)) = _
              rw [txt_plain c _ (by omega) (by omega) hp, ih]
              simp [TxtR.more]
          · cases h1
/-- What was quoted is one text. -/
theorem cut_quoted (s q : Str) (h : quoteS s = some q) : cutS q 0 = .ok [⟨5, 0, 0, s⟩] ∧ q.length ≤ 2 * s.length + 2 := by
  unfold quoteS at h
  split at h
  · cases h
  · rename_i hl
    cases hb : qbody s with
    | none => rw [hb] at h; cases h
    | some b =>
      rw [hb] at h
      injection h with h
      subst h
      have ht := txt_quoted s b [] hb
      have ho : one (34 :: (b ++ [34])) = .ok ⟨5, 0, s⟩ (b.length + 1 + 1) := by
        rw [one_cons]
        rw [if_neg (by decide), if_neg (by decide), if_neg (by decide), if_pos (by rfl), ht]
        unfold textR
        simp only
        rw [if_neg hl]
      refine ⟨?_, by have := qbody_len s b hb; simp; omega⟩
      show cutS (34 :: (b ++ [34])) 0 = _
      rw [cutS_ok 34 _ 0 _ _ rfl ho, List.drop_of_length_le (by simp), cutS_nil]
      rfl
end Go.Proofs.YtaglmmcjhlehjaaDoor
