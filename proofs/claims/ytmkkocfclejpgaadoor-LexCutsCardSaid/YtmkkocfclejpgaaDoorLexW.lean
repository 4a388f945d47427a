/-
  One token, by the document's answer.
-/
import Derived.Test.YtmkkocfclejpgaaDoorLexT
import Derived.Test.YtmkkocfclejpgaaDoorLexU
import Derived.Test.YtmkkocfclejpgaaDoorLexV
import Derived.Test.YtmkkocfclejpgaaDoorLexH
namespace Go.Proofs.YtmkkocfclejpgaaDoor
open Go.ChangeShapes Go.WideShapes Go.ChangeAt Go.RowKit
set_option linter.unusedVariables false
set_option linter.unusedSimpArgs false

theorem refOne_any (A : Option Addr) (l : Str) (cp k : Nat) (w : World) (hr : Rd w 1 A l.length (u8s l)) (hk : k < l.length) (hcap : l.length ≤ cp) (hm : l.length ≤ 1048576) :
    Calls Tryd.prog 16 #[.slice A l.length cp, .int .i64 (k : Int)] w fun e w' => RefOneRes (one (l.drop k)) k w e w' := by
  obtain ⟨c, hck⟩ : ∃ c, l[k] = c := ⟨_, rfl⟩
  have hd : l.drop k = c :: l.drop (k + 1) := by rw [List.drop_eq_getElem_cons hk, hck]
  have he : one (l.drop k) = if lowB c then nameR 1 ((l.drop k).takeWhile nameB)
    else if highB c then nameR 3 ((l.drop k).takeWhile tagB)
    else if digB c then numR ((l.drop k).takeWhile digB)
    else if c.toNat = 34 then textR (txt (l.drop (k + 1))) else signR c (l.drop k) := by
    rw [hd]
    exact one_cons c _
  rw [he]
  cases h1 : lowB c with
  | true => rw [if_pos rfl]; exact refName_any A l cp k w hr hk c hck h1 hcap hm
  | false =>
    rw [if_neg (by simp)]
    cases h2 : highB c with
    | true => rw [if_pos rfl]; exact refTag_any A l cp k w hr hk c hck h2 hcap hm
    | false =>
      rw [if_neg (by simp)]
      cases h3 : digB c with
      | true => rw [if_pos rfl]; exact refNum_any A l cp k w hr hk c hck h3 hm
      | false =>
        rw [if_neg (by simp)]
        by_cases h4 : c.toNat = 34
        · rw [if_pos h4]; exact refTxt_any A l cp k w hr hk c hck h4 hm
        · rw [if_neg h4]; exact refSign_any A l cp k w hr hk c hck h1 h2 h3 h4 hcap hm

theorem elTokR : ElemTy Tryd.prog 29 49 (.agg #[.int .i64 0, .int .i64 0, .int .i64 0, .string ⟨#[]⟩]) 4 40 := ⟨Tryd.underlying29, by kernel_rfl, rfl, by decide, by decide⟩

/-- What all tokens come to, by the document's answer. -/
def RefCutRes (r : CutR) (w : World) (e : Ending) (w' : World) : Prop :=
  match r with
  | .ok ts => ∃ v, e = .returned (.tuple #[v, .int .i64 0, .int .i64 (-1)]) ∧ w'.ownsRow w.heap.size 49 4 v ts.length (toks ts) ∧ ts.length ≤ 4000 ∧ Below w.heap.size w w'
  | .bad p => e = .returned (.tuple #[.slice none 0 0, .int .i64 2, .int .i64 (p : Int)]) ∧ Below w.heap.size w w'

/-- What stands while tokens are cut. -/
structure CR (w : World) (l : Str) (p : Nat) (acc : List Tok) (z : Value) (wr : World) : Prop where
  hi : p ≤ l.length
  inv : cutS l 0 = (cutS (l.drop p) p).pre acc
  own : wr.ownsRow w.heap.size 49 4 z acc.length (toks acc)
  b : Below w.heap.size w wr
  len : acc.length ≤ p
theorem CR.next {w wr : World} {l : Str} {p : Nat} {acc : List Tok} {z : Value} (h : CR w l p acc z wr) (hp : p < l.length) (c : UInt8) (hc : l[p] = c) (hs : spcB c = false) (t : Tk) (n : Nat) (ho : one (l.drop p) = .ok t n) :
    p + n ≤ l.length ∧ 0 < n ∧ cutS l 0 = (cutS (l.drop (p + n)) (p + n)).pre (acc ++ [t.put p]) := by
  obtain ⟨h0, h1, _⟩ := one_front _ _ _ ho
  rw [List.length_drop] at h1
  refine ⟨by omega, h0, ?_⟩
  have hd := List.drop_eq_getElem_cons hp
  rw [hc] at hd
  rw [h.inv, hd, cutS_ok c _ p n t hs (by rw [← hd]; exact ho), ← hd, List.drop_drop, CutR.pre_pre]
theorem CR.space {w wr : World} {l : Str} {p : Nat} {acc : List Tok} {z : Value} (h : CR w l p acc z wr) (hp : p < l.length) (c : UInt8) (hc : l[p] = c) (hs : spcB c = true) : CR w l (p + 1) acc z wr :=
  ⟨by omega, by rw [h.inv, List.drop_eq_getElem_cons hp, hc, cutS_spc c _ p hs], h.own, h.b, by have := h.len; omega⟩
theorem CR.bad {w wr : World} {l : Str} {p : Nat} {acc : List Tok} {z : Value} (h : CR w l p acc z wr) (hp : p < l.length) (c : UInt8) (hc : l[p] = c) (hs : spcB c = false) (o : Nat) (ho : one (l.drop p) = .bad o) : cutS l 0 = .bad (p + o) := by
  have hd := List.drop_eq_getElem_cons hp
  rw [hc] at hd
  rw [h.inv, hd, cutS_bad c _ p o hs (by rw [← hd]; exact ho)]; rfl
theorem CR.done {w wr : World} {l : Str} {p : Nat} {acc : List Tok} {z : Value} (h : CR w l p acc z wr) (hp : l.length ≤ p) : cutS l 0 = .ok acc := by
  rw [h.inv, List.drop_of_length_le hp, cutS_nil]; simp [CutR.pre]
theorem refCut_long (A : Option Addr) (l : Str) (cp : Nat) (w : World) (h : 4000 < l.length) (hm : l.length ≤ maxLen) :
    Calls Tryd.prog 8 #[.slice A l.length cp] w fun e w' => e = .returned (.tuple #[.slice none 0 0, .int .i64 6, .int .i64 (-1)]) ∧ Below w.heap.size w w' := by
  unfold maxLen at hm
  go_enter Tryd.func8, Tryd.ntmps8
  go_wp2_with fail
  go_returns
  exact ⟨rfl, Below.refl _ _⟩
end Go.Proofs.YtmkkocfclejpgaaDoor
