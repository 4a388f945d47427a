/-
  One token, by the document's answer.
-/
import Derived.Test.YtaglmmcjhlehjaaGreatDoorLexT
import Derived.Test.YtaglmmcjhlehjaaGreatDoorLexU
import Derived.Test.YtaglmmcjhlehjaaGreatDoorLexV
import Derived.Test.YtaglmmcjhlehjaaGreatDoorLexH
namespace Go.Proofs.YtaglmmcjhlehjaaGreatDoor
open Go.ChangeShapes Go.WideShapes Go.ChangeAt Go.RowKit
set_option linter.unusedVariables false
set_option linter.unusedSimpArgs false

theorem refOne_any (A : Option Addr) (l : Str) (cp k : Nat) (w : World) (hr : Rd w 1 A l.length (u8s l)) (hk : k < l.length) (hcap : l.length ≤ cp) (hm : l.length ≤ 1048576) :
    Calls Tryz.prog 119 #[.slice A l.length cp, .int .i64 (k : Int)] w fun e w' => RefOneRes (one (l.drop k)) k w e w' := by
  obtain ⟨c, hck⟩ : ∃ c, l[k] = c := ⟨_, rfl⟩
  have hd : l.drop k = c :: l.drop (k + 1) := by rw [List.drop_eq_getElem_cons hk, hck]
  have he : one (l.drop k) = if lowB c then nameR 1 ((l.drop k).takeWhile nameB)
    else if highB c then nameR 3 ((l.drop k).takeWhile tagB)
    else if digB c then numR ((l.drop k).takeWhile digB)
    else if c.toNat = 34 then textR (txt (l.drop (k + 1))) else signR c (l.drop k) := by
    rw [hd]
    exact one_cons c _
  rw [he]
  cases h1 : lowB c with
  | true => rw [if_pos rfl]; exact refName_any A l cp k w hr hk c hck h1 hcap hm
  | false =>
    rw [if_neg (by simp)]
    cases h2 : highB c with
    | true => rw [if_pos rfl]; exact refTag_any A l cp k w hr hk c hck h2 hcap hm
    | false =>
      rw [if_neg (by simp)]
      cases h3 : digB c with
      | true => rw [if_pos rfl]; exact refNum_any A l cp k w hr hk c hck h3 hm
      | false =>
        rw [if_neg (by simp)]
        by_cases h4 : c.toNat = 34
        · rw [if_pos h4]; exact refTxt_any A l cp k w hr hk c hck h4 hm
        · rw [if_neg h4]; exact refSign_any A l cp k w hr hk c hck h1 h2 h3 h4 hcap hm
end Go.Proofs.YtaglmmcjhlehjaaGreatDoor
