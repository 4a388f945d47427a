/-
  A slice of bytes as a string.
-/
import Derived.Test.YtjhkblaplfhfcaaPackMath
import Derived.Laws.BytesArg
namespace Go.Proofs.Ytjhkblaplfhfcaa
open Go.RowKit
set_option linter.unusedVariables false

def bstr (l : List UInt8) : ByteArray := ⟨l.toArray⟩
theorem bstr_toList (l : List UInt8) : (bstr l).toList = l := by rw [ByteArray.toList_eq]; simp [bstr]

theorem run_bytes_string {P : Program} {src dst e : TypeId} (hs : P.underlying src = some (.slice e)) (he : P.underlying e = some (.int .u8)) (hd : P.underlying dst = some .string)
    {w : World} {A : Option Addr} {n : Nat} {l : List UInt8} (h : Rd w 1 A n (u8s l)) (c : Nat) : (convert src dst (.slice A n c)).run P w = .ok (.string (bstr l)) w := by
  rw [run_convert_bytes_string w src dst e A n c hs he hd]
  have hl : l.length = n := by have := h.1; rw [u8s_length] at this; omega
  cases A with
  | none =>
    have h0 : l = [] := by
      cases l with
      | nil => rfl
      | cons x r => obtain ⟨a, ha, _⟩ := h.2 (by simp [u8s]); cases ha
    subst h0
    simp [Conv.bytesToString, bstr]
    rfl
  | some a =>
    have hc : ∀ j v, (u8s l)[j]? = some v → w.cell? (a.add j) = some v := by
      intro j v hj
      have hpos : 0 < (u8s l).length := by
        have := (List.getElem?_eq_some_iff.1 hj).1; omega
      obtain ⟨a', ha, hh⟩ := h.2 hpos
      injection ha with ha
      subst ha
      exact hh j v hj
    have hload := run_loadCells_list (P := P) w a (u8s l) hc
    rw [u8s_length, hl] at hload
    have e1 : u8s l = (l.map fun c => (c.toNat : Int)).map (Value.int .u8) := by simp [u8s]
    rw [e1] at hload
    rw [run_bytesToString w a n c _ hload, foldl_push_bytes]
    simp [bstr, List.map_map, Function.comp_def]
end Go.Proofs.Ytjhkblaplfhfcaa
