/-
  Strings and lists of strings: how they lie, and how two are held against each other. About no program.
-/
import Derived.Test.YtpnihimoekkepaaMem
import Derived.Laws.Cover1
namespace Go.Proofs.Ytpnihimoekkepaa
open Go.RowKit
set_option linter.unusedVariables false

abbrev Str := List UInt8
def bstr (l : Str) : ByteArray := ⟨l.toArray⟩
theorem bstr_toList (l : Str) : (bstr l).toList = l := by rw [ByteArray.toList_eq]; simp [bstr]
theorem bstr_data (l : Str) : (bstr l).data.toList = l := by simp [bstr]
theorem bstr_size (l : Str) : (bstr l).size = l.length := by simp [bstr, ByteArray.size]
theorem bstr_inj {a b : Str} (h : bstr a = bstr b) : a = b := by have := congrArg ByteArray.toList h; rwa [bstr_toList, bstr_toList] at this
theorem bstr_of (s : ByteArray) : bstr s.data.toList = s := by simp [bstr]

/-- The cells of a list of strings. -/
def strs (l : List Str) : List Value := l.map fun s => .string (bstr s)
theorem strs_length (l : List Str) : (strs l).length = l.length := by simp [strs]
theorem strs_append (a b : List Str) : strs (a ++ b) = strs a ++ strs b := by simp [strs]
theorem strs_one (l : List Str) : ∀ u ∈ strs l, u.oneCell' = true := by
  intro u hu; obtain ⟨_, _, rfl⟩ := List.mem_map.1 hu; rfl
theorem strs_at (l : List Str) (k : Nat) (h : k < l.length) : (strs l)[k]? = some (.string (bstr l[k])) := by simp [strs, h]
theorem strs_cut (l : List Str) (lo n : Nat) : ((strs l).drop (lo * 1)).take (n * 1) = strs ((l.drop lo).take n) := by simp [strs, List.map_take, List.map_drop]
theorem strs_drop (l : List Str) (lo : Nat) : (strs l).drop (lo * 1) = strs (l.drop lo) := by simp [strs, List.map_drop]
theorem strs_take (l : List Str) (n : Nat) : (strs l).take (n * 1) = strs (l.take n) := by simp [strs, List.map_take]

/-- The first string's bytes come before the second's. -/
def slt (a b : Str) : Bool := Op.bytesLess a b
theorem bytesLess_bstr (a b : Str) : Op.bytesLess (bstr a).toList (bstr b).toList = slt a b := by rw [bstr_toList, bstr_toList]; rfl
theorem beq_bstr (a b : Str) : ((bstr a).toList == (bstr b).toList) = decide (a = b) := by
  rw [bstr_toList, bstr_toList, Bool.eq_iff_iff, beq_iff_eq, decide_eq_true_eq]

theorem slt_eq : ∀ a b : Str, slt a b = decide (a < b)
  | [], [] => by simp [slt, Op.bytesLess]
  | _ :: _, [] => by simp [slt, Op.bytesLess]
  | [], _ :: _ => by simp [slt, Op.bytesLess]
  | x :: a, y :: b => by
    have ih := slt_eq a b
    unfold slt at ih ⊢
    rw [Op.bytesLess, ih, Bool.eq_iff_iff]
    simp [List.cons_lt_cons_iff]

theorem slt_irrefl (a : Str) : slt a a = false := by rw [slt_eq, decide_eq_false_iff_not]; exact List.lt_irrefl a
theorem slt_trans {a b c : Str} (h : slt a b = true) (k : slt b c = true) : slt a c = true := by
  rw [slt_eq, decide_eq_true_eq] at *; exact List.lt_trans h k
theorem slt_tri {a b : Str} (h : slt a b = false) (k : slt b a = false) : a = b := by
  rw [slt_eq, decide_eq_false_iff_not] at *
  exact List.le_antisymm (List.not_lt.1 k) (List.not_lt.1 h)
theorem slt_asymm {a b : Str} (h : slt a b = true) : slt b a = false := by
  cases k : slt b a with
  | false => rfl
  | true => have := slt_trans h k; rw [slt_irrefl] at this; cases this
theorem slt_ne {a b : Str} (h : slt a b = true) : a ≠ b := by rintro rfl; rw [slt_irrefl] at h; cases h
end Go.Proofs.Ytpnihimoekkepaa
