/-
  Bytes as they lie; a part of them as a text; bytes that came in.
-/
import Derived.Test.YtaglmmcjhlehjaaDoorStrs
import Derived.Test.YtaglmmcjhlehjaaDoorOpen
import Derived.Laws.IdiomStrings
namespace Go.Proofs.YtaglmmcjhlehjaaDoor
open Go.ChangeShapes Go.WideShapes Go.ChangeAt Go.RowKit
set_option linter.unusedVariables false

/-- The cells of bytes. -/
def u8s (l : List UInt8) : List Value := l.map fun b => .int .u8 b.toNat
theorem u8s_length (l : List UInt8) : (u8s l).length = l.length := by simp [u8s]
theorem u8s_append (a b : List UInt8) : u8s (a ++ b) = u8s a ++ u8s b := by simp [u8s]
theorem u8s_one (l : List UInt8) : ∀ u ∈ u8s l, u.oneCell' = true := by
  intro u hu; obtain ⟨_, _, rfl⟩ := List.mem_map.1 hu; rfl
theorem u8s_at (l : List UInt8) (k : Nat) (h : k < l.length) : (u8s l)[k]? = some (.int .u8 l[k].toNat) := by simp [u8s, h]
theorem u8s_cut (l : List UInt8) (lo n : Nat) : ((u8s l).drop (lo * 1)).take (n * 1) = u8s ((l.drop lo).take n) := by simp [u8s, List.map_take, List.map_drop]
theorem u8s_flat (l : List UInt8) : u8s l = l.flatMap fun b => [.int .u8 b.toNat] := by
  induction l with
  | nil => rfl
  | cons x r ih => simp [u8s] at ih ⊢; exact ih
theorem elU8 : ElemTy Tryd.prog 36 5 (.int .u8 0) 1 1 := ⟨Tryd.underlying36, by kernel_rfl, rfl, by decide, by decide⟩
theorem one_u8 (x : Int) : ∀ u ∈ (#[Value.int .u8 x] : Array Value).toList, u.oneCell' = true := by
  intro u hu; simp at hu; subst hu; rfl
theorem two_u8 (x y : Int) : ∀ u ∈ (#[Value.int .u8 x, .int .u8 y] : Array Value).toList, u.oneCell' = true := by
  intro u hu; simp at hu; rcases hu with rfl | rfl <;> rfl
theorem Rd.bytesN {w : World} {A : Option Addr} {n : Nat} {l : List UInt8} (h : Rd w 1 A n (u8s l)) : l.length = n := by have := h.1; rw [u8s_length] at this; omega
theorem Rd.byte {w : World} {A : Option Addr} {n : Nat} {l : List UInt8} (h : Rd w 1 A n (u8s l)) {k : Nat} (hk : k < l.length) : ∃ b o, A = some ⟨b, o, none⟩ ∧ b < w.heap.size ∧ ∀ j (hj : j < l.length), w.cell? ⟨b, o + j, none⟩ = some (.int .u8 l[j].toNat) := by
  obtain ⟨b, o, rfl, hb, hh⟩ := h.base (by rw [u8s_length]; omega)
  exact ⟨b, o, rfl, hb, fun j hj => hh j _ (u8s_at l j hj)⟩
theorem Rd.part {w : World} {b o n : Nat} {l : List UInt8} (h : Rd w 1 (some ⟨b, o, none⟩) n (u8s l)) (k m : Nat) (hm : k + m ≤ l.length) : Rd w 1 (some ⟨b, o + k, none⟩) m (u8s ((l.drop k).take m)) := by
  have hn := h.bytesN
  have h1 := h.cut (lo := k) (hi := k + m) (k := k) (by omega) (by omega) (by omega)
  rw [show k + m - k = m from by omega, u8s_cut] at h1
  have e2 : (some (⟨b, o, none⟩ : Addr)).map (fun x => x.add k) = some ⟨b, o + k, none⟩ := by simp [Addr.add_lit]
  rwa [e2] at h1

theorem conv_bytes {w : World} {A : Option Addr} {l : List UInt8} {n c : Nat} (hn : l.length = n) (h : Rd w 1 A n (u8s l)) : (convert 36 9 (.slice A n c)).run Tryd.prog w = .ok (.string (bstr l)) w := by
  subst hn
  cases A with
  | none =>
    have hl : l = [] := by
      cases l with
      | nil => rfl
      | cons a t => obtain ⟨a, e, _⟩ := h.2 (by simp [u8s]); cases e
    subst hl
    rw [show ([] : List UInt8).length = 0 from rfl, run_convert_bytes_string w _ _ 5 none 0 c Tryd.underlying36 Tryd.underlying5 Tryd.underlying9]
    simp [Conv.bytesToString]
    rfl
  | some a =>
    refine run_convert_bytes_back w _ _ 5 a c l Tryd.underlying36 Tryd.underlying5 Tryd.underlying9 (fun j hj => ?_)
    obtain ⟨a', e, hh⟩ := h.2 (by rw [u8s_length]; omega)
    injection e with e
    subst e
    exact hh j _ (u8s_at l j hj)
theorem conv_part {w : World} {b o n : Nat} {l : List UInt8} (h : Rd w 1 (some ⟨b, o, none⟩) n (u8s l)) (k m c : Nat) (hm : k + m ≤ l.length) : (convert 36 9 (.slice (some ⟨b, o + k, none⟩) m c)).run Tryd.prog w = .ok (.string (bstr ((l.drop k).take m))) w :=
  conv_bytes (by rw [List.length_take, List.length_drop]; omega) (h.part k m hm)

/- Bytes that came in. -/
set_option maxRecDepth 100000 in
theorem open_u8s {H : Type} {enc : TypeId × Value → H} {W : World} {base : Nat} {sp : Nat → Bool} {held : Bool} {b0 : Nat} {r : Reach} {v : Value} {d : DataW H} {ps : List MemPlace}
    (hv : Value.okWide Tryd.prog W r b0 36 v) (h : DataW.Trod enc Tryd.prog W base sp held 36 v d ps) :
    ∃ (A : Option Addr) (n c : Nat) (l : List UInt8), v = .slice A n c ∧ n ≤ c ∧ c ≤ maxLen ∧ n = l.length ∧ Rd W 1 A n (u8s l) := by
  obtain ⟨A, n, c, l, h1, h2, h3, h4, h5, _⟩ := open_elems (α := UInt8) (cells := fun b => [.int .u8 b.toNat]) (good := fun _ => True) Tryd.underlying36 (by kernel_rfl : Tryd.prog.cellsOf 5 = 1) (fun _ => rfl) (by omega)
    (fun n cs x hx => by
      obtain ⟨m, rfl, _, hm⟩ := DataW.trod_int Tryd.underlying5 hx
      have hr : 0 ≤ m ∧ m ≤ 255 := by simpa [Lit.wf, IntKind.min, IntKind.max, IntKind.signed, IntKind.bits] using hm
      refine ⟨UInt8.ofNat m.toNat, ?_, trivial⟩
      simp only [List.cons.injEq, Value.int.injEq, true_and, and_true]
      have : (UInt8.ofNat m.toNat).toNat = m.toNat := by simp; omega
      omega) hv h
  refine ⟨A, n, c, l, h1, h2, h3, h4.symm, ?_⟩
  rw [u8s_flat]; exact h5
end Go.Proofs.YtaglmmcjhlehjaaDoor
