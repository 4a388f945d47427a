/-
  What is to be told of a type, by the code: the labels that a row lacks; what is told, as a list.
-/
import Derived.Test.YtlgmddnpmmggdaaDoorVmC
import Derived.Defers
import Derived.Recover
namespace Go.Proofs.YtlgmddnpmmggdaaDoor
open Go.ChangeShapes Go.WideShapes Go.ChangeAt Go.RowKit Go.Sort Go.Maps
set_option linter.unusedVariables false
set_option linter.unusedSimpArgs false

/-- A row's labels, and where they lie. -/
structure Lk where
  A : Option Addr
  n : Nat
  c : Nat
  l : List Str
def Lk.val (k : Lk) : Value := .slice k.A k.n k.c
def Lk.none : Lk := ⟨Option.none, 0, 0, []⟩
structure Lk.In (k : Lk) (w : World) : Prop where
  rd : Rd w 1 k.A k.n (strs k.l)
  le : k.n ≤ k.c
  cap : k.c ≤ maxLen
  few : k.n ≤ 4000000
theorem Lk.In.below {k : Lk} {w w1 : World} (h : k.In w) (hb : Below w.heap.size w w1) : k.In w1 := ⟨h.rd.below hb, h.le, h.cap, h.few⟩
theorem Lk.In.len {k : Lk} {w : World} (h : k.In w) : k.l.length = k.n := rd_len h.rd
theorem Lk.none_in (w : World) : Lk.none.In w := ⟨Rd.nil _ _ _, Nat.le_refl _, Nat.zero_le _, Nat.zero_le _⟩
def lackV (L : List Lk) (tail : Int) : Lk := if 0 ≤ tail then (L[tail.toNat]?).getD .none else .none
theorem lackV_in {L : List Lk} {w : World} (h : ∀ k ∈ L, k.In w) (tail : Int) : (lackV L tail).In w := by
  unfold lackV
  split
  · cases hq : L[tail.toNat]? with
    | none => exact Lk.none_in w
    | some k => exact h k (List.mem_of_getElem? hq)
  · exact Lk.none_in w

set_option maxRecDepth 100000 in
theorem lack_any (pb : Nat) (LA : Option Addr) (lc : Nat) (L : List Lk) (tail : Int) (w : World) (hc : w.cell? ⟨pb, 0, Option.none⟩ = some (.slice LA L.length lc)) (hr : Rd w 1 LA L.length (L.map Lk.val)) (hL : L.length ≤ 4000000) :
    Calls Tryd.prog 14 #[.int .i64 tail, .pointer (some ⟨pb, 0, Option.none⟩)] w fun e w' => e = .returned (lackV L tail).val ∧ w' = w := by
  by_cases h0 : 0 ≤ tail
  · obtain ⟨k, rfl⟩ : ∃ k : Nat, tail = k := ⟨tail.toNat, by omega⟩
    have q0 : decide ((k : Int) < 0) = false := decide_eq_false (by omega)
    by_cases hk : k < L.length
    · have q1 : decide ((L.length : Int) ≤ (k : Int)) = false := decide_eq_false (by omega)
      have q2 : (k : Int) < (L.length : Int) := by omega
      obtain ⟨b, o, rfl, hb, hh⟩ := hr.base (by rw [List.length_map]; omega)
      obtain ⟨x, hx⟩ : ∃ x, L[k] = x := ⟨_, rfl⟩
      have hcel : w.cell? ⟨b, o + k, Option.none⟩ = some (.slice x.A x.n x.c) := hh k _ (by rw [List.getElem?_map, List.getElem?_eq_getElem hk, hx]; rfl)
      have hv : lackV L (k : Int) = x := by unfold lackV; rw [if_pos h0, Int.toNat_natCast, List.getElem?_eq_getElem hk, hx]; rfl
      have HV := Lib.hid hv
      clear hh hx hv hr
      go_enter Tryd.func14, Tryd.ntmps14
      go_wp2_with fail
      go_returns
      exact ⟨by rw [HV.out]; rfl, rfl⟩
    · have q1 : decide ((L.length : Int) ≤ (k : Int)) = true := decide_eq_true (by omega)
      have HV := Lib.hid (show lackV L (k : Int) = .none by unfold lackV; rw [if_pos h0, Int.toNat_natCast, List.getElem?_eq_none (by omega)]; rfl)
      clear hr
      go_enter Tryd.func14, Tryd.ntmps14
      go_wp2_with fail
      go_returns
      exact ⟨by rw [HV.out]; rfl, rfl⟩
  · have q0 : decide (tail < 0) = true := decide_eq_true (by omega)
    have HV := Lib.hid (show lackV L tail = .none by unfold lackV; rw [if_neg h0])
    clear hr
    go_enter Tryd.func14, Tryd.ntmps14
    go_wp2_with fail
    go_returns
    exact ⟨by rw [HV.out]; rfl, rfl⟩

/-- What is told: pairs of a number and a label. -/
def nds (l : List (Int × Str)) : List Value := l.flatMap fun p => [.int .i64 p.1, .string (bstr p.2)]
theorem nds_append (a b : List (Int × Str)) : nds (a ++ b) = nds a ++ nds b := by simp [nds]
theorem nds_len (l : List (Int × Str)) : (nds l).length = l.length * 2 := flat_len (q := 2) (fun _ => rfl) l
def needsOf (L : List Lk) (R : List Int) : List (Int × Str) := R.flatMap fun r => (lackV L r).l.map fun s => (r, s)
theorem needs_snoc (L : List Lk) (R : List Int) (r : Int) : needsOf L (R ++ [r]) = needsOf L R ++ (lackV L r).l.map fun s => (r, s) := by simp [needsOf]
theorem elNeed : ElemTy Tryd.prog 28 43 (.agg #[.int .i64 0, .string ⟨#[]⟩]) 2 24 := ⟨Tryd.underlying28, by kernel_rfl, rfl, by omega, by omega⟩
theorem needs_len (L : List Lk) (hL : ∀ k ∈ L, k.l.length ≤ 4000000) : ∀ (R : List Int), (needsOf L R).length ≤ R.length * 4000000
  | [] => by simp [needsOf]
  | r :: R => by
    have h := needs_len L hL R
    have h2 : (lackV L r).l.length ≤ 4000000 := by
      unfold lackV
      split
      · cases hq : L[r.toNat]? with
        | none => exact Nat.zero_le _
        | some k => exact hL k (List.mem_of_getElem? hq)
      · exact Nat.zero_le _
    have e : needsOf L (r :: R) = ((lackV L r).l.map fun s => (r, s)) ++ needsOf L R := by simp [needsOf]
    rw [e, List.length_append, List.length_map, List.length_cons, Nat.add_mul]
    omega
theorem two_one (x : Int) (s : ByteArray) : ∀ u ∈ (#[Value.int .i64 x, .string s] : Array Value).toList, u.oneCell' = true := by
  intro u hu; simp at hu; rcases hu with rfl | rfl <;> rfl

theorem needCatch_idle (p : Addr) (w : World) :
    CallsD Tryd.prog 27 #[.pointer (some p)] .returning w fun e u' w' => e = .returned (.tuple #[]) ∧ u' = .returning ∧ w' = w := by
  refine callsD_of_wpS Tryd.func27 rfl fun c₀ cs hu => ?_
  apply wpS_seq
  apply wpS_region
  simp [wpOpsS, go_sem, recoverD, hu, Tryd.ntmps27, Exit.thenS]
  refine wpS_cond (t := false) (by simp [Act.eval, Array.replicate]) ?_
  simp only [Bool.false_eq_true, if_false]
  refine wpS_of_wp (wp_skip ?_)
  cases c₀
  simp_all [bodyPostS, results, Tryd.results27]
end Go.Proofs.YtlgmddnpmmggdaaDoor
