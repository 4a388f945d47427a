/-
  What operators make of integers and texts.
  The machine: an operator. (Made by gen_mar.py.)
  Whether an expression has as many parts as its kind asks for. (Made by gen_mat17.py.)
  model's machine begins an expression: its simple kinds.
  model's machine begins an expression: its simple kinds. (Made by gen_mav.py.)
  model's machine begins a function.
-/
import Derived.Test.YtjmgnohepoacbaaDoorK02
import Derived.IntWalk
import Derived.BigQuiet
import Derived.StillTailTactics
namespace Go.Proofs.YtjmgnohepoacbaaDoor
open Go.ChangeShapes Go.WideShapes Go.ChangeAt Go.RowKit Go.Sort
set_option linter.unusedVariables false
set_option linter.unusedSimpArgs false

theorem bstr_app (a b : Str) : bstr a ++ bstr b = bstr (a ++ b) := by
  apply ByteArray.ext
  simp [bstr]
theorem bstr_get (a : Str) (k : Nat) (h : k < a.length) (h' : k < (bstr a).size) : (bstr a)[k] = a[k] := by
  show (bstr a).data[k] = _
  simp [bstr]
  rfl
theorem truth_any (w : World) (x : Bool) : Calls Tryd.prog 72 #[.bool x] w fun e w' => e = .returned (.int .i64 (if x = true then 1 else 0)) ∧ Below w.heap.size w w' := by
  cases x with
  | true =>
    go_enter Tryd.func72, Tryd.ntmps72
    go_wp2_with fail
    go_returns
    exact ⟨rfl, Below.refl _ _⟩
  | false =>
    go_enter Tryd.func72, Tryd.ntmps72
    go_wp2_with fail
    go_returns
    exact ⟨rfl, Below.refl _ _⟩
def joinOf (a b : Str) : Str × Int := if 2000 < a.length + b.length then ([], 2) else (a ++ b, 0)
set_option maxHeartbeats 1000000 in
theorem join_any (w : World) (a b : Str) (ha : a.length ≤ 4000000) (hb : b.length ≤ 4000000) : Calls Tryd.prog 62 #[.string (bstr a), .string (bstr b)] w fun e w' => e = .returned (.tuple #[.string (bstr (joinOf a b).1), .int .i64 (joinOf a b).2]) ∧ Below w.heap.size w w' := by
  have h1 : ((bstr a).size : Int) ≤ 4000000 := by rw [bstr_size]; omega
  have h2 : ((bstr b).size : Int) ≤ 4000000 := by rw [bstr_size]; omega
  by_cases h : 2000 < a.length + b.length
  · have e : joinOf a b = ([], 2) := by unfold joinOf; rw [if_pos h]
    have h3 : (2000 : Int) < ((bstr a).size : Int) + ((bstr b).size : Int) := by rw [bstr_size, bstr_size]; omega
    rw [e]
    clear e h
    go_enter Tryd.func62, Tryd.ntmps62
    go_wp2_with fail
    go_returns
    exact ⟨rfl, Below.refl _ _⟩
  · have e : joinOf a b = (a ++ b, 0) := by unfold joinOf; rw [if_neg h]
    have h3 : ¬ (2000 : Int) < ((bstr a).size : Int) + ((bstr b).size : Int) := by rw [bstr_size, bstr_size]; omega
    have h4 : (bstr a).size + (bstr b).size ≤ 2000 := by rw [bstr_size, bstr_size]; omega
    rw [e]
    clear e h
    go_enter Tryd.func62, Tryd.ntmps62
    go_wp2_with fail
    go_returns
    exact ⟨by rw [← bstr_app]; rfl, Below.refl _ _⟩
def byteOf (a : Str) (n : Int) : Int × Int := if n < 0 ∨ (a.length : Int) ≤ n then (0, 2) else (((a[n.toNat]?.getD 0).toNat : Int), 0)
set_option maxHeartbeats 1000000 in
theorem byte_any (w : World) (a : Str) (n : Int) (ha : a.length ≤ 4000000) : Calls Tryd.prog 63 #[.string (bstr a), .int .i64 n] w fun e w' => e = .returned (.tuple #[.int .i64 (byteOf a n).1, .int .i64 (byteOf a n).2]) ∧ Below w.heap.size w w' := by
  have h1 : ((bstr a).size : Int) ≤ 4000000 := by rw [bstr_size]; omega
  by_cases h : n < 0
  · have e : byteOf a n = (0, 2) := by unfold byteOf; rw [if_pos (.inl h)]
    rw [e]
    clear e
    go_enter Tryd.func63, Tryd.ntmps63
    go_wp2_with fail
    go_returns
    exact ⟨rfl, Below.refl _ _⟩
  · by_cases h' : (a.length : Int) ≤ n
    · have e : byteOf a n = (0, 2) := by unfold byteOf; rw [if_pos (.inr h')]
      have h3 : ((bstr a).size : Int) ≤ n := by rw [bstr_size]; omega
      rw [e]
      clear e
      go_enter Tryd.func63, Tryd.ntmps63
      go_wp2_with fail
      go_returns
      exact ⟨rfl, Below.refl _ _⟩
    · have e : byteOf a n = (((a[n.toNat]?.getD 0).toNat : Int), 0) := by unfold byteOf; rw [if_neg (by intro h; rcases h with h | h <;> contradiction)]
      have h3 : ¬ ((bstr a).size : Int) ≤ n := by rw [bstr_size]; omega
      rw [e]
      clear e
      go_enter Tryd.func63, Tryd.ntmps63
      go_wp2_with fail
      go_returns
      refine ⟨?_, Below.refl _ _⟩
      have hk : n.toNat < a.length := by omega
      rw [bstr_get a _ hk, IntWalk.wrap64_in _ (by have := (a[n.toNat]).toNat_lt; omega), List.getElem?_eq_getElem hk]
      rfl
/-- What an operator makes of two integers: the number, the fault, whether there is such an operator. -/
def intsOf (s : Str) (a b : Int) : Int × Int × Bool :=
  if s = [43] then (wrap64 (a + b), 0, true)
  else if s = [45] then (wrap64 (a - b), 0, true)
  else if s = [42] then (wrap64 (a * b), 0, true)
  else if s = [47] then (if b = 0 then (0, 1, true) else (wrap64 (a.tdiv b), 0, true))
  else if s = [60] then ((if a < b then 1 else 0), 0, true)
  else if s = [61, 61] then ((if a = b then 1 else 0), 0, true)
  else (0, 0, false)
theorem eqStr (s t : Str) : ((bstr s).toList == (bstr t).toList) = decide (s = t) := by rw [bstr_toList, bstr_toList]; by_cases h : s = t <;> simp [h]
set_option maxHeartbeats 4000000 in
theorem ints_any (w : World) (s : Str) (a b : Int) (ha : -9223372036854775808 ≤ a ∧ a ≤ 9223372036854775807) (hb : -9223372036854775808 ≤ b ∧ b ≤ 9223372036854775807) : Calls Tryd.prog 64 #[.string (bstr s), .int .i64 a, .int .i64 b] w fun e w' => e = .returned (.tuple #[.int .i64 (intsOf s a b).1, .int .i64 (intsOf s a b).2.1, .bool (intsOf s a b).2.2]) ∧ Below w.heap.size w w' := by
  by_cases h0 : s = [43]
  · subst h0
    have e : intsOf [43] a b = (wrap64 (a + b), 0, true) := by rfl
    rw [e]
    clear e
    have f0 : ((bstr [43]).toList == [43]) = true := by rw [bstr_toList]; rfl
    have f1 : ((bstr [43]).toList == [45]) = false := by rw [bstr_toList]; rfl
    have f2 : ((bstr [43]).toList == [42]) = false := by rw [bstr_toList]; rfl
    have f3 : ((bstr [43]).toList == [47]) = false := by rw [bstr_toList]; rfl
    have f4 : ((bstr [43]).toList == [60]) = false := by rw [bstr_toList]; rfl
    have f5 : ((bstr [43]).toList == [61, 61]) = false := by rw [bstr_toList]; rfl
    go_enter Tryd.func64, Tryd.ntmps64
    go_wp2_with fail
    go_returns
    exact ⟨rfl, Below.refl _ _⟩
  by_cases h1 : s = [45]
  · subst h1
    have e : intsOf [45] a b = (wrap64 (a - b), 0, true) := by rfl
    rw [e]
    clear e
    have f0 : ((bstr [45]).toList == [43]) = false := by rw [bstr_toList]; rfl
    have f1 : ((bstr [45]).toList == [45]) = true := by rw [bstr_toList]; rfl
    have f2 : ((bstr [45]).toList == [42]) = false := by rw [bstr_toList]; rfl
    have f3 : ((bstr [45]).toList == [47]) = false := by rw [bstr_toList]; rfl
    have f4 : ((bstr [45]).toList == [60]) = false := by rw [bstr_toList]; rfl
    have f5 : ((bstr [45]).toList == [61, 61]) = false := by rw [bstr_toList]; rfl
    go_enter Tryd.func64, Tryd.ntmps64
    go_wp2_with fail
    go_returns
    exact ⟨rfl, Below.refl _ _⟩
  by_cases h2 : s = [42]
  · subst h2
    have e : intsOf [42] a b = (wrap64 (a * b), 0, true) := by rfl
    rw [e]
    clear e
    have f0 : ((bstr [42]).toList == [43]) = false := by rw [bstr_toList]; rfl
    have f1 : ((bstr [42]).toList == [45]) = false := by rw [bstr_toList]; rfl
    have f2 : ((bstr [42]).toList == [42]) = true := by rw [bstr_toList]; rfl
    have f3 : ((bstr [42]).toList == [47]) = false := by rw [bstr_toList]; rfl
    have f4 : ((bstr [42]).toList == [60]) = false := by rw [bstr_toList]; rfl
    have f5 : ((bstr [42]).toList == [61, 61]) = false := by rw [bstr_toList]; rfl
    go_enter Tryd.func64, Tryd.ntmps64
    go_wp2_with fail
    go_returns
    exact ⟨rfl, Below.refl _ _⟩
  by_cases h3 : s = [47]
  · subst h3
    by_cases hb0 : b = 0
    · subst hb0
      have e : intsOf [47] a 0 = (0, 1, true) := by rfl
      rw [e]
      clear e
      have f0 : ((bstr [47]).toList == [43]) = false := by rw [bstr_toList]; rfl
      have f1 : ((bstr [47]).toList == [45]) = false := by rw [bstr_toList]; rfl
      have f2 : ((bstr [47]).toList == [42]) = false := by rw [bstr_toList]; rfl
      have f3 : ((bstr [47]).toList == [47]) = true := by rw [bstr_toList]; rfl
      have f4 : ((bstr [47]).toList == [60]) = false := by rw [bstr_toList]; rfl
      have f5 : ((bstr [47]).toList == [61, 61]) = false := by rw [bstr_toList]; rfl
      go_enter Tryd.func64, Tryd.ntmps64
      go_wp2_with fail
      go_returns
      exact ⟨rfl, Below.refl _ _⟩
    · have e : intsOf [47] a b = (wrap64 (a.tdiv b), 0, true) := by show (if b = 0 then _ else _) = _; rw [if_neg hb0]
      rw [e]
      clear e
      have f0 : ((bstr [47]).toList == [43]) = false := by rw [bstr_toList]; rfl
      have f1 : ((bstr [47]).toList == [45]) = false := by rw [bstr_toList]; rfl
      have f2 : ((bstr [47]).toList == [42]) = false := by rw [bstr_toList]; rfl
      have f3 : ((bstr [47]).toList == [47]) = true := by rw [bstr_toList]; rfl
      have f4 : ((bstr [47]).toList == [60]) = false := by rw [bstr_toList]; rfl
      have f5 : ((bstr [47]).toList == [61, 61]) = false := by rw [bstr_toList]; rfl
      go_enter Tryd.func64, Tryd.ntmps64
      go_wp2_with fail
      go_returns
      exact ⟨rfl, Below.refl _ _⟩
  by_cases h4 : s = [60]
  · subst h4
    have e : intsOf [60] a b = ((if a < b then 1 else 0), 0, true) := by rfl
    rw [e]
    clear e
    have f0 : ((bstr [60]).toList == [43]) = false := by rw [bstr_toList]; rfl
    have f1 : ((bstr [60]).toList == [45]) = false := by rw [bstr_toList]; rfl
    have f2 : ((bstr [60]).toList == [42]) = false := by rw [bstr_toList]; rfl
    have f3 : ((bstr [60]).toList == [47]) = false := by rw [bstr_toList]; rfl
    have f4 : ((bstr [60]).toList == [60]) = true := by rw [bstr_toList]; rfl
    have f5 : ((bstr [60]).toList == [61, 61]) = false := by rw [bstr_toList]; rfl
    have HC := Lib.hid (fun (x : Bool) (w : World) => truth_any w x)
    go_enter Tryd.func64, Tryd.ntmps64
    go_wp2_with (go_at_call 72; (with_reducible refine (HC.out _ _).mono ?_); rintro e1 w1 ⟨rfl, hb1⟩; clear HC)
    all_goals
      go_returns
      exact ⟨by simp [*], hb1⟩
  by_cases h5 : s = [61, 61]
  · subst h5
    have e : intsOf [61, 61] a b = ((if a = b then 1 else 0), 0, true) := by rfl
    rw [e]
    clear e
    have f0 : ((bstr [61, 61]).toList == [43]) = false := by rw [bstr_toList]; rfl
    have f1 : ((bstr [61, 61]).toList == [45]) = false := by rw [bstr_toList]; rfl
    have f2 : ((bstr [61, 61]).toList == [42]) = false := by rw [bstr_toList]; rfl
    have f3 : ((bstr [61, 61]).toList == [47]) = false := by rw [bstr_toList]; rfl
    have f4 : ((bstr [61, 61]).toList == [60]) = false := by rw [bstr_toList]; rfl
    have f5 : ((bstr [61, 61]).toList == [61, 61]) = true := by rw [bstr_toList]; rfl
    have HC := Lib.hid (fun (x : Bool) (w : World) => truth_any w x)
    go_enter Tryd.func64, Tryd.ntmps64
    go_wp2_with (go_at_call 72; (with_reducible refine (HC.out _ _).mono ?_); rintro e1 w1 ⟨rfl, hb1⟩; clear HC)
    all_goals
      go_returns
      exact ⟨by simp [*], hb1⟩
  have e : intsOf s a b = (0, 0, false) := by unfold intsOf; rw [if_neg h0, if_neg h1, if_neg h2, if_neg h3, if_neg h4, if_neg h5]
  rw [e]
  clear e
  have f0 : ((bstr s).toList == [43]) = false := by rw [bstr_toList]; simpa using h0
  have f1 : ((bstr s).toList == [45]) = false := by rw [bstr_toList]; simpa using h1
  have f2 : ((bstr s).toList == [42]) = false := by rw [bstr_toList]; simpa using h2
  have f3 : ((bstr s).toList == [47]) = false := by rw [bstr_toList]; simpa using h3
  have f4 : ((bstr s).toList == [60]) = false := by rw [bstr_toList]; simpa using h4
  have f5 : ((bstr s).toList == [61, 61]) = false := by rw [bstr_toList]; simpa using h5
  go_enter Tryd.func64, Tryd.ntmps64
  go_wp2_with fail
  go_returns
  exact ⟨rfl, Below.refl _ _⟩
end Go.Proofs.YtjmgnohepoacbaaDoor

namespace Go.Proofs.YtjmgnohepoacbaaDoor
open Go.ChangeShapes Go.WideShapes Go.ChangeAt Go.RowKit Go.Sort
set_option linter.unusedVariables false
set_option linter.unusedSimpArgs false

def St.oper (s : St) (o : Str) (x y : Val) : St :=
  if o = [94] ∧ x.sort = 2 ∧ y.sort = 2 then s.tell (.mk 2 0 (joinOf x.s y.s).1 [] [] none) (joinOf x.s y.s).2 true
  else if o = [35] ∧ x.sort = 2 ∧ y.sort = 1 then s.tell (.mk 1 (byteOf x.s y.n).1 [] [] [] none) (byteOf x.s y.n).2 true
  else if x.sort = 1 ∧ y.sort = 1 then s.tell (.mk 1 (intsOf o x.n y.n).1 [] [] [] none) (intsOf o x.n y.n).2.1 (intsOf o x.n y.n).2.2
  else s.tell (.mk 1 0 [] [] [] none) 0 false
section
variable {w0 w : World} {B mb : Nat} {s : St} {t i r v f nx nm : Value} {rcs vcs fcs : List (List Value)}
/-- A value without parts is told, or a fault. -/
theorem tellG_any (h : Rep w0 B mb s w t i r v f nx nm rcs vcs fcs) (hn : s.vals.length ≤ 100000000000) (sort n : Int) (st : Str) (k : Int) (is : Bool) :
    Calls Tryd.prog 35 #[.pointer (some ⟨mb, 0, none⟩), .agg #[.int .i64 sort, .int .i64 n, .string (bstr st), .slice none 0 0, .slice none 0 0, .pointer none], .int .i64 k, .bool is] w fun e w' => e = .returned (.tuple #[]) ∧ Post w0 B mb (Mv mb t r v f) w (s.tell (.mk sort n st [] [] none) k is) w' :=
  tellF_any h hn (.mk sort n st [] [] none) none 0 none none 0 k is (fun _ _ => plain_vr w0 w _ sort n st)
theorem tellH_any (h : Rep w0 B mb s w t i r v f nx nm rcs vcs fcs) (hn : s.vals.length ≤ 100000000000) (sort n : Int) (k : Int) (is : Bool) :
    Calls Tryd.prog 35 #[.pointer (some ⟨mb, 0, none⟩), .agg #[.int .i64 sort, .int .i64 n, .string ⟨#[]⟩, .slice none 0 0, .slice none 0 0, .pointer none], .int .i64 k, .bool is] w fun e w' => e = .returned (.tuple #[]) ∧ Post w0 B mb (Mv mb t r v f) w (s.tell (.mk sort n [] [] [] none) k is) w' :=
  tellG_any h hn sort n [] k is
set_option maxHeartbeats 4000000 in
theorem operJ_any (h : Rep w0 B mb s w t i r v f nx nm rcs vcs fcs) (hn : s.vals.length ≤ 100000000000) (o : Str) (x y : Val) (A : Option Addr) (c : Nat) (p : Option Addr) (LA : Option Addr) (lc : Nat) (A6 : Option Addr) (k6 : Nat) (q6 : Option Addr) (LA6 : Option Addr) (lk6 : Nat) (ho : o = [94]) (hx : x.sort = 2) (hy : y.sort = 2) (h1 : x.s.length ≤ 4000000) (h2 : y.s.length ≤ 4000000) :
    Calls Tryd.prog 40 #[.pointer (some ⟨mb, 0, none⟩), .string (bstr o), .agg #[.int .i64 x.sort, .int .i64 x.n, .string (bstr x.s), .slice LA x.labels.length lc, .slice A x.l.length c, .pointer p], .agg #[.int .i64 y.sort, .int .i64 y.n, .string (bstr y.s), .slice LA6 y.labels.length lk6, .slice A6 y.l.length k6, .pointer q6]] w fun e w' => e = .returned (.tuple #[]) ∧ Post w0 B mb (Mv mb t r v f) w (s.oper o x y) w' := by
  have e : s.oper o x y = s.tell (.mk 2 0 (joinOf x.s y.s).1 [] [] none) (joinOf x.s y.s).2 true := by unfold St.oper; rw [if_pos ⟨ho, hx, hy⟩]
  rw [e, hx, hy]
  subst ho
  clear e hx hy
  have hb1 : Below w.heap.size w (w.alloc (.cells #[.int .i64 2, .int .i64 x.n, .string (bstr x.s), .slice LA x.labels.length lc, .slice A x.l.length c, .pointer p] 45)) := (Below.refl _ _).alloc (Nat.le_refl _) _
  have hb2 : Below w.heap.size w ((w.alloc (.cells #[.int .i64 2, .int .i64 x.n, .string (bstr x.s), .slice LA x.labels.length lc, .slice A x.l.length c, .pointer p] 45)).alloc (.cells #[.int .i64 2, .int .i64 y.n, .string (bstr y.s), .slice LA6 y.labels.length lk6, .slice A6 y.l.length k6, .pointer q6] 45)) := hb1.alloc (by rw [World.size_alloc]; omega) _
  have hb3 : Below w.heap.size w (((w.alloc (.cells #[.int .i64 2, .int .i64 x.n, .string (bstr x.s), .slice LA x.labels.length lc, .slice A x.l.length c, .pointer p] 45)).alloc (.cells #[.int .i64 2, .int .i64 y.n, .string (bstr y.s), .slice LA6 y.labels.length lk6, .slice A6 y.l.length k6, .pointer q6] 45)).alloc (.cells #[.int .i64 2, .int .i64 0, .string ⟨#[]⟩, .slice none 0 0, .slice none 0 0, .pointer none] 45)) := hb2.alloc (by rw [World.size_alloc, World.size_alloc]; omega) _
  have s2 : ((w.alloc (.cells #[.int .i64 2, .int .i64 x.n, .string (bstr x.s), .slice LA x.labels.length lc, .slice A x.l.length c, .pointer p] 45)).alloc (.cells #[.int .i64 2, .int .i64 y.n, .string (bstr y.s), .slice LA6 y.labels.length lk6, .slice A6 y.l.length k6, .pointer q6] 45)).heap.size = w.heap.size + 2 := by rw [World.size_alloc, World.size_alloc]
  have hX0 : (((w.alloc (.cells #[.int .i64 2, .int .i64 x.n, .string (bstr x.s), .slice LA x.labels.length lc, .slice A x.l.length c, .pointer p] 45)).alloc (.cells #[.int .i64 2, .int .i64 y.n, .string (bstr y.s), .slice LA6 y.labels.length lk6, .slice A6 y.l.length k6, .pointer q6] 45)).alloc (.cells #[.int .i64 2, .int .i64 0, .string ⟨#[]⟩, .slice none 0 0, .slice none 0 0, .pointer none] 45)).heap[w.heap.size]? = some (.cells #[.int .i64 2, .int .i64 x.n, .string (bstr x.s), .slice LA x.labels.length lc, .slice A x.l.length c, .pointer p] 45) := (Below.heap_alloc _ _ _ (by rw [s2]; omega)).trans ((Below.heap_alloc _ _ _ (by rw [World.size_alloc]; omega)).trans (heap_new rfl))
  have hX1 : (((w.alloc (.cells #[.int .i64 2, .int .i64 x.n, .string (bstr x.s), .slice LA x.labels.length lc, .slice A x.l.length c, .pointer p] 45)).alloc (.cells #[.int .i64 2, .int .i64 y.n, .string (bstr y.s), .slice LA6 y.labels.length lk6, .slice A6 y.l.length k6, .pointer q6] 45)).alloc (.cells #[.int .i64 2, .int .i64 0, .string ⟨#[]⟩, .slice none 0 0, .slice none 0 0, .pointer none] 45)).heap[w.heap.size + 1]? = some (.cells #[.int .i64 2, .int .i64 y.n, .string (bstr y.s), .slice LA6 y.labels.length lk6, .slice A6 y.l.length k6, .pointer q6] 45) := (Below.heap_alloc _ _ _ (by rw [s2]; omega)).trans (heap_new (World.size_alloc _ _))
  have hX2 : (((w.alloc (.cells #[.int .i64 2, .int .i64 x.n, .string (bstr x.s), .slice LA x.labels.length lc, .slice A x.l.length c, .pointer p] 45)).alloc (.cells #[.int .i64 2, .int .i64 y.n, .string (bstr y.s), .slice LA6 y.labels.length lk6, .slice A6 y.l.length k6, .pointer q6] 45)).alloc (.cells #[.int .i64 2, .int .i64 0, .string ⟨#[]⟩, .slice none 0 0, .slice none 0 0, .pointer none] 45)).heap[w.heap.size + 2]? = some (.cells #[.int .i64 2, .int .i64 0, .string ⟨#[]⟩, .slice none 0 0, .slice none 0 0, .pointer none] 45) := heap_new s2
  obtain ⟨a0, a1, a2, a3, a4, a5⟩ := cells6 hX0
  obtain ⟨d0, d1, d2, d3, d4, d5⟩ := cells6 hX1
  have HB3 := Lib.hid hb3
  have HX2 := Lib.hid hX2
  have HH := Lib.hid h
  have HN := Lib.hid hn
  have HBM := Lib.hid (fun (wr : World) (hb : Below w.heap.size w wr) => And.intro (Tr.below (P := Mv mb t r v f) hb) (hb.mono (Nat.le_of_lt (Nat.lt_of_le_of_lt h.base.2 h.lt))))
  have HC := Lib.hid (fun W => join_any W x.s y.s h1 h2)
  have f0 : ((bstr [94]).toList == [94]) = true := by rw [bstr_toList]; rfl
  clear h1 h2
  clear h hn hb1 hb2 hb3 hX0 hX1 hX2 s2
  go_enter Tryd.func40, Tryd.ntmps40
  go_wp2_with (first | (go_at_call 62; (with_reducible refine (HC.out _).mono ?_); rintro e1 w1 ⟨rfl, hb1⟩; have hq := (hb1.block _ (lt_of_heap HX2.out)).trans HX2.out; obtain ⟨g0, g1, g2, g3, g4, g5⟩ := cells6 hq; have z2 := frozenN hq 2; have gs : (w1.setCell ⟨w.heap.size + 2, 2, none⟩ (.string (bstr (joinOf x.s y.s).1))).cell? ⟨w.heap.size + 2, 2, none⟩ = some (.string (bstr (joinOf x.s y.s).1)) := (by rw [Lib.cell_of_heap (set_cells hq 2 _)]; rfl); have hbw : Below w.heap.size w (w1.setCell ⟨w.heap.size + 2, 2, none⟩ (.string (bstr (joinOf x.s y.s).1))) := (below_then HB3.out hb1).setCell (p := ⟨w.heap.size + 2, 2, none⟩) (by show w.heap.size ≤ w.heap.size + 2; omega) _; have HBW := Lib.hid hbw; have HT := Lib.hid (tellG_any (HH.out.below hbw) HN.out 2 0 (joinOf x.s y.s).1 (joinOf x.s y.s).2 true); clear hb1 hq hbw HC) | (go_at_call 35; (with_reducible refine HT.out.mono ?_); rintro e1 w2 ⟨rfl, hp⟩; have HP := Lib.hid hp; clear hp HT))
  go_returns
  with_reducible exact ⟨rfl, HP.out.mono (HBM.out _ HBW.out).1 (HBM.out _ HBW.out).2⟩
set_option maxHeartbeats 4000000 in
theorem operB_any (h : Rep w0 B mb s w t i r v f nx nm rcs vcs fcs) (hn : s.vals.length ≤ 100000000000) (o : Str) (x y : Val) (A : Option Addr) (c : Nat) (p : Option Addr) (LA : Option Addr) (lc : Nat) (A6 : Option Addr) (k6 : Nat) (q6 : Option Addr) (LA6 : Option Addr) (lk6 : Nat) (ho : o = [35]) (hx : x.sort = 2) (hy : y.sort = 1) (h1 : x.s.length ≤ 4000000) :
    Calls Tryd.prog 40 #[.pointer (some ⟨mb, 0, none⟩), .string (bstr o), .agg #[.int .i64 x.sort, .int .i64 x.n, .string (bstr x.s), .slice LA x.labels.length lc, .slice A x.l.length c, .pointer p], .agg #[.int .i64 y.sort, .int .i64 y.n, .string (bstr y.s), .slice LA6 y.labels.length lk6, .slice A6 y.l.length k6, .pointer q6]] w fun e w' => e = .returned (.tuple #[]) ∧ Post w0 B mb (Mv mb t r v f) w (s.oper o x y) w' := by
  have e : s.oper o x y = s.tell (.mk 1 (byteOf x.s y.n).1 [] [] [] none) (byteOf x.s y.n).2 true := by unfold St.oper; rw [if_neg (by rw [hy]; simp), if_pos ⟨ho, hx, hy⟩]
  rw [e, hx, hy]
  subst ho
  clear e hx hy
  have hb1 : Below w.heap.size w (w.alloc (.cells #[.int .i64 2, .int .i64 x.n, .string (bstr x.s), .slice LA x.labels.length lc, .slice A x.l.length c, .pointer p] 45)) := (Below.refl _ _).alloc (Nat.le_refl _) _
  have hb2 : Below w.heap.size w ((w.alloc (.cells #[.int .i64 2, .int .i64 x.n, .string (bstr x.s), .slice LA x.labels.length lc, .slice A x.l.length c, .pointer p] 45)).alloc (.cells #[.int .i64 1, .int .i64 y.n, .string (bstr y.s), .slice LA6 y.labels.length lk6, .slice A6 y.l.length k6, .pointer q6] 45)) := hb1.alloc (by rw [World.size_alloc]; omega) _
  have hb3 : Below w.heap.size w (((w.alloc (.cells #[.int .i64 2, .int .i64 x.n, .string (bstr x.s), .slice LA x.labels.length lc, .slice A x.l.length c, .pointer p] 45)).alloc (.cells #[.int .i64 1, .int .i64 y.n, .string (bstr y.s), .slice LA6 y.labels.length lk6, .slice A6 y.l.length k6, .pointer q6] 45)).alloc (.cells #[.int .i64 1, .int .i64 0, .string ⟨#[]⟩, .slice none 0 0, .slice none 0 0, .pointer none] 45)) := hb2.alloc (by rw [World.size_alloc, World.size_alloc]; omega) _
  have s2 : ((w.alloc (.cells #[.int .i64 2, .int .i64 x.n, .string (bstr x.s), .slice LA x.labels.length lc, .slice A x.l.length c, .pointer p] 45)).alloc (.cells #[.int .i64 1, .int .i64 y.n, .string (bstr y.s), .slice LA6 y.labels.length lk6, .slice A6 y.l.length k6, .pointer q6] 45)).heap.size = w.heap.size + 2 := by rw [World.size_alloc, World.size_alloc]
  have hX0 : (((w.alloc (.cells #[.int .i64 2, .int .i64 x.n, .string (bstr x.s), .slice LA x.labels.length lc, .slice A x.l.length c, .pointer p] 45)).alloc (.cells #[.int .i64 1, .int .i64 y.n, .string (bstr y.s), .slice LA6 y.labels.length lk6, .slice A6 y.l.length k6, .pointer q6] 45)).alloc (.cells #[.int .i64 1, .int .i64 0, .string ⟨#[]⟩, .slice none 0 0, .slice none 0 0, .pointer none] 45)).heap[w.heap.size]? = some (.cells #[.int .i64 2, .int .i64 x.n, .string (bstr x.s), .slice LA x.labels.length lc, .slice A x.l.length c, .pointer p] 45) := (Below.heap_alloc _ _ _ (by rw [s2]; omega)).trans ((Below.heap_alloc _ _ _ (by rw [World.size_alloc]; omega)).trans (heap_new rfl))
  have hX1 : (((w.alloc (.cells #[.int .i64 2, .int .i64 x.n, .string (bstr x.s), .slice LA x.labels.length lc, .slice A x.l.length c, .pointer p] 45)).alloc (.cells #[.int .i64 1, .int .i64 y.n, .string (bstr y.s), .slice LA6 y.labels.length lk6, .slice A6 y.l.length k6, .pointer q6] 45)).alloc (.cells #[.int .i64 1, .int .i64 0, .string ⟨#[]⟩, .slice none 0 0, .slice none 0 0, .pointer none] 45)).heap[w.heap.size + 1]? = some (.cells #[.int .i64 1, .int .i64 y.n, .string (bstr y.s), .slice LA6 y.labels.length lk6, .slice A6 y.l.length k6, .pointer q6] 45) := (Below.heap_alloc _ _ _ (by rw [s2]; omega)).trans (heap_new (World.size_alloc _ _))
  have hX2 : (((w.alloc (.cells #[.int .i64 2, .int .i64 x.n, .string (bstr x.s), .slice LA x.labels.length lc, .slice A x.l.length c, .pointer p] 45)).alloc (.cells #[.int .i64 1, .int .i64 y.n, .string (bstr y.s), .slice LA6 y.labels.length lk6, .slice A6 y.l.length k6, .pointer q6] 45)).alloc (.cells #[.int .i64 1, .int .i64 0, .string ⟨#[]⟩, .slice none 0 0, .slice none 0 0, .pointer none] 45)).heap[w.heap.size + 2]? = some (.cells #[.int .i64 1, .int .i64 0, .string ⟨#[]⟩, .slice none 0 0, .slice none 0 0, .pointer none] 45) := heap_new s2
  obtain ⟨a0, a1, a2, a3, a4, a5⟩ := cells6 hX0
  obtain ⟨d0, d1, d2, d3, d4, d5⟩ := cells6 hX1
  have HB3 := Lib.hid hb3
  have HX2 := Lib.hid hX2
  have HH := Lib.hid h
  have HN := Lib.hid hn
  have HBM := Lib.hid (fun (wr : World) (hb : Below w.heap.size w wr) => And.intro (Tr.below (P := Mv mb t r v f) hb) (hb.mono (Nat.le_of_lt (Nat.lt_of_le_of_lt h.base.2 h.lt))))
  have HC := Lib.hid (fun W => byte_any W x.s y.n h1)
  have f0 : ((bstr [35]).toList == [94]) = false := by rw [bstr_toList]; rfl
  have f1 : ((bstr [35]).toList == [35]) = true := by rw [bstr_toList]; rfl
  clear h1
  clear h hn hb1 hb2 hb3 hX0 hX1 hX2 s2
  go_enter Tryd.func40, Tryd.ntmps40
  go_wp2_with (first | (go_at_call 63; (with_reducible refine (HC.out _).mono ?_); rintro e1 w1 ⟨rfl, hb1⟩; have hq := (hb1.block _ (lt_of_heap HX2.out)).trans HX2.out; obtain ⟨g0, g1, g2, g3, g4, g5⟩ := cells6 hq; have z1 := frozenN hq 1; have gs : (w1.setCell ⟨w.heap.size + 2, 1, none⟩ (.int .i64 (byteOf x.s y.n).1)).cell? ⟨w.heap.size + 2, 1, none⟩ = some (.int .i64 (byteOf x.s y.n).1) := (by rw [Lib.cell_of_heap (set_cells hq 1 _)]; rfl); have hbw : Below w.heap.size w (w1.setCell ⟨w.heap.size + 2, 1, none⟩ (.int .i64 (byteOf x.s y.n).1)) := (below_then HB3.out hb1).setCell (p := ⟨w.heap.size + 2, 1, none⟩) (by show w.heap.size ≤ w.heap.size + 2; omega) _; have HBW := Lib.hid hbw; have HT := Lib.hid (tellH_any (HH.out.below hbw) HN.out 1 (byteOf x.s y.n).1 (byteOf x.s y.n).2 true); clear hb1 hq hbw HC) | (go_at_call 35; (with_reducible refine HT.out.mono ?_); rintro e1 w2 ⟨rfl, hp⟩; have HP := Lib.hid hp; clear hp HT))
  go_returns
  with_reducible exact ⟨rfl, HP.out.mono (HBM.out _ HBW.out).1 (HBM.out _ HBW.out).2⟩
set_option maxHeartbeats 4000000 in
theorem operI_any (h : Rep w0 B mb s w t i r v f nx nm rcs vcs fcs) (hn : s.vals.length ≤ 100000000000) (o : Str) (x y : Val) (A : Option Addr) (c : Nat) (p : Option Addr) (LA : Option Addr) (lc : Nat) (A6 : Option Addr) (k6 : Nat) (q6 : Option Addr) (LA6 : Option Addr) (lk6 : Nat) (hx : x.sort = 1) (hy : y.sort = 1) (h1 : -9223372036854775808 ≤ x.n ∧ x.n ≤ 9223372036854775807) (h2 : -9223372036854775808 ≤ y.n ∧ y.n ≤ 9223372036854775807) :
    Calls Tryd.prog 40 #[.pointer (some ⟨mb, 0, none⟩), .string (bstr o), .agg #[.int .i64 x.sort, .int .i64 x.n, .string (bstr x.s), .slice LA x.labels.length lc, .slice A x.l.length c, .pointer p], .agg #[.int .i64 y.sort, .int .i64 y.n, .string (bstr y.s), .slice LA6 y.labels.length lk6, .slice A6 y.l.length k6, .pointer q6]] w fun e w' => e = .returned (.tuple #[]) ∧ Post w0 B mb (Mv mb t r v f) w (s.oper o x y) w' := by
  have e : s.oper o x y = s.tell (.mk 1 (intsOf o x.n y.n).1 [] [] [] none) (intsOf o x.n y.n).2.1 (intsOf o x.n y.n).2.2 := by unfold St.oper; rw [if_neg (by rw [hx]; simp), if_neg (by rw [hx]; simp), if_pos ⟨hx, hy⟩]
  rw [e, hx, hy]
  clear e hx hy
  have hb1 : Below w.heap.size w (w.alloc (.cells #[.int .i64 1, .int .i64 x.n, .string (bstr x.s), .slice LA x.labels.length lc, .slice A x.l.length c, .pointer p] 45)) := (Below.refl _ _).alloc (Nat.le_refl _) _
  have hb2 : Below w.heap.size w ((w.alloc (.cells #[.int .i64 1, .int .i64 x.n, .string (bstr x.s), .slice LA x.labels.length lc, .slice A x.l.length c, .pointer p] 45)).alloc (.cells #[.int .i64 1, .int .i64 y.n, .string (bstr y.s), .slice LA6 y.labels.length lk6, .slice A6 y.l.length k6, .pointer q6] 45)) := hb1.alloc (by rw [World.size_alloc]; omega) _
  have hb3 : Below w.heap.size w (((w.alloc (.cells #[.int .i64 1, .int .i64 x.n, .string (bstr x.s), .slice LA x.labels.length lc, .slice A x.l.length c, .pointer p] 45)).alloc (.cells #[.int .i64 1, .int .i64 y.n, .string (bstr y.s), .slice LA6 y.labels.length lk6, .slice A6 y.l.length k6, .pointer q6] 45)).alloc (.cells #[.int .i64 1, .int .i64 0, .string ⟨#[]⟩, .slice none 0 0, .slice none 0 0, .pointer none] 45)) := hb2.alloc (by rw [World.size_alloc, World.size_alloc]; omega) _
  have s2 : ((w.alloc (.cells #[.int .i64 1, .int .i64 x.n, .string (bstr x.s), .slice LA x.labels.length lc, .slice A x.l.length c, .pointer p] 45)).alloc (.cells #[.int .i64 1, .int .i64 y.n, .string (bstr y.s), .slice LA6 y.labels.length lk6, .slice A6 y.l.length k6, .pointer q6] 45)).heap.size = w.heap.size + 2 := by rw [World.size_alloc, World.size_alloc]
  have hX0 : (((w.alloc (.cells #[.int .i64 1, .int .i64 x.n, .string (bstr x.s), .slice LA x.labels.length lc, .slice A x.l.length c, .pointer p] 45)).alloc (.cells #[.int .i64 1, .int .i64 y.n, .string (bstr y.s), .slice LA6 y.labels.length lk6, .slice A6 y.l.length k6, .pointer q6] 45)).alloc (.cells #[.int .i64 1, .int .i64 0, .string ⟨#[]⟩, .slice none 0 0, .slice none 0 0, .pointer none] 45)).heap[w.heap.size]? = some (.cells #[.int .i64 1, .int .i64 x.n, .string (bstr x.s), .slice LA x.labels.length lc, .slice A x.l.length c, .pointer p] 45) := (Below.heap_alloc _ _ _ (by rw [s2]; omega)).trans ((Below.heap_alloc _ _ _ (by rw [World.size_alloc]; omega)).trans (heap_new rfl))
  have hX1 : (((w.alloc (.cells #[.int .i64 1, .int .i64 x.n, .string (bstr x.s), .slice LA x.labels.length lc, .slice A x.l.length c, .pointer p] 45)).alloc (.cells #[.int .i64 1, .int .i64 y.n, .string (bstr y.s), .slice LA6 y.labels.length lk6, .slice A6 y.l.length k6, .pointer q6] 45)).alloc (.cells #[.int .i64 1, .int .i64 0, .string ⟨#[]⟩, .slice none 0 0, .slice none 0 0, .pointer none] 45)).heap[w.heap.size + 1]? = some (.cells #[.int .i64 1, .int .i64 y.n, .string (bstr y.s), .slice LA6 y.labels.length lk6, .slice A6 y.l.length k6, .pointer q6] 45) := (Below.heap_alloc _ _ _ (by rw [s2]; omega)).trans (heap_new (World.size_alloc _ _))
  have hX2 : (((w.alloc (.cells #[.int .i64 1, .int .i64 x.n, .string (bstr x.s), .slice LA x.labels.length lc, .slice A x.l.length c, .pointer p] 45)).alloc (.cells #[.int .i64 1, .int .i64 y.n, .string (bstr y.s), .slice LA6 y.labels.length lk6, .slice A6 y.l.length k6, .pointer q6] 45)).alloc (.cells #[.int .i64 1, .int .i64 0, .string ⟨#[]⟩, .slice none 0 0, .slice none 0 0, .pointer none] 45)).heap[w.heap.size + 2]? = some (.cells #[.int .i64 1, .int .i64 0, .string ⟨#[]⟩, .slice none 0 0, .slice none 0 0, .pointer none] 45) := heap_new s2
  obtain ⟨a0, a1, a2, a3, a4, a5⟩ := cells6 hX0
  obtain ⟨d0, d1, d2, d3, d4, d5⟩ := cells6 hX1
  have HB3 := Lib.hid hb3
  have HX2 := Lib.hid hX2
  have HH := Lib.hid h
  have HN := Lib.hid hn
  have HBM := Lib.hid (fun (wr : World) (hb : Below w.heap.size w wr) => And.intro (Tr.below (P := Mv mb t r v f) hb) (hb.mono (Nat.le_of_lt (Nat.lt_of_le_of_lt h.base.2 h.lt))))
  have HC := Lib.hid (fun W => ints_any W o x.n y.n h1 h2)
  obtain ⟨b0, f0⟩ : ∃ b0, ((bstr o).toList == [94]) = b0 := ⟨_, rfl⟩
  obtain ⟨b1, f1⟩ : ∃ b1, ((bstr o).toList == [35]) = b1 := ⟨_, rfl⟩
  clear h1 h2
  clear h hn hb1 hb2 hb3 hX0 hX1 hX2 s2
  cases b0 <;> cases b1
  all_goals
    go_enter Tryd.func40, Tryd.ntmps40
    go_wp2_with (first | (go_at_call 64; (with_reducible refine (HC.out _).mono ?_); rintro e1 w1 ⟨rfl, hb1⟩; have hq := (hb1.block _ (lt_of_heap HX2.out)).trans HX2.out; obtain ⟨g0, g1, g2, g3, g4, g5⟩ := cells6 hq; have z1 := frozenN hq 1; have gs : (w1.setCell ⟨w.heap.size + 2, 1, none⟩ (.int .i64 (intsOf o x.n y.n).1)).cell? ⟨w.heap.size + 2, 1, none⟩ = some (.int .i64 (intsOf o x.n y.n).1) := (by rw [Lib.cell_of_heap (set_cells hq 1 _)]; rfl); have hbw : Below w.heap.size w (w1.setCell ⟨w.heap.size + 2, 1, none⟩ (.int .i64 (intsOf o x.n y.n).1)) := (below_then HB3.out hb1).setCell (p := ⟨w.heap.size + 2, 1, none⟩) (by show w.heap.size ≤ w.heap.size + 2; omega) _; have HBW := Lib.hid hbw; have HT := Lib.hid (tellH_any (HH.out.below hbw) HN.out 1 (intsOf o x.n y.n).1 (intsOf o x.n y.n).2.1 (intsOf o x.n y.n).2.2); clear hb1 hq hbw HC) | (go_at_call 35; (with_reducible refine HT.out.mono ?_); rintro e1 w2 ⟨rfl, hp⟩; have HP := Lib.hid hp; clear hp HT))
    go_returns
    with_reducible exact ⟨rfl, HP.out.mono (HBM.out _ HBW.out).1 (HBM.out _ HBW.out).2⟩
set_option maxHeartbeats 4000000 in
theorem operN22_any (h : Rep w0 B mb s w t i r v f nx nm rcs vcs fcs) (hn : s.vals.length ≤ 100000000000) (o : Str) (x y : Val) (A : Option Addr) (c : Nat) (p : Option Addr) (LA : Option Addr) (lc : Nat) (A6 : Option Addr) (k6 : Nat) (q6 : Option Addr) (LA6 : Option Addr) (lk6 : Nat) (hx : x.sort = 2) (hy : y.sort = 2) (ho : ¬ o = [94]) :
    Calls Tryd.prog 40 #[.pointer (some ⟨mb, 0, none⟩), .string (bstr o), .agg #[.int .i64 x.sort, .int .i64 x.n, .string (bstr x.s), .slice LA x.labels.length lc, .slice A x.l.length c, .pointer p], .agg #[.int .i64 y.sort, .int .i64 y.n, .string (bstr y.s), .slice LA6 y.labels.length lk6, .slice A6 y.l.length k6, .pointer q6]] w fun e w' => e = .returned (.tuple #[]) ∧ Post w0 B mb (Mv mb t r v f) w (s.oper o x y) w' := by
  have e : s.oper o x y = s.tell (.mk 1 0 [] [] [] none) 0 false := by unfold St.oper; rw [if_neg (fun k => ho k.1), if_neg (by rw [hy]; simp), if_neg (by rw [hx]; simp)]
  rw [e, hx, hy]
  clear e hx hy
  have hb1 : Below w.heap.size w (w.alloc (.cells #[.int .i64 2, .int .i64 x.n, .string (bstr x.s), .slice LA x.labels.length lc, .slice A x.l.length c, .pointer p] 45)) := (Below.refl _ _).alloc (Nat.le_refl _) _
  have hb2 : Below w.heap.size w ((w.alloc (.cells #[.int .i64 2, .int .i64 x.n, .string (bstr x.s), .slice LA x.labels.length lc, .slice A x.l.length c, .pointer p] 45)).alloc (.cells #[.int .i64 2, .int .i64 y.n, .string (bstr y.s), .slice LA6 y.labels.length lk6, .slice A6 y.l.length k6, .pointer q6] 45)) := hb1.alloc (by rw [World.size_alloc]; omega) _
  have hb3 : Below w.heap.size w (((w.alloc (.cells #[.int .i64 2, .int .i64 x.n, .string (bstr x.s), .slice LA x.labels.length lc, .slice A x.l.length c, .pointer p] 45)).alloc (.cells #[.int .i64 2, .int .i64 y.n, .string (bstr y.s), .slice LA6 y.labels.length lk6, .slice A6 y.l.length k6, .pointer q6] 45)).alloc (.cells #[.int .i64 1, .int .i64 0, .string ⟨#[]⟩, .slice none 0 0, .slice none 0 0, .pointer none] 45)) := hb2.alloc (by rw [World.size_alloc, World.size_alloc]; omega) _
  have s2 : ((w.alloc (.cells #[.int .i64 2, .int .i64 x.n, .string (bstr x.s), .slice LA x.labels.length lc, .slice A x.l.length c, .pointer p] 45)).alloc (.cells #[.int .i64 2, .int .i64 y.n, .string (bstr y.s), .slice LA6 y.labels.length lk6, .slice A6 y.l.length k6, .pointer q6] 45)).heap.size = w.heap.size + 2 := by rw [World.size_alloc, World.size_alloc]
  have hX0 : (((w.alloc (.cells #[.int .i64 2, .int .i64 x.n, .string (bstr x.s), .slice LA x.labels.length lc, .slice A x.l.length c, .pointer p] 45)).alloc (.cells #[.int .i64 2, .int .i64 y.n, .string (bstr y.s), .slice LA6 y.labels.length lk6, .slice A6 y.l.length k6, .pointer q6] 45)).alloc (.cells #[.int .i64 1, .int .i64 0, .string ⟨#[]⟩, .slice none 0 0, .slice none 0 0, .pointer none] 45)).heap[w.heap.size]? = some (.cells #[.int .i64 2, .int .i64 x.n, .string (bstr x.s), .slice LA x.labels.length lc, .slice A x.l.length c, .pointer p] 45) := (Below.heap_alloc _ _ _ (by rw [s2]; omega)).trans ((Below.heap_alloc _ _ _ (by rw [World.size_alloc]; omega)).trans (heap_new rfl))
  have hX1 : (((w.alloc (.cells #[.int .i64 2, .int .i64 x.n, .string (bstr x.s), .slice LA x.labels.length lc, .slice A x.l.length c, .pointer p] 45)).alloc (.cells #[.int .i64 2, .int .i64 y.n, .string (bstr y.s), .slice LA6 y.labels.length lk6, .slice A6 y.l.length k6, .pointer q6] 45)).alloc (.cells #[.int .i64 1, .int .i64 0, .string ⟨#[]⟩, .slice none 0 0, .slice none 0 0, .pointer none] 45)).heap[w.heap.size + 1]? = some (.cells #[.int .i64 2, .int .i64 y.n, .string (bstr y.s), .slice LA6 y.labels.length lk6, .slice A6 y.l.length k6, .pointer q6] 45) := (Below.heap_alloc _ _ _ (by rw [s2]; omega)).trans (heap_new (World.size_alloc _ _))
  have hX2 : (((w.alloc (.cells #[.int .i64 2, .int .i64 x.n, .string (bstr x.s), .slice LA x.labels.length lc, .slice A x.l.length c, .pointer p] 45)).alloc (.cells #[.int .i64 2, .int .i64 y.n, .string (bstr y.s), .slice LA6 y.labels.length lk6, .slice A6 y.l.length k6, .pointer q6] 45)).alloc (.cells #[.int .i64 1, .int .i64 0, .string ⟨#[]⟩, .slice none 0 0, .slice none 0 0, .pointer none] 45)).heap[w.heap.size + 2]? = some (.cells #[.int .i64 1, .int .i64 0, .string ⟨#[]⟩, .slice none 0 0, .slice none 0 0, .pointer none] 45) := heap_new s2
  obtain ⟨a0, a1, a2, a3, a4, a5⟩ := cells6 hX0
  obtain ⟨d0, d1, d2, d3, d4, d5⟩ := cells6 hX1
  have HB3 := Lib.hid hb3
  have HX2 := Lib.hid hX2
  have HH := Lib.hid h
  have HN := Lib.hid hn
  have HBM := Lib.hid (fun (wr : World) (hb : Below w.heap.size w wr) => And.intro (Tr.below (P := Mv mb t r v f) hb) (hb.mono (Nat.le_of_lt (Nat.lt_of_le_of_lt h.base.2 h.lt))))
  obtain ⟨g0, g1, g2, g3, g4, g5⟩ := cells6 HX2.out
  have HT := Lib.hid (tellH_any (h.below hb3) hn 1 0 0 false)
  have f0 : ((bstr o).toList == [94]) = false := by rw [bstr_toList]; simpa using ho
  clear ho
  obtain ⟨b1, f1⟩ : ∃ b1, ((bstr o).toList == [35]) = b1 := ⟨_, rfl⟩
  clear h hn hb1 hb2 hb3 hX0 hX1 hX2 s2
  cases b1
  all_goals
    go_enter Tryd.func40, Tryd.ntmps40
    go_wp2_with (go_at_call 35; (with_reducible refine HT.out.mono ?_); rintro e1 w2 ⟨rfl, hp⟩; have HP := Lib.hid hp; clear hp HT)
    go_returns
    with_reducible exact ⟨rfl, HP.out.mono (HBM.out _ HB3.out).1 (HBM.out _ HB3.out).2⟩
set_option maxHeartbeats 4000000 in
theorem operN21_any (h : Rep w0 B mb s w t i r v f nx nm rcs vcs fcs) (hn : s.vals.length ≤ 100000000000) (o : Str) (x y : Val) (A : Option Addr) (c : Nat) (p : Option Addr) (LA : Option Addr) (lc : Nat) (A6 : Option Addr) (k6 : Nat) (q6 : Option Addr) (LA6 : Option Addr) (lk6 : Nat) (hx : x.sort = 2) (hy : y.sort = 1) (ho : ¬ o = [35]) :
    Calls Tryd.prog 40 #[.pointer (some ⟨mb, 0, none⟩), .string (bstr o), .agg #[.int .i64 x.sort, .int .i64 x.n, .string (bstr x.s), .slice LA x.labels.length lc, .slice A x.l.length c, .pointer p], .agg #[.int .i64 y.sort, .int .i64 y.n, .string (bstr y.s), .slice LA6 y.labels.length lk6, .slice A6 y.l.length k6, .pointer q6]] w fun e w' => e = .returned (.tuple #[]) ∧ Post w0 B mb (Mv mb t r v f) w (s.oper o x y) w' := by
  have e : s.oper o x y = s.tell (.mk 1 0 [] [] [] none) 0 false := by unfold St.oper; rw [if_neg (by rw [hy]; simp), if_neg (fun k => ho k.1), if_neg (by rw [hx]; simp)]
  rw [e, hx, hy]
  clear e hx hy
  have hb1 : Below w.heap.size w (w.alloc (.cells #[.int .i64 2, .int .i64 x.n, .string (bstr x.s), .slice LA x.labels.length lc, .slice A x.l.length c, .pointer p] 45)) := (Below.refl _ _).alloc (Nat.le_refl _) _
  have hb2 : Below w.heap.size w ((w.alloc (.cells #[.int .i64 2, .int .i64 x.n, .string (bstr x.s), .slice LA x.labels.length lc, .slice A x.l.length c, .pointer p] 45)).alloc (.cells #[.int .i64 1, .int .i64 y.n, .string (bstr y.s), .slice LA6 y.labels.length lk6, .slice A6 y.l.length k6, .pointer q6] 45)) := hb1.alloc (by rw [World.size_alloc]; omega) _
  have hb3 : Below w.heap.size w (((w.alloc (.cells #[.int .i64 2, .int .i64 x.n, .string (bstr x.s), .slice LA x.labels.length lc, .slice A x.l.length c, .pointer p] 45)).alloc (.cells #[.int .i64 1, .int .i64 y.n, .string (bstr y.s), .slice LA6 y.labels.length lk6, .slice A6 y.l.length k6, .pointer q6] 45)).alloc (.cells #[.int .i64 1, .int .i64 0, .string ⟨#[]⟩, .slice none 0 0, .slice none 0 0, .pointer none] 45)) := hb2.alloc (by rw [World.size_alloc, World.size_alloc]; omega) _
  have s2 : ((w.alloc (.cells #[.int .i64 2, .int .i64 x.n, .string (bstr x.s), .slice LA x.labels.length lc, .slice A x.l.length c, .pointer p] 45)).alloc (.cells #[.int .i64 1, .int .i64 y.n, .string (bstr y.s), .slice LA6 y.labels.length lk6, .slice A6 y.l.length k6, .pointer q6] 45)).heap.size = w.heap.size + 2 := by rw [World.size_alloc, World.size_alloc]
  have hX0 : (((w.alloc (.cells #[.int .i64 2, .int .i64 x.n, .string (bstr x.s), .slice LA x.labels.length lc, .slice A x.l.length c, .pointer p] 45)).alloc (.cells #[.int .i64 1, .int .i64 y.n, .string (bstr y.s), .slice LA6 y.labels.length lk6, .slice A6 y.l.length k6, .pointer q6] 45)).alloc (.cells #[.int .i64 1, .int .i64 0, .string ⟨#[]⟩, .slice none 0 0, .slice none 0 0, .pointer none] 45)).heap[w.heap.size]? = some (.cells #[.int .i64 2, .int .i64 x.n, .string (bstr x.s), .slice LA x.labels.length lc, .slice A x.l.length c, .pointer p] 45) := (Below.heap_alloc _ _ _ (by rw [s2]; omega)).trans ((Below.heap_alloc _ _ _ (by rw [World.size_alloc]; omega)).trans (heap_new rfl))
  have hX1 : (((w.alloc (.cells #[.int .i64 2, .int .i64 x.n, .string (bstr x.s), .slice LA x.labels.length lc, .slice A x.l.length c, .pointer p] 45)).alloc (.cells #[.int .i64 1, .int .i64 y.n, .string (bstr y.s), .slice LA6 y.labels.length lk6, .slice A6 y.l.length k6, .pointer q6] 45)).alloc (.cells #[.int .i64 1, .int .i64 0, .string ⟨#[]⟩, .slice none 0 0, .slice none 0 0, .pointer none] 45)).heap[w.heap.size + 1]? = some (.cells #[.int .i64 1, .int .i64 y.n, .string (bstr y.s), .slice LA6 y.labels.length lk6, .slice A6 y.l.length k6, .pointer q6] 45) := (Below.heap_alloc _ _ _ (by rw [s2]; omega)).trans (heap_new (World.size_alloc _ _))
  have hX2 : (((w.alloc (.cells #[.int .i64 2, .int .i64 x.n, .string (bstr x.s), .slice LA x.labels.length lc, .slice A x.l.length c, .pointer p] 45)).alloc (.cells #[.int .i64 1, .int .i64 y.n, .string (bstr y.s), .slice LA6 y.labels.length lk6, .slice A6 y.l.length k6, .pointer q6] 45)).alloc (.cells #[.int .i64 1, .int .i64 0, .string ⟨#[]⟩, .slice none 0 0, .slice none 0 0, .pointer none] 45)).heap[w.heap.size + 2]? = some (.cells #[.int .i64 1, .int .i64 0, .string ⟨#[]⟩, .slice none 0 0, .slice none 0 0, .pointer none] 45) := heap_new s2
  obtain ⟨a0, a1, a2, a3, a4, a5⟩ := cells6 hX0
  obtain ⟨d0, d1, d2, d3, d4, d5⟩ := cells6 hX1
  have HB3 := Lib.hid hb3
  have HX2 := Lib.hid hX2
  have HH := Lib.hid h
  have HN := Lib.hid hn
  have HBM := Lib.hid (fun (wr : World) (hb : Below w.heap.size w wr) => And.intro (Tr.below (P := Mv mb t r v f) hb) (hb.mono (Nat.le_of_lt (Nat.lt_of_le_of_lt h.base.2 h.lt))))
  obtain ⟨g0, g1, g2, g3, g4, g5⟩ := cells6 HX2.out
  have HT := Lib.hid (tellH_any (h.below hb3) hn 1 0 0 false)
  obtain ⟨b0, f0⟩ : ∃ b0, ((bstr o).toList == [94]) = b0 := ⟨_, rfl⟩
  have f1 : ((bstr o).toList == [35]) = false := by rw [bstr_toList]; simpa using ho
  clear ho
  clear h hn hb1 hb2 hb3 hX0 hX1 hX2 s2
  cases b0
  all_goals
    go_enter Tryd.func40, Tryd.ntmps40
    go_wp2_with (go_at_call 35; (with_reducible refine HT.out.mono ?_); rintro e1 w2 ⟨rfl, hp⟩; have HP := Lib.hid hp; clear hp HT)
    go_returns
    with_reducible exact ⟨rfl, HP.out.mono (HBM.out _ HB3.out).1 (HBM.out _ HB3.out).2⟩
set_option maxHeartbeats 4000000 in
theorem operN2n_any (h : Rep w0 B mb s w t i r v f nx nm rcs vcs fcs) (hn : s.vals.length ≤ 100000000000) (o : Str) (x y : Val) (A : Option Addr) (c : Nat) (p : Option Addr) (LA : Option Addr) (lc : Nat) (A6 : Option Addr) (k6 : Nat) (q6 : Option Addr) (LA6 : Option Addr) (lk6 : Nat) (hx : x.sort = 2) (hy1 : ¬ y.sort = 1) (hy2 : ¬ y.sort = 2)  :
    Calls Tryd.prog 40 #[.pointer (some ⟨mb, 0, none⟩), .string (bstr o), .agg #[.int .i64 x.sort, .int .i64 x.n, .string (bstr x.s), .slice LA x.labels.length lc, .slice A x.l.length c, .pointer p], .agg #[.int .i64 y.sort, .int .i64 y.n, .string (bstr y.s), .slice LA6 y.labels.length lk6, .slice A6 y.l.length k6, .pointer q6]] w fun e w' => e = .returned (.tuple #[]) ∧ Post w0 B mb (Mv mb t r v f) w (s.oper o x y) w' := by
  have e : s.oper o x y = s.tell (.mk 1 0 [] [] [] none) 0 false := by unfold St.oper; rw [if_neg (fun k => hy2 k.2.2), if_neg (fun k => hy1 k.2.2), if_neg (by rw [hx]; simp)]
  rw [e, hx]
  clear e hx
  have hb1 : Below w.heap.size w (w.alloc (.cells #[.int .i64 2, .int .i64 x.n, .string (bstr x.s), .slice LA x.labels.length lc, .slice A x.l.length c, .pointer p] 45)) := (Below.refl _ _).alloc (Nat.le_refl _) _
  have hb2 : Below w.heap.size w ((w.alloc (.cells #[.int .i64 2, .int .i64 x.n, .string (bstr x.s), .slice LA x.labels.length lc, .slice A x.l.length c, .pointer p] 45)).alloc (.cells #[.int .i64 y.sort, .int .i64 y.n, .string (bstr y.s), .slice LA6 y.labels.length lk6, .slice A6 y.l.length k6, .pointer q6] 45)) := hb1.alloc (by rw [World.size_alloc]; omega) _
  have hb3 : Below w.heap.size w (((w.alloc (.cells #[.int .i64 2, .int .i64 x.n, .string (bstr x.s), .slice LA x.labels.length lc, .slice A x.l.length c, .pointer p] 45)).alloc (.cells #[.int .i64 y.sort, .int .i64 y.n, .string (bstr y.s), .slice LA6 y.labels.length lk6, .slice A6 y.l.length k6, .pointer q6] 45)).alloc (.cells #[.int .i64 1, .int .i64 0, .string ⟨#[]⟩, .slice none 0 0, .slice none 0 0, .pointer none] 45)) := hb2.alloc (by rw [World.size_alloc, World.size_alloc]; omega) _
  have s2 : ((w.alloc (.cells #[.int .i64 2, .int .i64 x.n, .string (bstr x.s), .slice LA x.labels.length lc, .slice A x.l.length c, .pointer p] 45)).alloc (.cells #[.int .i64 y.sort, .int .i64 y.n, .string (bstr y.s), .slice LA6 y.labels.length lk6, .slice A6 y.l.length k6, .pointer q6] 45)).heap.size = w.heap.size + 2 := by rw [World.size_alloc, World.size_alloc]
  have hX0 : (((w.alloc (.cells #[.int .i64 2, .int .i64 x.n, .string (bstr x.s), .slice LA x.labels.length lc, .slice A x.l.length c, .pointer p] 45)).alloc (.cells #[.int .i64 y.sort, .int .i64 y.n, .string (bstr y.s), .slice LA6 y.labels.length lk6, .slice A6 y.l.length k6, .pointer q6] 45)).alloc (.cells #[.int .i64 1, .int .i64 0, .string ⟨#[]⟩, .slice none 0 0, .slice none 0 0, .pointer none] 45)).heap[w.heap.size]? = some (.cells #[.int .i64 2, .int .i64 x.n, .string (bstr x.s), .slice LA x.labels.length lc, .slice A x.l.length c, .pointer p] 45) := (Below.heap_alloc _ _ _ (by rw [s2]; omega)).trans ((Below.heap_alloc _ _ _ (by rw [World.size_alloc]; omega)).trans (heap_new rfl))
  have hX1 : (((w.alloc (.cells #[.int .i64 2, .int .i64 x.n, .string (bstr x.s), .slice LA x.labels.length lc, .slice A x.l.length c, .pointer p] 45)).alloc (.cells #[.int .i64 y.sort, .int .i64 y.n, .string (bstr y.s), .slice LA6 y.labels.length lk6, .slice A6 y.l.length k6, .pointer q6] 45)).alloc (.cells #[.int .i64 1, .int .i64 0, .string ⟨#[]⟩, .slice none 0 0, .slice none 0 0, .pointer none] 45)).heap[w.heap.size + 1]? = some (.cells #[.int .i64 y.sort, .int .i64 y.n, .string (bstr y.s), .slice LA6 y.labels.length lk6, .slice A6 y.l.length k6, .pointer q6] 45) := (Below.heap_alloc _ _ _ (by rw [s2]; omega)).trans (heap_new (World.size_alloc _ _))
  have hX2 : (((w.alloc (.cells #[.int .i64 2, .int .i64 x.n, .string (bstr x.s), .slice LA x.labels.length lc, .slice A x.l.length c, .pointer p] 45)).alloc (.cells #[.int .i64 y.sort, .int .i64 y.n, .string (bstr y.s), .slice LA6 y.labels.length lk6, .slice A6 y.l.length k6, .pointer q6] 45)).alloc (.cells #[.int .i64 1, .int .i64 0, .string ⟨#[]⟩, .slice none 0 0, .slice none 0 0, .pointer none] 45)).heap[w.heap.size + 2]? = some (.cells #[.int .i64 1, .int .i64 0, .string ⟨#[]⟩, .slice none 0 0, .slice none 0 0, .pointer none] 45) := heap_new s2
  obtain ⟨a0, a1, a2, a3, a4, a5⟩ := cells6 hX0
  obtain ⟨d0, d1, d2, d3, d4, d5⟩ := cells6 hX1
  have HB3 := Lib.hid hb3
  have HX2 := Lib.hid hX2
  have HH := Lib.hid h
  have HN := Lib.hid hn
  have HBM := Lib.hid (fun (wr : World) (hb : Below w.heap.size w wr) => And.intro (Tr.below (P := Mv mb t r v f) hb) (hb.mono (Nat.le_of_lt (Nat.lt_of_le_of_lt h.base.2 h.lt))))
  obtain ⟨g0, g1, g2, g3, g4, g5⟩ := cells6 HX2.out
  have HT := Lib.hid (tellH_any (h.below hb3) hn 1 0 0 false)
  obtain ⟨b0, f0⟩ : ∃ b0, ((bstr o).toList == [94]) = b0 := ⟨_, rfl⟩
  obtain ⟨b1, f1⟩ : ∃ b1, ((bstr o).toList == [35]) = b1 := ⟨_, rfl⟩
  clear h hn hb1 hb2 hb3 hX0 hX1 hX2 s2
  cases b0 <;> cases b1
  all_goals
    go_enter Tryd.func40, Tryd.ntmps40
    go_wp2_with (go_at_call 35; (with_reducible refine HT.out.mono ?_); rintro e1 w2 ⟨rfl, hp⟩; have HP := Lib.hid hp; clear hp HT)
    go_returns
    with_reducible exact ⟨rfl, HP.out.mono (HBM.out _ HB3.out).1 (HBM.out _ HB3.out).2⟩
set_option maxHeartbeats 4000000 in
theorem operN12_any (h : Rep w0 B mb s w t i r v f nx nm rcs vcs fcs) (hn : s.vals.length ≤ 100000000000) (o : Str) (x y : Val) (A : Option Addr) (c : Nat) (p : Option Addr) (LA : Option Addr) (lc : Nat) (A6 : Option Addr) (k6 : Nat) (q6 : Option Addr) (LA6 : Option Addr) (lk6 : Nat) (hx : x.sort = 1) (hy : y.sort = 2)  :
    Calls Tryd.prog 40 #[.pointer (some ⟨mb, 0, none⟩), .string (bstr o), .agg #[.int .i64 x.sort, .int .i64 x.n, .string (bstr x.s), .slice LA x.labels.length lc, .slice A x.l.length c, .pointer p], .agg #[.int .i64 y.sort, .int .i64 y.n, .string (bstr y.s), .slice LA6 y.labels.length lk6, .slice A6 y.l.length k6, .pointer q6]] w fun e w' => e = .returned (.tuple #[]) ∧ Post w0 B mb (Mv mb t r v f) w (s.oper o x y) w' := by
  have e : s.oper o x y = s.tell (.mk 1 0 [] [] [] none) 0 false := by unfold St.oper; rw [if_neg (by rw [hx]; simp), if_neg (by rw [hx]; simp), if_neg (by rw [hy]; simp)]
  rw [e, hx, hy]
  clear e hx hy
  have hb1 : Below w.heap.size w (w.alloc (.cells #[.int .i64 1, .int .i64 x.n, .string (bstr x.s), .slice LA x.labels.length lc, .slice A x.l.length c, .pointer p] 45)) := (Below.refl _ _).alloc (Nat.le_refl _) _
  have hb2 : Below w.heap.size w ((w.alloc (.cells #[.int .i64 1, .int .i64 x.n, .string (bstr x.s), .slice LA x.labels.length lc, .slice A x.l.length c, .pointer p] 45)).alloc (.cells #[.int .i64 2, .int .i64 y.n, .string (bstr y.s), .slice LA6 y.labels.length lk6, .slice A6 y.l.length k6, .pointer q6] 45)) := hb1.alloc (by rw [World.size_alloc]; omega) _
  have hb3 : Below w.heap.size w (((w.alloc (.cells #[.int .i64 1, .int .i64 x.n, .string (bstr x.s), .slice LA x.labels.length lc, .slice A x.l.length c, .pointer p] 45)).alloc (.cells #[.int .i64 2, .int .i64 y.n, .string (bstr y.s), .slice LA6 y.labels.length lk6, .slice A6 y.l.length k6, .pointer q6] 45)).alloc (.cells #[.int .i64 1, .int .i64 0, .string ⟨#[]⟩, .slice none 0 0, .slice none 0 0, .pointer none] 45)) := hb2.alloc (by rw [World.size_alloc, World.size_alloc]; omega) _
  have s2 : ((w.alloc (.cells #[.int .i64 1, .int .i64 x.n, .string (bstr x.s), .slice LA x.labels.length lc, .slice A x.l.length c, .pointer p] 45)).alloc (.cells #[.int .i64 2, .int .i64 y.n, .string (bstr y.s), .slice LA6 y.labels.length lk6, .slice A6 y.l.length k6, .pointer q6] 45)).heap.size = w.heap.size + 2 := by rw [World.size_alloc, World.size_alloc]
  have hX0 : (((w.alloc (.cells #[.int .i64 1, .int .i64 x.n, .string (bstr x.s), .slice LA x.labels.length lc, .slice A x.l.length c, .pointer p] 45)).alloc (.cells #[.int .i64 2, .int .i64 y.n, .string (bstr y.s), .slice LA6 y.labels.length lk6, .slice A6 y.l.length k6, .pointer q6] 45)).alloc (.cells #[.int .i64 1, .int .i64 0, .string ⟨#[]⟩, .slice none 0 0, .slice none 0 0, .pointer none] 45)).heap[w.heap.size]? = some (.cells #[.int .i64 1, .int .i64 x.n, .string (bstr x.s), .slice LA x.labels.length lc, .slice A x.l.length c, .pointer p] 45) := (Below.heap_alloc _ _ _ (by rw [s2]; omega)).trans ((Below.heap_alloc _ _ _ (by rw [World.size_alloc]; omega)).trans (heap_new rfl))
  have hX1 : (((w.alloc (.cells #[.int .i64 1, .int .i64 x.n, .string (bstr x.s), .slice LA x.labels.length lc, .slice A x.l.length c, .pointer p] 45)).alloc (.cells #[.int .i64 2, .int .i64 y.n, .string (bstr y.s), .slice LA6 y.labels.length lk6, .slice A6 y.l.length k6, .pointer q6] 45)).alloc (.cells #[.int .i64 1, .int .i64 0, .string ⟨#[]⟩, .slice none 0 0, .slice none 0 0, .pointer none] 45)).heap[w.heap.size + 1]? = some (.cells #[.int .i64 2, .int .i64 y.n, .string (bstr y.s), .slice LA6 y.labels.length lk6, .slice A6 y.l.length k6, .pointer q6] 45) := (Below.heap_alloc _ _ _ (by rw [s2]; omega)).trans (heap_new (World.size_alloc _ _))
  have hX2 : (((w.alloc (.cells #[.int .i64 1, .int .i64 x.n, .string (bstr x.s), .slice LA x.labels.length lc, .slice A x.l.length c, .pointer p] 45)).alloc (.cells #[.int .i64 2, .int .i64 y.n, .string (bstr y.s), .slice LA6 y.labels.length lk6, .slice A6 y.l.length k6, .pointer q6] 45)).alloc (.cells #[.int .i64 1, .int .i64 0, .string ⟨#[]⟩, .slice none 0 0, .slice none 0 0, .pointer none] 45)).heap[w.heap.size + 2]? = some (.cells #[.int .i64 1, .int .i64 0, .string ⟨#[]⟩, .slice none 0 0, .slice none 0 0, .pointer none] 45) := heap_new s2
  obtain ⟨a0, a1, a2, a3, a4, a5⟩ := cells6 hX0
  obtain ⟨d0, d1, d2, d3, d4, d5⟩ := cells6 hX1
  have HB3 := Lib.hid hb3
  have HX2 := Lib.hid hX2
  have HH := Lib.hid h
  have HN := Lib.hid hn
  have HBM := Lib.hid (fun (wr : World) (hb : Below w.heap.size w wr) => And.intro (Tr.below (P := Mv mb t r v f) hb) (hb.mono (Nat.le_of_lt (Nat.lt_of_le_of_lt h.base.2 h.lt))))
  obtain ⟨g0, g1, g2, g3, g4, g5⟩ := cells6 HX2.out
  have HT := Lib.hid (tellH_any (h.below hb3) hn 1 0 0 false)
  obtain ⟨b0, f0⟩ : ∃ b0, ((bstr o).toList == [94]) = b0 := ⟨_, rfl⟩
  obtain ⟨b1, f1⟩ : ∃ b1, ((bstr o).toList == [35]) = b1 := ⟨_, rfl⟩
  clear h hn hb1 hb2 hb3 hX0 hX1 hX2 s2
  cases b0 <;> cases b1
  all_goals
    go_enter Tryd.func40, Tryd.ntmps40
    go_wp2_with (go_at_call 35; (with_reducible refine HT.out.mono ?_); rintro e1 w2 ⟨rfl, hp⟩; have HP := Lib.hid hp; clear hp HT)
    go_returns
    with_reducible exact ⟨rfl, HP.out.mono (HBM.out _ HB3.out).1 (HBM.out _ HB3.out).2⟩
set_option maxHeartbeats 4000000 in
theorem operN1n_any (h : Rep w0 B mb s w t i r v f nx nm rcs vcs fcs) (hn : s.vals.length ≤ 100000000000) (o : Str) (x y : Val) (A : Option Addr) (c : Nat) (p : Option Addr) (LA : Option Addr) (lc : Nat) (A6 : Option Addr) (k6 : Nat) (q6 : Option Addr) (LA6 : Option Addr) (lk6 : Nat) (hx : x.sort = 1) (hy1 : ¬ y.sort = 1) (hy2 : ¬ y.sort = 2)  :
    Calls Tryd.prog 40 #[.pointer (some ⟨mb, 0, none⟩), .string (bstr o), .agg #[.int .i64 x.sort, .int .i64 x.n, .string (bstr x.s), .slice LA x.labels.length lc, .slice A x.l.length c, .pointer p], .agg #[.int .i64 y.sort, .int .i64 y.n, .string (bstr y.s), .slice LA6 y.labels.length lk6, .slice A6 y.l.length k6, .pointer q6]] w fun e w' => e = .returned (.tuple #[]) ∧ Post w0 B mb (Mv mb t r v f) w (s.oper o x y) w' := by
  have e : s.oper o x y = s.tell (.mk 1 0 [] [] [] none) 0 false := by unfold St.oper; rw [if_neg (by rw [hx]; simp), if_neg (by rw [hx]; simp), if_neg (fun k => hy1 k.2)]
  rw [e, hx]
  clear e hx
  have hb1 : Below w.heap.size w (w.alloc (.cells #[.int .i64 1, .int .i64 x.n, .string (bstr x.s), .slice LA x.labels.length lc, .slice A x.l.length c, .pointer p] 45)) := (Below.refl _ _).alloc (Nat.le_refl _) _
  have hb2 : Below w.heap.size w ((w.alloc (.cells #[.int .i64 1, .int .i64 x.n, .string (bstr x.s), .slice LA x.labels.length lc, .slice A x.l.length c, .pointer p] 45)).alloc (.cells #[.int .i64 y.sort, .int .i64 y.n, .string (bstr y.s), .slice LA6 y.labels.length lk6, .slice A6 y.l.length k6, .pointer q6] 45)) := hb1.alloc (by rw [World.size_alloc]; omega) _
  have hb3 : Below w.heap.size w (((w.alloc (.cells #[.int .i64 1, .int .i64 x.n, .string (bstr x.s), .slice LA x.labels.length lc, .slice A x.l.length c, .pointer p] 45)).alloc (.cells #[.int .i64 y.sort, .int .i64 y.n, .string (bstr y.s), .slice LA6 y.labels.length lk6, .slice A6 y.l.length k6, .pointer q6] 45)).alloc (.cells #[.int .i64 1, .int .i64 0, .string ⟨#[]⟩, .slice none 0 0, .slice none 0 0, .pointer none] 45)) := hb2.alloc (by rw [World.size_alloc, World.size_alloc]; omega) _
  have s2 : ((w.alloc (.cells #[.int .i64 1, .int .i64 x.n, .string (bstr x.s), .slice LA x.labels.length lc, .slice A x.l.length c, .pointer p] 45)).alloc (.cells #[.int .i64 y.sort, .int .i64 y.n, .string (bstr y.s), .slice LA6 y.labels.length lk6, .slice A6 y.l.length k6, .pointer q6] 45)).heap.size = w.heap.size + 2 := by rw [World.size_alloc, World.size_alloc]
  have hX0 : (((w.alloc (.cells #[.int .i64 1, .int .i64 x.n, .string (bstr x.s), .slice LA x.labels.length lc, .slice A x.l.length c, .pointer p] 45)).alloc (.cells #[.int .i64 y.sort, .int .i64 y.n, .string (bstr y.s), .slice LA6 y.labels.length lk6, .slice A6 y.l.length k6, .pointer q6] 45)).alloc (.cells #[.int .i64 1, .int .i64 0, .string ⟨#[]⟩, .slice none 0 0, .slice none 0 0, .pointer none] 45)).heap[w.heap.size]? = some (.cells #[.int .i64 1, .int .i64 x.n, .string (bstr x.s), .slice LA x.labels.length lc, .slice A x.l.length c, .pointer p] 45) := (Below.heap_alloc _ _ _ (by rw [s2]; omega)).trans ((Below.heap_alloc _ _ _ (by rw [World.size_alloc]; omega)).trans (heap_new rfl))
  have hX1 : (((w.alloc (.cells #[.int .i64 1, .int .i64 x.n, .string (bstr x.s), .slice LA x.labels.length lc, .slice A x.l.length c, .pointer p] 45)).alloc (.cells #[.int .i64 y.sort, .int .i64 y.n, .string (bstr y.s), .slice LA6 y.labels.length lk6, .slice A6 y.l.length k6, .pointer q6] 45)).alloc (.cells #[.int .i64 1, .int .i64 0, .string ⟨#[]⟩, .slice none 0 0, .slice none 0 0, .pointer none] 45)).heap[w.heap.size + 1]? = some (.cells #[.int .i64 y.sort, .int .i64 y.n, .string (bstr y.s), .slice LA6 y.labels.length lk6, .slice A6 y.l.length k6, .pointer q6] 45) := (Below.heap_alloc _ _ _ (by rw [s2]; omega)).trans (heap_new (World.size_alloc _ _))
  have hX2 : (((w.alloc (.cells #[.int .i64 1, .int .i64 x.n, .string (bstr x.s), .slice LA x.labels.length lc, .slice A x.l.length c, .pointer p] 45)).alloc (.cells #[.int .i64 y.sort, .int .i64 y.n, .string (bstr y.s), .slice LA6 y.labels.length lk6, .slice A6 y.l.length k6, .pointer q6] 45)).alloc (.cells #[.int .i64 1, .int .i64 0, .string ⟨#[]⟩, .slice none 0 0, .slice none 0 0, .pointer none] 45)).heap[w.heap.size + 2]? = some (.cells #[.int .i64 1, .int .i64 0, .string ⟨#[]⟩, .slice none 0 0, .slice none 0 0, .pointer none] 45) := heap_new s2
  obtain ⟨a0, a1, a2, a3, a4, a5⟩ := cells6 hX0
  obtain ⟨d0, d1, d2, d3, d4, d5⟩ := cells6 hX1
  have HB3 := Lib.hid hb3
  have HX2 := Lib.hid hX2
  have HH := Lib.hid h
  have HN := Lib.hid hn
  have HBM := Lib.hid (fun (wr : World) (hb : Below w.heap.size w wr) => And.intro (Tr.below (P := Mv mb t r v f) hb) (hb.mono (Nat.le_of_lt (Nat.lt_of_le_of_lt h.base.2 h.lt))))
  obtain ⟨g0, g1, g2, g3, g4, g5⟩ := cells6 HX2.out
  have HT := Lib.hid (tellH_any (h.below hb3) hn 1 0 0 false)
  obtain ⟨b0, f0⟩ : ∃ b0, ((bstr o).toList == [94]) = b0 := ⟨_, rfl⟩
  obtain ⟨b1, f1⟩ : ∃ b1, ((bstr o).toList == [35]) = b1 := ⟨_, rfl⟩
  clear h hn hb1 hb2 hb3 hX0 hX1 hX2 s2
  cases b0 <;> cases b1
  all_goals
    go_enter Tryd.func40, Tryd.ntmps40
    go_wp2_with (go_at_call 35; (with_reducible refine HT.out.mono ?_); rintro e1 w2 ⟨rfl, hp⟩; have HP := Lib.hid hp; clear hp HT)
    go_returns
    with_reducible exact ⟨rfl, HP.out.mono (HBM.out _ HB3.out).1 (HBM.out _ HB3.out).2⟩
set_option maxHeartbeats 4000000 in
theorem operNn2_any (h : Rep w0 B mb s w t i r v f nx nm rcs vcs fcs) (hn : s.vals.length ≤ 100000000000) (o : Str) (x y : Val) (A : Option Addr) (c : Nat) (p : Option Addr) (LA : Option Addr) (lc : Nat) (A6 : Option Addr) (k6 : Nat) (q6 : Option Addr) (LA6 : Option Addr) (lk6 : Nat) (hx1 : ¬ x.sort = 1) (hx2 : ¬ x.sort = 2) (hy : y.sort = 2)  :
    Calls Tryd.prog 40 #[.pointer (some ⟨mb, 0, none⟩), .string (bstr o), .agg #[.int .i64 x.sort, .int .i64 x.n, .string (bstr x.s), .slice LA x.labels.length lc, .slice A x.l.length c, .pointer p], .agg #[.int .i64 y.sort, .int .i64 y.n, .string (bstr y.s), .slice LA6 y.labels.length lk6, .slice A6 y.l.length k6, .pointer q6]] w fun e w' => e = .returned (.tuple #[]) ∧ Post w0 B mb (Mv mb t r v f) w (s.oper o x y) w' := by
  have e : s.oper o x y = s.tell (.mk 1 0 [] [] [] none) 0 false := by unfold St.oper; rw [if_neg (fun k => hx2 k.2.1), if_neg (fun k => hx2 k.2.1), if_neg (fun k => hx1 k.1)]
  rw [e, hy]
  clear e hy
  have hb1 : Below w.heap.size w (w.alloc (.cells #[.int .i64 x.sort, .int .i64 x.n, .string (bstr x.s), .slice LA x.labels.length lc, .slice A x.l.length c, .pointer p] 45)) := (Below.refl _ _).alloc (Nat.le_refl _) _
  have hb2 : Below w.heap.size w ((w.alloc (.cells #[.int .i64 x.sort, .int .i64 x.n, .string (bstr x.s), .slice LA x.labels.length lc, .slice A x.l.length c, .pointer p] 45)).alloc (.cells #[.int .i64 2, .int .i64 y.n, .string (bstr y.s), .slice LA6 y.labels.length lk6, .slice A6 y.l.length k6, .pointer q6] 45)) := hb1.alloc (by rw [World.size_alloc]; omega) _
  have hb3 : Below w.heap.size w (((w.alloc (.cells #[.int .i64 x.sort, .int .i64 x.n, .string (bstr x.s), .slice LA x.labels.length lc, .slice A x.l.length c, .pointer p] 45)).alloc (.cells #[.int .i64 2, .int .i64 y.n, .string (bstr y.s), .slice LA6 y.labels.length lk6, .slice A6 y.l.length k6, .pointer q6] 45)).alloc (.cells #[.int .i64 1, .int .i64 0, .string ⟨#[]⟩, .slice none 0 0, .slice none 0 0, .pointer none] 45)) := hb2.alloc (by rw [World.size_alloc, World.size_alloc]; omega) _
  have s2 : ((w.alloc (.cells #[.int .i64 x.sort, .int .i64 x.n, .string (bstr x.s), .slice LA x.labels.length lc, .slice A x.l.length c, .pointer p] 45)).alloc (.cells #[.int .i64 2, .int .i64 y.n, .string (bstr y.s), .slice LA6 y.labels.length lk6, .slice A6 y.l.length k6, .pointer q6] 45)).heap.size = w.heap.size + 2 := by rw [World.size_alloc, World.size_alloc]
  have hX0 : (((w.alloc (.cells #[.int .i64 x.sort, .int .i64 x.n, .string (bstr x.s), .slice LA x.labels.length lc, .slice A x.l.length c, .pointer p] 45)).alloc (.cells #[.int .i64 2, .int .i64 y.n, .string (bstr y.s), .slice LA6 y.labels.length lk6, .slice A6 y.l.length k6, .pointer q6] 45)).alloc (.cells #[.int .i64 1, .int .i64 0, .string ⟨#[]⟩, .slice none 0 0, .slice none 0 0, .pointer none] 45)).heap[w.heap.size]? = some (.cells #[.int .i64 x.sort, .int .i64 x.n, .string (bstr x.s), .slice LA x.labels.length lc, .slice A x.l.length c, .pointer p] 45) := (Below.heap_alloc _ _ _ (by rw [s2]; omega)).trans ((Below.heap_alloc _ _ _ (by rw [World.size_alloc]; omega)).trans (heap_new rfl))
  have hX1 : (((w.alloc (.cells #[.int .i64 x.sort, .int .i64 x.n, .string (bstr x.s), .slice LA x.labels.length lc, .slice A x.l.length c, .pointer p] 45)).alloc (.cells #[.int .i64 2, .int .i64 y.n, .string (bstr y.s), .slice LA6 y.labels.length lk6, .slice A6 y.l.length k6, .pointer q6] 45)).alloc (.cells #[.int .i64 1, .int .i64 0, .string ⟨#[]⟩, .slice none 0 0, .slice none 0 0, .pointer none] 45)).heap[w.heap.size + 1]? = some (.cells #[.int .i64 2, .int .i64 y.n, .string (bstr y.s), .slice LA6 y.labels.length lk6, .slice A6 y.l.length k6, .pointer q6] 45) := (Below.heap_alloc _ _ _ (by rw [s2]; omega)).trans (heap_new (World.size_alloc _ _))
  have hX2 : (((w.alloc (.cells #[.int .i64 x.sort, .int .i64 x.n, .string (bstr x.s), .slice LA x.labels.length lc, .slice A x.l.length c, .pointer p] 45)).alloc (.cells #[.int .i64 2, .int .i64 y.n, .string (bstr y.s), .slice LA6 y.labels.length lk6, .slice A6 y.l.length k6, .pointer q6] 45)).alloc (.cells #[.int .i64 1, .int .i64 0, .string ⟨#[]⟩, .slice none 0 0, .slice none 0 0, .pointer none] 45)).heap[w.heap.size + 2]? = some (.cells #[.int .i64 1, .int .i64 0, .string ⟨#[]⟩, .slice none 0 0, .slice none 0 0, .pointer none] 45) := heap_new s2
  obtain ⟨a0, a1, a2, a3, a4, a5⟩ := cells6 hX0
  obtain ⟨d0, d1, d2, d3, d4, d5⟩ := cells6 hX1
  have HB3 := Lib.hid hb3
  have HX2 := Lib.hid hX2
  have HH := Lib.hid h
  have HN := Lib.hid hn
  have HBM := Lib.hid (fun (wr : World) (hb : Below w.heap.size w wr) => And.intro (Tr.below (P := Mv mb t r v f) hb) (hb.mono (Nat.le_of_lt (Nat.lt_of_le_of_lt h.base.2 h.lt))))
  obtain ⟨g0, g1, g2, g3, g4, g5⟩ := cells6 HX2.out
  have HT := Lib.hid (tellH_any (h.below hb3) hn 1 0 0 false)
  obtain ⟨b0, f0⟩ : ∃ b0, ((bstr o).toList == [94]) = b0 := ⟨_, rfl⟩
  obtain ⟨b1, f1⟩ : ∃ b1, ((bstr o).toList == [35]) = b1 := ⟨_, rfl⟩
  clear h hn hb1 hb2 hb3 hX0 hX1 hX2 s2
  cases b0 <;> cases b1
  all_goals
    go_enter Tryd.func40, Tryd.ntmps40
    go_wp2_with (go_at_call 35; (with_reducible refine HT.out.mono ?_); rintro e1 w2 ⟨rfl, hp⟩; have HP := Lib.hid hp; clear hp HT)
    go_returns
    with_reducible exact ⟨rfl, HP.out.mono (HBM.out _ HB3.out).1 (HBM.out _ HB3.out).2⟩
set_option maxHeartbeats 4000000 in
theorem operNn1_any (h : Rep w0 B mb s w t i r v f nx nm rcs vcs fcs) (hn : s.vals.length ≤ 100000000000) (o : Str) (x y : Val) (A : Option Addr) (c : Nat) (p : Option Addr) (LA : Option Addr) (lc : Nat) (A6 : Option Addr) (k6 : Nat) (q6 : Option Addr) (LA6 : Option Addr) (lk6 : Nat) (hx1 : ¬ x.sort = 1) (hx2 : ¬ x.sort = 2) (hy : y.sort = 1)  :
    Calls Tryd.prog 40 #[.pointer (some ⟨mb, 0, none⟩), .string (bstr o), .agg #[.int .i64 x.sort, .int .i64 x.n, .string (bstr x.s), .slice LA x.labels.length lc, .slice A x.l.length c, .pointer p], .agg #[.int .i64 y.sort, .int .i64 y.n, .string (bstr y.s), .slice LA6 y.labels.length lk6, .slice A6 y.l.length k6, .pointer q6]] w fun e w' => e = .returned (.tuple #[]) ∧ Post w0 B mb (Mv mb t r v f) w (s.oper o x y) w' := by
  have e : s.oper o x y = s.tell (.mk 1 0 [] [] [] none) 0 false := by unfold St.oper; rw [if_neg (fun k => hx2 k.2.1), if_neg (fun k => hx2 k.2.1), if_neg (fun k => hx1 k.1)]
  rw [e, hy]
  clear e hy
  have hb1 : Below w.heap.size w (w.alloc (.cells #[.int .i64 x.sort, .int .i64 x.n, .string (bstr x.s), .slice LA x.labels.length lc, .slice A x.l.length c, .pointer p] 45)) := (Below.refl _ _).alloc (Nat.le_refl _) _
  have hb2 : Below w.heap.size w ((w.alloc (.cells #[.int .i64 x.sort, .int .i64 x.n, .string (bstr x.s), .slice LA x.labels.length lc, .slice A x.l.length c, .pointer p] 45)).alloc (.cells #[.int .i64 1, .int .i64 y.n, .string (bstr y.s), .slice LA6 y.labels.length lk6, .slice A6 y.l.length k6, .pointer q6] 45)) := hb1.alloc (by rw [World.size_alloc]; omega) _
  have hb3 : Below w.heap.size w (((w.alloc (.cells #[.int .i64 x.sort, .int .i64 x.n, .string (bstr x.s), .slice LA x.labels.length lc, .slice A x.l.length c, .pointer p] 45)).alloc (.cells #[.int .i64 1, .int .i64 y.n, .string (bstr y.s), .slice LA6 y.labels.length lk6, .slice A6 y.l.length k6, .pointer q6] 45)).alloc (.cells #[.int .i64 1, .int .i64 0, .string ⟨#[]⟩, .slice none 0 0, .slice none 0 0, .pointer none] 45)) := hb2.alloc (by rw [World.size_alloc, World.size_alloc]; omega) _
  have s2 : ((w.alloc (.cells #[.int .i64 x.sort, .int .i64 x.n, .string (bstr x.s), .slice LA x.labels.length lc, .slice A x.l.length c, .pointer p] 45)).alloc (.cells #[.int .i64 1, .int .i64 y.n, .string (bstr y.s), .slice LA6 y.labels.length lk6, .slice A6 y.l.length k6, .pointer q6] 45)).heap.size = w.heap.size + 2 := by rw [World.size_alloc, World.size_alloc]
  have hX0 : (((w.alloc (.cells #[.int .i64 x.sort, .int .i64 x.n, .string (bstr x.s), .slice LA x.labels.length lc, .slice A x.l.length c, .pointer p] 45)).alloc (.cells #[.int .i64 1, .int .i64 y.n, .string (bstr y.s), .slice LA6 y.labels.length lk6, .slice A6 y.l.length k6, .pointer q6] 45)).alloc (.cells #[.int .i64 1, .int .i64 0, .string ⟨#[]⟩, .slice none 0 0, .slice none 0 0, .pointer none] 45)).heap[w.heap.size]? = some (.cells #[.int .i64 x.sort, .int .i64 x.n, .string (bstr x.s), .slice LA x.labels.length lc, .slice A x.l.length c, .pointer p] 45) := (Below.heap_alloc _ _ _ (by rw [s2]; omega)).trans ((Below.heap_alloc _ _ _ (by rw [World.size_alloc]; omega)).trans (heap_new rfl))
  have hX1 : (((w.alloc (.cells #[.int .i64 x.sort, .int .i64 x.n, .string (bstr x.s), .slice LA x.labels.length lc, .slice A x.l.length c, .pointer p] 45)).alloc (.cells #[.int .i64 1, .int .i64 y.n, .string (bstr y.s), .slice LA6 y.labels.length lk6, .slice A6 y.l.length k6, .pointer q6] 45)).alloc (.cells #[.int .i64 1, .int .i64 0, .string ⟨#[]⟩, .slice none 0 0, .slice none 0 0, .pointer none] 45)).heap[w.heap.size + 1]? = some (.cells #[.int .i64 1, .int .i64 y.n, .string (bstr y.s), .slice LA6 y.labels.length lk6, .slice A6 y.l.length k6, .pointer q6] 45) := (Below.heap_alloc _ _ _ (by rw [s2]; omega)).trans (heap_new (World.size_alloc _ _))
  have hX2 : (((w.alloc (.cells #[.int .i64 x.sort, .int .i64 x.n, .string (bstr x.s), .slice LA x.labels.length lc, .slice A x.l.length c, .pointer p] 45)).alloc (.cells #[.int .i64 1, .int .i64 y.n, .string (bstr y.s), .slice LA6 y.labels.length lk6, .slice A6 y.l.length k6, .pointer q6] 45)).alloc (.cells #[.int .i64 1, .int .i64 0, .string ⟨#[]⟩, .slice none 0 0, .slice none 0 0, .pointer none] 45)).heap[w.heap.size + 2]? = some (.cells #[.int .i64 1, .int .i64 0, .string ⟨#[]⟩, .slice none 0 0, .slice none 0 0, .pointer none] 45) := heap_new s2
  obtain ⟨a0, a1, a2, a3, a4, a5⟩ := cells6 hX0
  obtain ⟨d0, d1, d2, d3, d4, d5⟩ := cells6 hX1
  have HB3 := Lib.hid hb3
  have HX2 := Lib.hid hX2
  have HH := Lib.hid h
  have HN := Lib.hid hn
  have HBM := Lib.hid (fun (wr : World) (hb : Below w.heap.size w wr) => And.intro (Tr.below (P := Mv mb t r v f) hb) (hb.mono (Nat.le_of_lt (Nat.lt_of_le_of_lt h.base.2 h.lt))))
  obtain ⟨g0, g1, g2, g3, g4, g5⟩ := cells6 HX2.out
  have HT := Lib.hid (tellH_any (h.below hb3) hn 1 0 0 false)
  obtain ⟨b0, f0⟩ : ∃ b0, ((bstr o).toList == [94]) = b0 := ⟨_, rfl⟩
  obtain ⟨b1, f1⟩ : ∃ b1, ((bstr o).toList == [35]) = b1 := ⟨_, rfl⟩
  clear h hn hb1 hb2 hb3 hX0 hX1 hX2 s2
  cases b0 <;> cases b1
  all_goals
    go_enter Tryd.func40, Tryd.ntmps40
    go_wp2_with (go_at_call 35; (with_reducible refine HT.out.mono ?_); rintro e1 w2 ⟨rfl, hp⟩; have HP := Lib.hid hp; clear hp HT)
    go_returns
    with_reducible exact ⟨rfl, HP.out.mono (HBM.out _ HB3.out).1 (HBM.out _ HB3.out).2⟩
set_option maxHeartbeats 4000000 in
theorem operNnn_any (h : Rep w0 B mb s w t i r v f nx nm rcs vcs fcs) (hn : s.vals.length ≤ 100000000000) (o : Str) (x y : Val) (A : Option Addr) (c : Nat) (p : Option Addr) (LA : Option Addr) (lc : Nat) (A6 : Option Addr) (k6 : Nat) (q6 : Option Addr) (LA6 : Option Addr) (lk6 : Nat) (hx1 : ¬ x.sort = 1) (hx2 : ¬ x.sort = 2) (hy1 : ¬ y.sort = 1) (hy2 : ¬ y.sort = 2)  :
    Calls Tryd.prog 40 #[.pointer (some ⟨mb, 0, none⟩), .string (bstr o), .agg #[.int .i64 x.sort, .int .i64 x.n, .string (bstr x.s), .slice LA x.labels.length lc, .slice A x.l.length c, .pointer p], .agg #[.int .i64 y.sort, .int .i64 y.n, .string (bstr y.s), .slice LA6 y.labels.length lk6, .slice A6 y.l.length k6, .pointer q6]] w fun e w' => e = .returned (.tuple #[]) ∧ Post w0 B mb (Mv mb t r v f) w (s.oper o x y) w' := by
  have e : s.oper o x y = s.tell (.mk 1 0 [] [] [] none) 0 false := by unfold St.oper; rw [if_neg (fun k => hx2 k.2.1), if_neg (fun k => hx2 k.2.1), if_neg (fun k => hx1 k.1)]
  rw [e]
  clear e
  have hb1 : Below w.heap.size w (w.alloc (.cells #[.int .i64 x.sort, .int .i64 x.n, .string (bstr x.s), .slice LA x.labels.length lc, .slice A x.l.length c, .pointer p] 45)) := (Below.refl _ _).alloc (Nat.le_refl _) _
  have hb2 : Below w.heap.size w ((w.alloc (.cells #[.int .i64 x.sort, .int .i64 x.n, .string (bstr x.s), .slice LA x.labels.length lc, .slice A x.l.length c, .pointer p] 45)).alloc (.cells #[.int .i64 y.sort, .int .i64 y.n, .string (bstr y.s), .slice LA6 y.labels.length lk6, .slice A6 y.l.length k6, .pointer q6] 45)) := hb1.alloc (by rw [World.size_alloc]; omega) _
  have hb3 : Below w.heap.size w (((w.alloc (.cells #[.int .i64 x.sort, .int .i64 x.n, .string (bstr x.s), .slice LA x.labels.length lc, .slice A x.l.length c, .pointer p] 45)).alloc (.cells #[.int .i64 y.sort, .int .i64 y.n, .string (bstr y.s), .slice LA6 y.labels.length lk6, .slice A6 y.l.length k6, .pointer q6] 45)).alloc (.cells #[.int .i64 1, .int .i64 0, .string ⟨#[]⟩, .slice none 0 0, .slice none 0 0, .pointer none] 45)) := hb2.alloc (by rw [World.size_alloc, World.size_alloc]; omega) _
  have s2 : ((w.alloc (.cells #[.int .i64 x.sort, .int .i64 x.n, .string (bstr x.s), .slice LA x.labels.length lc, .slice A x.l.length c, .pointer p] 45)).alloc (.cells #[.int .i64 y.sort, .int .i64 y.n, .string (bstr y.s), .slice LA6 y.labels.length lk6, .slice A6 y.l.length k6, .pointer q6] 45)).heap.size = w.heap.size + 2 := by rw [World.size_alloc, World.size_alloc]
  have hX0 : (((w.alloc (.cells #[.int .i64 x.sort, .int .i64 x.n, .string (bstr x.s), .slice LA x.labels.length lc, .slice A x.l.length c, .pointer p] 45)).alloc (.cells #[.int .i64 y.sort, .int .i64 y.n, .string (bstr y.s), .slice LA6 y.labels.length lk6, .slice A6 y.l.length k6, .pointer q6] 45)).alloc (.cells #[.int .i64 1, .int .i64 0, .string ⟨#[]⟩, .slice none 0 0, .slice none 0 0, .pointer none] 45)).heap[w.heap.size]? = some (.cells #[.int .i64 x.sort, .int .i64 x.n, .string (bstr x.s), .slice LA x.labels.length lc, .slice A x.l.length c, .pointer p] 45) := (Below.heap_alloc _ _ _ (by rw [s2]; omega)).trans ((Below.heap_alloc _ _ _ (by rw [World.size_alloc]; omega)).trans (heap_new rfl))
  have hX1 : (((w.alloc (.cells #[.int .i64 x.sort, .int .i64 x.n, .string (bstr x.s), .slice LA x.labels.length lc, .slice A x.l.length c, .pointer p] 45)).alloc (.cells #[.int .i64 y.sort, .int .i64 y.n, .string (bstr y.s), .slice LA6 y.labels.length lk6, .slice A6 y.l.length k6, .pointer q6] 45)).alloc (.cells #[.int .i64 1, .int .i64 0, .string ⟨#[]⟩, .slice none 0 0, .slice none 0 0, .pointer none] 45)).heap[w.heap.size + 1]? = some (.cells #[.int .i64 y.sort, .int .i64 y.n, .string (bstr y.s), .slice LA6 y.labels.length lk6, .slice A6 y.l.length k6, .pointer q6] 45) := (Below.heap_alloc _ _ _ (by rw [s2]; omega)).trans (heap_new (World.size_alloc _ _))
  have hX2 : (((w.alloc (.cells #[.int .i64 x.sort, .int .i64 x.n, .string (bstr x.s), .slice LA x.labels.length lc, .slice A x.l.length c, .pointer p] 45)).alloc (.cells #[.int .i64 y.sort, .int .i64 y.n, .string (bstr y.s), .slice LA6 y.labels.length lk6, .slice A6 y.l.length k6, .pointer q6] 45)).alloc (.cells #[.int .i64 1, .int .i64 0, .string ⟨#[]⟩, .slice none 0 0, .slice none 0 0, .pointer none] 45)).heap[w.heap.size + 2]? = some (.cells #[.int .i64 1, .int .i64 0, .string ⟨#[]⟩, .slice none 0 0, .slice none 0 0, .pointer none] 45) := heap_new s2
  obtain ⟨a0, a1, a2, a3, a4, a5⟩ := cells6 hX0
  obtain ⟨d0, d1, d2, d3, d4, d5⟩ := cells6 hX1
  have HB3 := Lib.hid hb3
  have HX2 := Lib.hid hX2
  have HH := Lib.hid h
  have HN := Lib.hid hn
  have HBM := Lib.hid (fun (wr : World) (hb : Below w.heap.size w wr) => And.intro (Tr.below (P := Mv mb t r v f) hb) (hb.mono (Nat.le_of_lt (Nat.lt_of_le_of_lt h.base.2 h.lt))))
  obtain ⟨g0, g1, g2, g3, g4, g5⟩ := cells6 HX2.out
  have HT := Lib.hid (tellH_any (h.below hb3) hn 1 0 0 false)
  obtain ⟨b0, f0⟩ : ∃ b0, ((bstr o).toList == [94]) = b0 := ⟨_, rfl⟩
  obtain ⟨b1, f1⟩ : ∃ b1, ((bstr o).toList == [35]) = b1 := ⟨_, rfl⟩
  clear h hn hb1 hb2 hb3 hX0 hX1 hX2 s2
  cases b0 <;> cases b1
  all_goals
    go_enter Tryd.func40, Tryd.ntmps40
    go_wp2_with (go_at_call 35; (with_reducible refine HT.out.mono ?_); rintro e1 w2 ⟨rfl, hp⟩; have HP := Lib.hid hp; clear hp HT)
    go_returns
    with_reducible exact ⟨rfl, HP.out.mono (HBM.out _ HB3.out).1 (HBM.out _ HB3.out).2⟩
set_option maxHeartbeats 4000000 in
theorem oper_any (h : Rep w0 B mb s w t i r v f nx nm rcs vcs fcs) (hn : s.vals.length ≤ 100000000000) (o : Str) (x y : Val) (A : Option Addr) (c : Nat) (p : Option Addr) (LA : Option Addr) (lc : Nat) (A6 : Option Addr) (k6 : Nat) (q6 : Option Addr) (LA6 : Option Addr) (lk6 : Nat) (h1 : x.s.length ≤ 4000000) (h2 : y.s.length ≤ 4000000) (h3 : -9223372036854775808 ≤ x.n ∧ x.n ≤ 9223372036854775807) (h4 : -9223372036854775808 ≤ y.n ∧ y.n ≤ 9223372036854775807) :
    Calls Tryd.prog 40 #[.pointer (some ⟨mb, 0, none⟩), .string (bstr o), .agg #[.int .i64 x.sort, .int .i64 x.n, .string (bstr x.s), .slice LA x.labels.length lc, .slice A x.l.length c, .pointer p], .agg #[.int .i64 y.sort, .int .i64 y.n, .string (bstr y.s), .slice LA6 y.labels.length lk6, .slice A6 y.l.length k6, .pointer q6]] w fun e w' => e = .returned (.tuple #[]) ∧ Post w0 B mb (Mv mb t r v f) w (s.oper o x y) w' := by
  by_cases x2 : x.sort = 2
  · by_cases y2 : y.sort = 2
    · by_cases ho : o = [94]
      · exact operJ_any h hn o x y A c p LA lc A6 k6 q6 LA6 lk6 ho x2 y2 h1 h2
      · exact operN22_any h hn o x y A c p LA lc A6 k6 q6 LA6 lk6 x2 y2 ho
    · by_cases y1 : y.sort = 1
      · by_cases ho : o = [35]
        · exact operB_any h hn o x y A c p LA lc A6 k6 q6 LA6 lk6 ho x2 y1 h1
        · exact operN21_any h hn o x y A c p LA lc A6 k6 q6 LA6 lk6 x2 y1 ho
      · exact operN2n_any h hn o x y A c p LA lc A6 k6 q6 LA6 lk6 x2 y1 y2
  · by_cases x1 : x.sort = 1
    · by_cases y1 : y.sort = 1
      · exact operI_any h hn o x y A c p LA lc A6 k6 q6 LA6 lk6 x1 y1 h3 h4
      · by_cases y2 : y.sort = 2
        · exact operN12_any h hn o x y A c p LA lc A6 k6 q6 LA6 lk6 x1 y2
        · exact operN1n_any h hn o x y A c p LA lc A6 k6 q6 LA6 lk6 x1 y1 y2
    · by_cases y2 : y.sort = 2
      · exact operNn2_any h hn o x y A c p LA lc A6 k6 q6 LA6 lk6 x1 x2 y2
      · by_cases y1 : y.sort = 1
        · exact operNn1_any h hn o x y A c p LA lc A6 k6 q6 LA6 lk6 x1 x2 y1
        · exact operNnn_any h hn o x y A c p LA lc A6 k6 q6 LA6 lk6 x1 x2 y1 y2
end
end Go.Proofs.YtjmgnohepoacbaaDoor

namespace Go.Proofs.YtjmgnohepoacbaaDoor
open Go.ChangeShapes Go.WideShapes Go.ChangeAt Go.RowKit Go.Sort
set_option linter.unusedVariables false
set_option linter.unusedSimpArgs false

def partsOk (d : ExD) : Bool :=
  if d.kind = 1 ∨ d.kind = 2 ∨ d.kind = 3 ∨ d.kind = 22 then ((d.pn : Int) == 0) else
  if d.kind = 4 ∨ d.kind = 9 ∨ d.kind = 11 ∨ d.kind = 13 ∨ d.kind = 17 ∨ d.kind = 18 ∨ d.kind = 20 ∨ d.kind = 21 then ((d.pn : Int) == 1) else
  if d.kind = 5 ∨ d.kind = 6 ∨ d.kind = 7 ∨ d.kind = 10 ∨ d.kind = 12 ∨ d.kind = 16 ∨ d.kind = 19 then ((d.pn : Int) == 2) else
  if d.kind = 15 then ((d.pn : Int) == 3) else
  if d.kind = 8 then ((d.pn : Int) == (d.ln : Int)) else
  if d.kind = 14 then (if d.t = [] then (((d.pn : Int) == 1 + (d.ln : Int)) && ((d.nn : Int) == (d.ln : Int))) else (((d.pn : Int) - 1 == 1 + (d.ln : Int)) && ((d.nn : Int) == (d.ln : Int)))) else false
set_option maxRecDepth 100000 in
set_option maxHeartbeats 4000000 in
theorem parts_any (d : ExD) (w : World) (eb eo : Nat) (hd : d.At w eb eo) (hp : d.pn ≤ 4000000) (hn : d.nn ≤ 4000000) (hq : d.ln ≤ 4000000) :
    Calls Tryd.prog 19 #[.pointer (some ⟨eb, eo, none⟩), .int .i64 (d.pn : Int)] w fun e w' => e = .returned (.bool (partsOk d)) ∧ Below w.heap.size w w' := by
  have c0 := hd.c0
  have c4 := hd.c4
  have c5 := hd.c5
  have c6 := hd.c6
  clear hd
  obtain ⟨kind, at_, n, s, t, lA, ln, lc, labels, nA, nn, nc, names, pA, pn, pc⟩ := d
  simp only at c0 c4 c5 c6 hp hn hq ⊢
  have hp1 : (pn : Int) ≤ 4000000 := by omega
  have hn1 : (nn : Int) ≤ 4000000 := by omega
  have hq1 : (ln : Int) ≤ 4000000 := by omega
  by_cases h1 : kind = 1
  · subst h1
    go_enter Tryd.func19, Tryd.ntmps19
    go_wp2_with fail
    go_returns
    exact ⟨rfl, Below.refl _ _⟩
  by_cases h2 : kind = 2
  · subst h2
    go_enter Tryd.func19, Tryd.ntmps19
    go_wp2_with fail
    go_returns
    exact ⟨rfl, Below.refl _ _⟩
  by_cases h3 : kind = 3
  · subst h3
    go_enter Tryd.func19, Tryd.ntmps19
    go_wp2_with fail
    go_returns
    exact ⟨rfl, Below.refl _ _⟩
  by_cases h4 : kind = 4
  · subst h4
    go_enter Tryd.func19, Tryd.ntmps19
    go_wp2_with fail
    go_returns
    exact ⟨rfl, Below.refl _ _⟩
  by_cases h5 : kind = 5
  · subst h5
    go_enter Tryd.func19, Tryd.ntmps19
    go_wp2_with fail
    go_returns
    exact ⟨rfl, Below.refl _ _⟩
  by_cases h6 : kind = 6
  · subst h6
    go_enter Tryd.func19, Tryd.ntmps19
    go_wp2_with fail
    go_returns
    exact ⟨rfl, Below.refl _ _⟩
  by_cases h7 : kind = 7
  · subst h7
    go_enter Tryd.func19, Tryd.ntmps19
    go_wp2_with fail
    go_returns
    exact ⟨rfl, Below.refl _ _⟩
  by_cases h8 : kind = 8
  · subst h8
    go_enter Tryd.func19, Tryd.ntmps19
    go_wp2_with fail
    go_returns
    exact ⟨rfl, Below.refl _ _⟩
  by_cases h9 : kind = 9
  · subst h9
    go_enter Tryd.func19, Tryd.ntmps19
    go_wp2_with fail
    go_returns
    exact ⟨rfl, Below.refl _ _⟩
  by_cases h10 : kind = 10
  · subst h10
    go_enter Tryd.func19, Tryd.ntmps19
    go_wp2_with fail
    go_returns
    exact ⟨rfl, Below.refl _ _⟩
  by_cases h11 : kind = 11
  · subst h11
    go_enter Tryd.func19, Tryd.ntmps19
    go_wp2_with fail
    go_returns
    exact ⟨rfl, Below.refl _ _⟩
  by_cases h12 : kind = 12
  · subst h12
    go_enter Tryd.func19, Tryd.ntmps19
    go_wp2_with fail
    go_returns
    exact ⟨rfl, Below.refl _ _⟩
  by_cases h13 : kind = 13
  · subst h13
    go_enter Tryd.func19, Tryd.ntmps19
    go_wp2_with fail
    go_returns
    exact ⟨rfl, Below.refl _ _⟩
  by_cases h15 : kind = 15
  · subst h15
    go_enter Tryd.func19, Tryd.ntmps19
    go_wp2_with fail
    go_returns
    exact ⟨rfl, Below.refl _ _⟩
  by_cases h16 : kind = 16
  · subst h16
    go_enter Tryd.func19, Tryd.ntmps19
    go_wp2_with fail
    go_returns
    exact ⟨rfl, Below.refl _ _⟩
  by_cases h17 : kind = 17
  · subst h17
    go_enter Tryd.func19, Tryd.ntmps19
    go_wp2_with fail
    go_returns
    exact ⟨rfl, Below.refl _ _⟩
  by_cases h18 : kind = 18
  · subst h18
    go_enter Tryd.func19, Tryd.ntmps19
    go_wp2_with fail
    go_returns
    exact ⟨rfl, Below.refl _ _⟩
  by_cases h19 : kind = 19
  · subst h19
    go_enter Tryd.func19, Tryd.ntmps19
    go_wp2_with fail
    go_returns
    exact ⟨rfl, Below.refl _ _⟩
  by_cases h20 : kind = 20
  · subst h20
    go_enter Tryd.func19, Tryd.ntmps19
    go_wp2_with fail
    go_returns
    exact ⟨rfl, Below.refl _ _⟩
  by_cases h21 : kind = 21
  · subst h21
    go_enter Tryd.func19, Tryd.ntmps19
    go_wp2_with fail
    go_returns
    exact ⟨rfl, Below.refl _ _⟩
  by_cases h22 : kind = 22
  · subst h22
    go_enter Tryd.func19, Tryd.ntmps19
    go_wp2_with fail
    go_returns
    exact ⟨rfl, Below.refl _ _⟩
  by_cases h14 : kind = 14
  · subst h14
    by_cases ht : t = []
    · subst ht
      have ft : ((bstr []).toList == []) = true := by rw [bstr_toList]; rfl
      by_cases hg : (pn : Int) = 1 + (ln : Int)
      · have fg : ((pn : Int) == 1 + (ln : Int)) = true := by simpa using hg
        clear hg
        by_cases hh : (nn : Int) = (ln : Int)
        · have fh : ((nn : Int) == (ln : Int)) = true := by simpa using hh
          clear hh
          have e : partsOk ⟨14, at_, n, s, [], lA, ln, lc, labels, nA, nn, nc, names, pA, pn, pc⟩ = true := by
            show ((((pn : Int)) == 1 + (ln : Int)) && ((nn : Int) == (ln : Int))) = _
            rw [fg, fh]; rfl
          rw [e]
          clear e
          go_enter Tryd.func19, Tryd.ntmps19
          go_upto_region 31 with fail
          go_quiet (fail)
          all_goals
            go_wp2_with fail
            go_returns
            exact ⟨rfl, ⟨rfl, rfl, rfl, Nat.le_refl _, fun _ _ => rfl⟩⟩
        · have fh : ((nn : Int) == (ln : Int)) = false := by simpa using hh
          clear hh
          have e : partsOk ⟨14, at_, n, s, [], lA, ln, lc, labels, nA, nn, nc, names, pA, pn, pc⟩ = false := by
            show ((((pn : Int)) == 1 + (ln : Int)) && ((nn : Int) == (ln : Int))) = _
            rw [fg, fh]; rfl
          rw [e]
          clear e
          go_enter Tryd.func19, Tryd.ntmps19
          go_upto_region 31 with fail
          go_quiet (fail)
          all_goals
            go_wp2_with fail
            go_returns
            exact ⟨rfl, ⟨rfl, rfl, rfl, Nat.le_refl _, fun _ _ => rfl⟩⟩
      · have fg : ((pn : Int) == 1 + (ln : Int)) = false := by simpa using hg
        clear hg
        have e : partsOk ⟨14, at_, n, s, [], lA, ln, lc, labels, nA, nn, nc, names, pA, pn, pc⟩ = false := by
          show ((((pn : Int)) == 1 + (ln : Int)) && ((nn : Int) == (ln : Int))) = _
          rw [fg]; rfl
        rw [e]
        clear e
        go_enter Tryd.func19, Tryd.ntmps19
        go_upto_region 31 with fail
        go_quiet (fail)
        all_goals
          go_wp2_with fail
          go_returns
          exact ⟨rfl, ⟨rfl, rfl, rfl, Nat.le_refl _, fun _ _ => rfl⟩⟩
    · have ft : ((bstr t).toList == []) = false := by rw [bstr_toList]; simpa using ht
      by_cases hg : (pn : Int) - 1 = 1 + (ln : Int)
      · have fg : ((pn : Int) - 1 == 1 + (ln : Int)) = true := by simpa using hg
        clear hg
        by_cases hh : (nn : Int) = (ln : Int)
        · have fh : ((nn : Int) == (ln : Int)) = true := by simpa using hh
          clear hh
          have e : partsOk ⟨14, at_, n, s, t, lA, ln, lc, labels, nA, nn, nc, names, pA, pn, pc⟩ = true := by
            show (if t = [] then _ else ((((pn : Int) - 1) == 1 + (ln : Int)) && ((nn : Int) == (ln : Int)))) = _
            rw [if_neg ht]
            rw [fg, fh]; rfl
          rw [e]
          clear e
          go_enter Tryd.func19, Tryd.ntmps19
          go_upto_region 31 with fail
          go_quiet (fail)
          all_goals
            go_wp2_with fail
            go_returns
            exact ⟨rfl, ⟨rfl, rfl, rfl, Nat.le_refl _, fun _ _ => rfl⟩⟩
        · have fh : ((nn : Int) == (ln : Int)) = false := by simpa using hh
          clear hh
          have e : partsOk ⟨14, at_, n, s, t, lA, ln, lc, labels, nA, nn, nc, names, pA, pn, pc⟩ = false := by
            show (if t = [] then _ else ((((pn : Int) - 1) == 1 + (ln : Int)) && ((nn : Int) == (ln : Int)))) = _
            rw [if_neg ht]
            rw [fg, fh]; rfl
          rw [e]
          clear e
          go_enter Tryd.func19, Tryd.ntmps19
          go_upto_region 31 with fail
          go_quiet (fail)
          all_goals
            go_wp2_with fail
            go_returns
            exact ⟨rfl, ⟨rfl, rfl, rfl, Nat.le_refl _, fun _ _ => rfl⟩⟩
      · have fg : ((pn : Int) - 1 == 1 + (ln : Int)) = false := by simpa using hg
        clear hg
        have e : partsOk ⟨14, at_, n, s, t, lA, ln, lc, labels, nA, nn, nc, names, pA, pn, pc⟩ = false := by
          show (if t = [] then _ else ((((pn : Int) - 1) == 1 + (ln : Int)) && ((nn : Int) == (ln : Int)))) = _
          rw [if_neg ht]
          rw [fg]; rfl
        rw [e]
        clear e
        go_enter Tryd.func19, Tryd.ntmps19
        go_upto_region 31 with fail
        go_quiet (fail)
        all_goals
          go_wp2_with fail
          go_returns
          exact ⟨rfl, ⟨rfl, rfl, rfl, Nat.le_refl _, fun _ _ => rfl⟩⟩
  have e : partsOk ⟨kind, at_, n, s, t, lA, ln, lc, labels, nA, nn, nc, names, pA, pn, pc⟩ = false := by simp [partsOk, *]
  rw [e]
  clear e
  go_enter Tryd.func19, Tryd.ntmps19
  go_wp2_with fail
  go_returns
  exact ⟨rfl, Below.refl _ _⟩
end Go.Proofs.YtjmgnohepoacbaaDoor

namespace Go.Proofs.YtjmgnohepoacbaaDoor
open Go.ChangeShapes Go.WideShapes Go.ChangeAt Go.RowKit Go.Sort
set_option linter.unusedVariables false
set_option linter.unusedSimpArgs false

section
variable {w0 w : World} {B mb : Nat} {s : St} {t i r v f nx nm : Value} {rcs vcs fcs : List (List Value)}
set_option maxHeartbeats 4000000 in
theorem beginStuck_any (h : Rep w0 B mb s w t i r v f nx nm rcs vcs fcs) (hv : s.vals.length ≤ 100000000000) (e : Ex) (env : Env) (eb eo : Nat) (u : Option Addr) (he : EN w0 w (Mv mb t r v f) e env eb eo (.pointer u)) (hd : e.d.At w eb eo) (hp : e.d.pn ≤ 4000000) (hn : e.d.nn ≤ 4000000) (hq : e.d.ln ≤ 4000000) (hk : partsOk e.d = false) :
    Calls Tryd.prog 14 #[.agg #[.pointer (some ⟨mb, 0, none⟩)], .pointer (some ⟨eb, eo, none⟩), .pointer u] w fun e1 w' => e1 = .returned (.tuple #[]) ∧ Post w0 B mb (Mv mb t r v f) w { s with err := 11 } w' := by
  have hb : Below w.heap.size w (w.alloc (.cells #[.pointer (some ⟨mb, 0, none⟩)] 41)) := (Below.refl _ _).alloc (Nat.le_refl _) _
  have HP0 := Lib.hid (parts_any e.d _ eb eo (hd.lower hb) hp hn hq)
  have k7 := (hd.lower hb).c7
  rw [hk] at HP0
  have HC := Lib.hid (fun (wr : World) (hb : Below w.heap.size w wr) => stuck_any (h.below hb))
  have HB := Lib.hid hb
  have hx := heap_new (w := w) (o := .cells #[.pointer (some ⟨mb, 0, none⟩)] 41) rfl
  have HX := Lib.hid hx
  have HBM := Lib.hid (fun (wr : World) (hb : Below w.heap.size w wr) => And.intro (Tr.below (P := Mv mb t r v f) hb) (hb.mono (Nat.le_of_lt (Nat.lt_of_le_of_lt h.base.2 h.lt))))
  clear h hb he hd hp hn hq hk hv hx
  go_enter Tryd.func14, Tryd.ntmps14
  go_wp2_with (first
    | (go_at_call 19; (with_reducible refine HP0.out.mono ?_); rintro e1 w1 ⟨rfl, hb1⟩; have c0 : w1.cell? ⟨w.heap.size, 0, none⟩ = some (.pointer (some ⟨mb, 0, none⟩)) := (by rw [Lib.cell_of_heap ((hb1.block _ (lt_of_heap HX.out)).trans HX.out)]; rfl); clear k7; have HB1 := Lib.hid (below_then HB.out hb1); clear hb1 HP0)
    | (go_at_call 20; (with_reducible refine (HC.out _ HB1.out).mono ?_); rintro e1 w2 ⟨rfl, hp⟩; have HP := Lib.hid hp; clear hp))
  go_returns
  with_reducible exact ⟨rfl, HP.out.mono (HBM.out _ HB1.out).1 (HBM.out _ HB1.out).2⟩
end
end Go.Proofs.YtjmgnohepoacbaaDoor

namespace Go.Proofs.YtjmgnohepoacbaaDoor
open Go.ChangeShapes Go.WideShapes Go.ChangeAt Go.RowKit Go.Sort
set_option linter.unusedVariables false
set_option linter.unusedSimpArgs false

section
variable {w0 w : World} {B mb : Nat} {s : St} {t i r v f nx nm : Value} {rcs vcs fcs : List (List Value)}
set_option maxHeartbeats 4000000 in
theorem beginInt_any (h : Rep w0 B mb s w t i r v f nx nm rcs vcs fcs) (hv : s.vals.length ≤ 100000000000)  (e : Ex) (env : Env) (eb eo : Nat) (u : Option Addr) (he : EN w0 w (Mv mb t r v f) e env eb eo (.pointer u)) (hd : e.d.At w eb eo) (hp : e.d.pn ≤ 4000000) (hn : e.d.nn ≤ 4000000) (hq : e.d.ln ≤ 4000000) (hk : partsOk e.d = true) (hkd : e.d.kind = 1) :
    Calls Tryd.prog 14 #[.agg #[.pointer (some ⟨mb, 0, none⟩)], .pointer (some ⟨eb, eo, none⟩), .pointer u] w fun e1 w' => e1 = .returned (.tuple #[]) ∧ Post w0 B mb (Mv mb t r v f) w { s with vals := s.vals ++ [.mk 1 e.d.n [] [] [] none] } w' := by
  have hb : Below w.heap.size w (w.alloc (.cells #[.pointer (some ⟨mb, 0, none⟩)] 41)) := (Below.refl _ _).alloc (Nat.le_refl _) _
  have HP0 := Lib.hid (parts_any e.d _ eb eo (hd.lower hb) hp hn hq)
  have k7 := (hd.lower hb).c7
  rw [hk] at HP0
  have HC := Lib.hid (fun (wr : World) (hb : Below w.heap.size w wr) => tellE_any (h.below hb) hv 1 e.d.n)
  have HD := Lib.hid (fun (wr : World) (hb : Below w.heap.size w wr) => hd.lower hb)
  have HB := Lib.hid hb
  have hx := heap_new (w := w) (o := .cells #[.pointer (some ⟨mb, 0, none⟩)] 41) rfl
  have HX := Lib.hid hx
  have HBM := Lib.hid (fun (wr : World) (hb : Below w.heap.size w wr) => And.intro (Tr.below (P := Mv mb t r v f) hb) (hb.mono (Nat.le_of_lt (Nat.lt_of_le_of_lt h.base.2 h.lt))))
  have HKD := hkd
  clear h hb he hd hp hn hq hk hv hx
  go_enter Tryd.func14, Tryd.ntmps14
  go_upto_region 6 with (go_at_call 19; (with_reducible refine HP0.out.mono ?_); rintro e1 w1 ⟨rfl, hb1⟩; have hbw := below_then HB.out hb1; have c0 : w1.cell? ⟨w.heap.size, 0, none⟩ = some (.pointer (some ⟨mb, 0, none⟩)) := (by rw [Lib.cell_of_heap ((hb1.block _ (lt_of_heap HX.out)).trans HX.out)]; rfl); have k0 := (HD.out _ hbw).c0; have k1 := (HD.out _ hbw).c2; have k2 := (HD.out _ hbw).c3; rw [hkd] at k0; clear k7; have HB1 := Lib.hid hbw; clear hb1 HP0 hbw)
  go_region_law (go_simp; go_at_call 21; (with_reducible refine (HC.out _ (Below.drew HB1.out)).mono ?_); rintro e1 w2 ⟨rfl, hp⟩; have HP := Lib.hid hp; clear hp)
  all_goals
    go_wp2_with fail
    go_returns
    with_reducible exact ⟨rfl, HP.out.mono (HBM.out _ (Below.drew HB1.out)).1 (HBM.out _ (Below.drew HB1.out)).2⟩
set_option maxHeartbeats 4000000 in
theorem beginText_any (h : Rep w0 B mb s w t i r v f nx nm rcs vcs fcs) (hv : s.vals.length ≤ 100000000000)  (e : Ex) (env : Env) (eb eo : Nat) (u : Option Addr) (he : EN w0 w (Mv mb t r v f) e env eb eo (.pointer u)) (hd : e.d.At w eb eo) (hp : e.d.pn ≤ 4000000) (hn : e.d.nn ≤ 4000000) (hq : e.d.ln ≤ 4000000) (hk : partsOk e.d = true) (hkd : e.d.kind = 2) :
    Calls Tryd.prog 14 #[.agg #[.pointer (some ⟨mb, 0, none⟩)], .pointer (some ⟨eb, eo, none⟩), .pointer u] w fun e1 w' => e1 = .returned (.tuple #[]) ∧ Post w0 B mb (Mv mb t r v f) w { s with vals := s.vals ++ [.mk 2 0 e.d.s [] [] none] } w' := by
  have hb : Below w.heap.size w (w.alloc (.cells #[.pointer (some ⟨mb, 0, none⟩)] 41)) := (Below.refl _ _).alloc (Nat.le_refl _) _
  have HP0 := Lib.hid (parts_any e.d _ eb eo (hd.lower hb) hp hn hq)
  have k7 := (hd.lower hb).c7
  rw [hk] at HP0
  have HC := Lib.hid (fun (wr : World) (hb : Below w.heap.size w wr) => tellS_any (h.below hb) hv 2 0 e.d.s)
  have HD := Lib.hid (fun (wr : World) (hb : Below w.heap.size w wr) => hd.lower hb)
  have HB := Lib.hid hb
  have hx := heap_new (w := w) (o := .cells #[.pointer (some ⟨mb, 0, none⟩)] 41) rfl
  have HX := Lib.hid hx
  have HBM := Lib.hid (fun (wr : World) (hb : Below w.heap.size w wr) => And.intro (Tr.below (P := Mv mb t r v f) hb) (hb.mono (Nat.le_of_lt (Nat.lt_of_le_of_lt h.base.2 h.lt))))
  have HKD := hkd
  clear h hb he hd hp hn hq hk hv hx
  go_enter Tryd.func14, Tryd.ntmps14
  go_upto_region 8 with (go_at_call 19; (with_reducible refine HP0.out.mono ?_); rintro e1 w1 ⟨rfl, hb1⟩; have hbw := below_then HB.out hb1; have c0 : w1.cell? ⟨w.heap.size, 0, none⟩ = some (.pointer (some ⟨mb, 0, none⟩)) := (by rw [Lib.cell_of_heap ((hb1.block _ (lt_of_heap HX.out)).trans HX.out)]; rfl); have k0 := (HD.out _ hbw).c0; have k1 := (HD.out _ hbw).c2; have k2 := (HD.out _ hbw).c3; rw [hkd] at k0; clear k7; have HB1 := Lib.hid hbw; clear hb1 HP0 hbw)
  go_region_law (go_simp; go_at_call 21; (with_reducible refine (HC.out _ (Below.drew HB1.out)).mono ?_); rintro e1 w2 ⟨rfl, hp⟩; have HP := Lib.hid hp; clear hp)
  all_goals
    go_wp2_with fail
    go_returns
    with_reducible exact ⟨rfl, HP.out.mono (HBM.out _ (Below.drew HB1.out)).1 (HBM.out _ (Below.drew HB1.out)).2⟩
set_option maxHeartbeats 4000000 in
theorem beginVar_any (h : Rep w0 B mb s w t i r v f nx nm rcs vcs fcs) (hv : s.vals.length ≤ 100000000000)  (e : Ex) (env : Env) (eb eo : Nat) (u : Option Addr) (he : EN w0 w (Mv mb t r v f) e env eb eo (.pointer u)) (hd : e.d.At w eb eo) (hp : e.d.pn ≤ 4000000) (hn : e.d.nn ≤ 4000000) (hq : e.d.ln ≤ 4000000) (hk : partsOk e.d = true) (hkd : e.d.kind = 3) :
    Calls Tryd.prog 14 #[.agg #[.pointer (some ⟨mb, 0, none⟩)], .pointer (some ⟨eb, eo, none⟩), .pointer u] w fun e1 w' => e1 = .returned (.tuple #[]) ∧ Post w0 B mb (Mv mb t r v f) w (s.name e.d.s env) w' := by
  have hb : Below w.heap.size w (w.alloc (.cells #[.pointer (some ⟨mb, 0, none⟩)] 41)) := (Below.refl _ _).alloc (Nat.le_refl _) _
  have HP0 := Lib.hid (parts_any e.d _ eb eo (hd.lower hb) hp hn hq)
  have k7 := (hd.lower hb).c7
  rw [hk] at HP0
  have HC := Lib.hid (fun (wr : World) (hb : Below w.heap.size w wr) => name_any (h.below hb) hv e.d.s env _ (he.2.keep (Tr.below hb)))
  have HD := Lib.hid (fun (wr : World) (hb : Below w.heap.size w wr) => hd.lower hb)
  have HB := Lib.hid hb
  have hx := heap_new (w := w) (o := .cells #[.pointer (some ⟨mb, 0, none⟩)] 41) rfl
  have HX := Lib.hid hx
  have HBM := Lib.hid (fun (wr : World) (hb : Below w.heap.size w wr) => And.intro (Tr.below (P := Mv mb t r v f) hb) (hb.mono (Nat.le_of_lt (Nat.lt_of_le_of_lt h.base.2 h.lt))))
  have HKD := hkd
  clear h hb he hd hp hn hq hk hv hx
  go_enter Tryd.func14, Tryd.ntmps14
  go_upto_region 10 with (go_at_call 19; (with_reducible refine HP0.out.mono ?_); rintro e1 w1 ⟨rfl, hb1⟩; have hbw := below_then HB.out hb1; have c0 : w1.cell? ⟨w.heap.size, 0, none⟩ = some (.pointer (some ⟨mb, 0, none⟩)) := (by rw [Lib.cell_of_heap ((hb1.block _ (lt_of_heap HX.out)).trans HX.out)]; rfl); have k0 := (HD.out _ hbw).c0; have k1 := (HD.out _ hbw).c2; have k2 := (HD.out _ hbw).c3; rw [hkd] at k0; clear k7; have HB1 := Lib.hid hbw; clear hb1 HP0 hbw)
  go_region_law (go_simp; go_at_call 22; (with_reducible refine (HC.out _ (Below.drew HB1.out)).mono ?_); rintro e1 w2 ⟨rfl, hp⟩; have HP := Lib.hid hp; clear hp)
  all_goals
    go_wp2_with fail
    go_returns
    with_reducible exact ⟨rfl, HP.out.mono (HBM.out _ (Below.drew HB1.out)).1 (HBM.out _ (Below.drew HB1.out)).2⟩
set_option maxHeartbeats 4000000 in
theorem beginRead_any (h : Rep w0 B mb s w t i r v f nx nm rcs vcs fcs) (hv : s.vals.length ≤ 100000000000) (hi : s.input.length ≤ 100000000000) (e : Ex) (env : Env) (eb eo : Nat) (u : Option Addr) (he : EN w0 w (Mv mb t r v f) e env eb eo (.pointer u)) (hd : e.d.At w eb eo) (hp : e.d.pn ≤ 4000000) (hn : e.d.nn ≤ 4000000) (hq : e.d.ln ≤ 4000000) (hk : partsOk e.d = true) (hkd : e.d.kind = 22) :
    Calls Tryd.prog 14 #[.agg #[.pointer (some ⟨mb, 0, none⟩)], .pointer (some ⟨eb, eo, none⟩), .pointer u] w fun e1 w' => e1 = .returned (.tuple #[]) ∧ Post w0 B mb (Mv mb t r v f) w s.read w' := by
  have hb : Below w.heap.size w (w.alloc (.cells #[.pointer (some ⟨mb, 0, none⟩)] 41)) := (Below.refl _ _).alloc (Nat.le_refl _) _
  have HP0 := Lib.hid (parts_any e.d _ eb eo (hd.lower hb) hp hn hq)
  have k7 := (hd.lower hb).c7
  rw [hk] at HP0
  have HC := Lib.hid (fun (wr : World) (hb : Below w.heap.size w wr) => read_any (h.below hb) hv hi)
  have HD := Lib.hid (fun (wr : World) (hb : Below w.heap.size w wr) => hd.lower hb)
  have HB := Lib.hid hb
  have hx := heap_new (w := w) (o := .cells #[.pointer (some ⟨mb, 0, none⟩)] 41) rfl
  have HX := Lib.hid hx
  have HBM := Lib.hid (fun (wr : World) (hb : Below w.heap.size w wr) => And.intro (Tr.below (P := Mv mb t r v f) hb) (hb.mono (Nat.le_of_lt (Nat.lt_of_le_of_lt h.base.2 h.lt))))
  have HKD := hkd
  clear h hb he hd hp hn hq hk hv hx
  go_enter Tryd.func14, Tryd.ntmps14
  go_wp2_with (first
    | (go_at_call 19; (with_reducible refine HP0.out.mono ?_); rintro e1 w1 ⟨rfl, hb1⟩; have hbw := below_then HB.out hb1; have c0 : w1.cell? ⟨w.heap.size, 0, none⟩ = some (.pointer (some ⟨mb, 0, none⟩)) := (by rw [Lib.cell_of_heap ((hb1.block _ (lt_of_heap HX.out)).trans HX.out)]; rfl); have k0 := (HD.out _ hbw).c0; have k1 := (HD.out _ hbw).c2; have k2 := (HD.out _ hbw).c3; rw [hkd] at k0; clear k7; have HB1 := Lib.hid hbw; clear hb1 HP0 hbw)
    | (go_at_call 26; (with_reducible refine (HC.out _ HB1.out).mono ?_); rintro e1 w2 ⟨rfl, hp⟩; have HP := Lib.hid hp; clear hp))
  go_returns
  with_reducible exact ⟨rfl, HP.out.mono (HBM.out _ HB1.out).1 (HBM.out _ HB1.out).2⟩
set_option maxHeartbeats 4000000 in
theorem beginWait_any (h : Rep w0 B mb s w t i r v f nx nm rcs vcs fcs) (hv : s.vals.length ≤ 100000000000) (hf : s.frames.length ≤ 100000000000) (e : Ex) (env : Env) (eb eo : Nat) (u : Option Addr) (he : EN w0 w (Mv mb t r v f) e env eb eo (.pointer u)) (hd : e.d.At w eb eo) (hp : e.d.pn ≤ 4000000) (hn : e.d.nn ≤ 4000000) (hq : e.d.ln ≤ 4000000) (hk : partsOk e.d = true) (q1 : ¬ e.d.kind = 1) (q2 : ¬ e.d.kind = 2) (q3 : ¬ e.d.kind = 3) (q4 : ¬ e.d.kind = 4) (q7 : ¬ e.d.kind = 7) (q22 : ¬ e.d.kind = 22) :
    Calls Tryd.prog 14 #[.agg #[.pointer (some ⟨mb, 0, none⟩)], .pointer (some ⟨eb, eo, none⟩), .pointer u] w fun e1 w' => e1 = .returned (.tuple #[]) ∧ Post w0 B mb (Mv mb t r v f) w { s with frames := s.frames ++ [⟨e, env, s.vals.length⟩] } w' := by
  have hb : Below w.heap.size w (w.alloc (.cells #[.pointer (some ⟨mb, 0, none⟩)] 41)) := (Below.refl _ _).alloc (Nat.le_refl _) _
  have HP0 := Lib.hid (parts_any e.d _ eb eo (hd.lower hb) hp hn hq)
  have k7 := (hd.lower hb).c7
  rw [hk] at HP0
  have HC := Lib.hid (fun (wr : World) (hb : Below w.heap.size w wr) => wait_any (h.below hb) hv hf e env eb eo u ⟨he.1, he.2.keep (Tr.below hb)⟩)
  have HD := Lib.hid (fun (wr : World) (hb : Below w.heap.size w wr) => hd.lower hb)
  have HB := Lib.hid hb
  have hx := heap_new (w := w) (o := .cells #[.pointer (some ⟨mb, 0, none⟩)] 41) rfl
  have HX := Lib.hid hx
  have HBM := Lib.hid (fun (wr : World) (hb : Below w.heap.size w wr) => And.intro (Tr.below (P := Mv mb t r v f) hb) (hb.mono (Nat.le_of_lt (Nat.lt_of_le_of_lt h.base.2 h.lt))))
  have f1 : (e.d.kind == 1) = false := by simpa using q1
  have f2 : (e.d.kind == 2) = false := by simpa using q2
  have f3 : (e.d.kind == 3) = false := by simpa using q3
  have f4 : (e.d.kind == 4) = false := by simpa using q4
  have f7 : (e.d.kind == 7) = false := by simpa using q7
  have f22 : (e.d.kind == 22) = false := by simpa using q22
  clear h hb he hd hp hn hq hk hv hx
  go_enter Tryd.func14, Tryd.ntmps14
  go_wp2_with (first
    | (go_at_call 19; (with_reducible refine HP0.out.mono ?_); rintro e1 w1 ⟨rfl, hb1⟩; have hbw := below_then HB.out hb1; have c0 : w1.cell? ⟨w.heap.size, 0, none⟩ = some (.pointer (some ⟨mb, 0, none⟩)) := (by rw [Lib.cell_of_heap ((hb1.block _ (lt_of_heap HX.out)).trans HX.out)]; rfl); have k0 := (HD.out _ hbw).c0; have k1 := (HD.out _ hbw).c2; have k2 := (HD.out _ hbw).c3; clear k7; have HB1 := Lib.hid hbw; clear hb1 HP0 hbw)
    | (go_at_call 27; (with_reducible refine (HC.out _ HB1.out).mono ?_); rintro e1 w2 ⟨rfl, hp⟩; have HP := Lib.hid hp; clear hp))
  go_returns
  with_reducible exact ⟨rfl, HP.out.mono (HBM.out _ HB1.out).1 (HBM.out _ HB1.out).2⟩
end
end Go.Proofs.YtjmgnohepoacbaaDoor

namespace Go.Proofs.YtjmgnohepoacbaaDoor
open Go.ChangeShapes Go.WideShapes Go.ChangeAt Go.RowKit Go.Sort
set_option linter.unusedVariables false
set_option linter.unusedSimpArgs false

theorem lambda2_any (w0 w : World) (P : Nat → Prop) (hP : ∀ b, w.heap.size ≤ b → P b) (x : Str) (e : Ex) (env : Env) (eb eo : Nat) (u : Option Addr) (he : EN w0 w P e env eb eo (.pointer u)) :
    Calls Tryd.prog 23 #[.string (bstr x), .pointer (some ⟨eb, eo, none⟩), .pointer u] w fun e1 w' => ∃ q : Option Addr, e1 = .returned (.agg #[.int .i64 3, .int .i64 0, .string (bstr []), .slice none 0 0, .slice none 0 0, .pointer q]) ∧ VR w0 w' P (.mk 3 0 [] [] [] (some (.mk [] false x e env))) [.int .i64 3, .int .i64 0, .string (bstr []), .slice none 0 0, .slice none 0 0, .pointer q] ∧ Below w.heap.size w w' := by
  refine (lambda_any w0 w P hP x e env eb eo u he).mono ?_
  rintro e1 w1 ⟨c5, rfl, hv, hb⟩
  obtain ⟨A, c, q, LA, lc, e⟩ := hv.six
  simp only [List.cons.injEq, and_true] at e
  obtain ⟨_, _, _, _, _, rfl⟩ := e
  exact ⟨q, rfl, hv, hb⟩
theorem named2_any (w0 w : World) (P : Nat → Prop) (hP : ∀ b, w.heap.size ≤ b → P b) (self x : Str) (e : Ex) (env : Env) (eb eo : Nat) (u : Option Addr) (he : EN w0 w P e env eb eo (.pointer u)) :
    Calls Tryd.prog 25 #[.string (bstr self), .string (bstr x), .pointer (some ⟨eb, eo, none⟩), .pointer u] w fun e1 w' => ∃ q : Option Addr, e1 = .returned (.agg #[.int .i64 3, .int .i64 0, .string (bstr []), .slice none 0 0, .slice none 0 0, .pointer q]) ∧ VR w0 w' P (.mk 3 0 [] [] [] (some (.mk self true x e env))) [.int .i64 3, .int .i64 0, .string (bstr []), .slice none 0 0, .slice none 0 0, .pointer q] ∧ Below w.heap.size w w' := by
  refine (named_any w0 w P hP self x e env eb eo u he).mono ?_
  rintro e1 w1 ⟨c5, rfl, hv, hb⟩
  obtain ⟨A, c, q, LA, lc, e⟩ := hv.six
  simp only [List.cons.injEq, and_true] at e
  obtain ⟨_, _, _, _, _, rfl⟩ := e
  exact ⟨q, rfl, hv, hb⟩
section
variable {w0 w : World} {B mb : Nat} {s : St} {t i r v f nx nm : Value} {rcs vcs fcs : List (List Value)}
theorem tellFn_any (h : Rep w0 B mb s w t i r v f nx nm rcs vcs fcs) (hn : s.vals.length ≤ 100000000000) (g : Fnc) (q : Option Addr) (hz : VR w0 w (Mv mb t r v f) (.mk 3 0 [] [] [] (some g)) [.int .i64 3, .int .i64 0, .string (bstr []), .slice none 0 0, .slice none 0 0, .pointer q]) :
    Calls Tryd.prog 21 #[.pointer (some ⟨mb, 0, none⟩), .agg #[.int .i64 3, .int .i64 0, .string (bstr []), .slice none 0 0, .slice none 0 0, .pointer q]] w fun e w' => e = .returned (.tuple #[]) ∧ Post w0 B mb (Mv mb t r v f) w { s with vals := s.vals ++ [.mk 3 0 [] [] [] (some g)] } w' :=
  tell_any h hn (.mk 3 0 [] [] [] (some g)) hz
set_option maxHeartbeats 8000000 in
theorem beginFn_any (h : Rep w0 B mb s w t i r v f nx nm rcs vcs fcs) (hv : s.vals.length ≤ 100000000000) (e x : Ex) (env : Env) (eb eo : Nat) (u : Option Addr) (he : EN w0 w (Mv mb t r v f) e env eb eo (.pointer u)) (hd : e.d.At w eb eo) (hl : e.l = [x]) (hp : e.d.pn ≤ 4000000) (hn : e.d.nn ≤ 4000000) (hq : e.d.ln ≤ 4000000) (hk : partsOk e.d = true) (hkd : e.d.kind = 4) :
    Calls Tryd.prog 14 #[.agg #[.pointer (some ⟨mb, 0, none⟩)], .pointer (some ⟨eb, eo, none⟩), .pointer u] w fun e1 w' => e1 = .returned (.tuple #[]) ∧ Post w0 B mb (Mv mb t r v f) w { s with vals := s.vals ++ [.mk 3 0 [] [] [] (some (.mk [] false e.d.s x env))] } w' := by
  have hb : Below w.heap.size w (w.alloc (.cells #[.pointer (some ⟨mb, 0, none⟩)] 41)) := (Below.refl _ _).alloc (Nat.le_refl _) _
  have HP0 := Lib.hid (parts_any e.d _ eb eo (hd.lower hb) hp hn hq)
  have k7 := (hd.lower hb).c7
  rw [hk] at HP0
  obtain ⟨pb, po, hpA, hAt⟩ := he.1.1.part (k := 0) (by rw [hl]; exact Nat.one_pos)
  have hpn : e.d.pn = 1 := by rw [← he.1.1.len, hl]; rfl
  rw [show ((e.d.pn : Nat) : Int) = 1 by omega] at HP0
  rw [hpn] at k7
  have hxA : x.d.At w0 pb po := by have := hAt 0 (by rw [hl]; exact Nat.one_pos); simpa [hl] using this
  have hxI : x.In w0 := he.1.1.sub x (by rw [hl]; exact List.mem_singleton_self x)
  have HL := Lib.hid (fun (wr : World) (hb : Below w.heap.size w wr) => lambda2_any w0 wr (Mv mb t r v f) (fun b hbb => (h.below hb).mvNew b hbb) e.d.s x env pb po u ⟨⟨hxI, hxA⟩, he.2.keep (Tr.below hb)⟩)
  have HC := Lib.hid (fun (wr : World) (hb : Below w.heap.size w wr) (q : Option Addr) hz => tellFn_any (h.below hb) hv (.mk [] false e.d.s x env) q hz)
  have HD := Lib.hid (fun (wr : World) (hb : Below w.heap.size w wr) => hd.lower hb)
  have HB := Lib.hid hb
  have hx := heap_new (w := w) (o := .cells #[.pointer (some ⟨mb, 0, none⟩)] 41) rfl
  have HX := Lib.hid hx
  have HBM := Lib.hid (fun (wr : World) (hb : Below w.heap.size w wr) => And.intro (Tr.below (P := Mv mb t r v f) hb) (hb.mono (Nat.le_of_lt (Nat.lt_of_le_of_lt h.base.2 h.lt))))
  clear h hb he hd hp hn hq hk hv hx hl hAt hxA hxI
  go_enter Tryd.func14, Tryd.ntmps14
  go_upto_region 12 with (go_at_call 19; (with_reducible refine HP0.out.mono ?_); rintro e1 w1 ⟨rfl, hb1⟩; have hbw := below_then HB.out hb1; have c0 : w1.cell? ⟨w.heap.size, 0, none⟩ = some (.pointer (some ⟨mb, 0, none⟩)) := (by rw [Lib.cell_of_heap ((hb1.block _ (lt_of_heap HX.out)).trans HX.out)]; rfl); have k0 := (HD.out _ hbw).c0; have k2 := (HD.out _ hbw).c3; have k5 := (HD.out _ hbw).c7; rw [hkd] at k0; rw [hpA, hpn] at k5; clear k7; have HB1 := Lib.hid hbw; clear hb1 HP0 hbw)
  go_region_law (first
    | (go_simp; go_at_call 23; (with_reducible refine (HL.out _ (Below.drew HB1.out)).mono ?_); rintro e1 w2 ⟨q, rfl, hv2, hb2⟩; have hb3 := below_then (Below.drew HB1.out) hb2; have c0' : w2.cell? ⟨w.heap.size, 0, none⟩ = some (.pointer (some ⟨mb, 0, none⟩)) := cell_below hb2 c0; have HB2 := Lib.hid hb3; have HT := Lib.hid (HC.out _ hb3 q hv2); clear hb2 hb3 hv2)
    | (go_simp; go_at_call 21; (with_reducible refine HT.out.mono ?_); rintro e1 w3 ⟨rfl, hp⟩; have HP := Lib.hid hp; clear hp))
  all_goals
    go_wp2_with fail
    go_returns
    with_reducible exact ⟨rfl, HP.out.mono (HBM.out _ HB2.out).1 (HBM.out _ HB2.out).2⟩
end
end Go.Proofs.YtjmgnohepoacbaaDoor
