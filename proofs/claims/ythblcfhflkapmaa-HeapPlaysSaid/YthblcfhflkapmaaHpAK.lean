/-
  The law's functions: walk, where it doesn't go on.
-/
import Derived.Test.YthblcfhflkapmaaHpAJ
namespace Go.Proofs.Ythblcfhflkapmaa
open Go Go.ChangeShapes Go.WideShapes Go.ChangeAt Go.RowKit Go.Sort
set_option linter.unusedVariables false
set_option linter.unusedSimpArgs false

abbrev ITy : TypeId := 2
def icells (l : List Int) : List Value := l.map fun n => .int .i64 n
theorem icells_len (l : List Int) : (icells l).length = l.length := by simp [icells]
theorem icells_append (a b : List Int) : icells (a ++ b) = icells a ++ icells b := by simp [icells]
theorem icells_at {l : List Int} {k : Nat} {n : Int} (h : l[k]? = some n) : (icells l)[k]? = some (.int .i64 n) := by simp [icells, h]
theorem icells_ones (l : List Int) : ∀ u ∈ icells l, u.oneCell' = true := by
  intro u hu
  obtain ⟨n, _, rfl⟩ := List.mem_map.1 hu
  rfl
theorem elI64 : ElemTy Try.prog 69 2 (.int .i64 0) 1 8 :=
  ⟨Try.underlying69, by kernel_rfl, rfl, by decide, by decide⟩
def wkN : Nat → Nat
  | 0 => 3
  | n + 1 => 3 + 4 * wkN n
theorem flat_le {α β : Type _} (f : α → List β) (m : Nat) : ∀ (l : List α), (∀ x ∈ l, (f x).length ≤ m) → (l.flatMap f).length ≤ l.length * m
  | [], _ => by simp
  | x :: l, h => by
    have h1 := h x List.mem_cons_self
    have h2 := flat_le f m l (fun y hy => h y (List.mem_cons_of_mem _ hy))
    simp only [List.flatMap_cons, List.length_append, List.length_cons, Nat.succ_mul]
    omega
theorem wkN_ge : ∀ n, 3 ≤ wkN n
  | 0 => Nat.le_refl _
  | n + 1 => by unfold wkN; omega
theorem walkP_len (L : List Ob) : ∀ (far : Nat) (u : Wd), (walkP L far u).length ≤ wkN far
  | far, u => by
    have hg := wkN_ge far
    rw [walkP]
    split
    · split
      · simp; omega
      · cases far with
        | zero => simp [wkN]
        | succ n =>
          rename_i j hj
          have h1 := flat_le (walkP L n) (wkN n) ((ob L j).2.take 4) (fun x _ => walkP_len L n x)
          have h2 : ((ob L j).2.take 4).length ≤ 4 := by rw [List.length_take]; omega
          have h3 : ((ob L j).2.take 4).length * wkN n ≤ 4 * wkN n := Nat.mul_le_mul_right _ h2
          simp only [List.length_append, List.length_cons, List.length_nil, wkN]
          omega
    · simp; omega
section
variable {w : World} {B hb : Nat} {size runs : Int} {L : List Ob} {V G V' G' : Value}
set_option maxRecDepth 100000 in
set_option maxHeartbeats 4000000 in
theorem walk_int (u : Wd) (hp : u.ptr = false) (far : Nat) (P : Value) :
    Calls Try.prog 25 #[P, .agg #[.bool u.ptr, .int .i64 u.v], .int .i64 (far : Nat)] w fun e w' => ∃ v, e = .returned v ∧ w'.ownsRow w.heap.size ITy 1 v (walkP L far u).length (icells (walkP L far u)) ∧ Below w.heap.size w w' := by
  have e : walkP L far u = [0, u.v] := by rw [walkP]; simp [hp]
  rw [e, hp]
  have hb1 : Below w.heap.size w (w.alloc (.cells #[.bool false, .int .i64 u.v] 36)) := (Below.refl _ _).alloc (Nat.le_refl _) _
  obtain ⟨c0, c1⟩ := cells2 (heap_new (w := w) (o := .cells #[.bool false, .int .i64 u.v] 36) rfl)
  have HB := Lib.hid hb1
  clear hb1 e
  go_enter Try.func25, Try.ntmps25
  go_wp2_with fail
  go_returns
  have ho := World.ownsRow_lit (w.alloc (.cells #[.bool false, .int .i64 u.v] 36)) #[.int .i64 0, .int .i64 u.v] 2 (e := ITy) (size := 1) (base := w.heap.size) HB.out.size (by simp [maxLen]) rfl
  rw [World.size_alloc] at ho
  exact ⟨_, rfl, ho, HB.out.alloc HB.out.size _⟩
set_option maxRecDepth 100000 in
set_option maxHeartbeats 4000000 in
theorem walk_no (h : CH w B hb size runs L V G V' G') (hs : sizes L ≤ 4000000) (u : Wd) (hp : u.ptr = true) (hq : at_ L u.v = none) (far : Nat) :
    Calls Try.prog 25 #[.pointer (some ⟨hb, 0, none⟩), .agg #[.bool u.ptr, .int .i64 u.v], .int .i64 (far : Nat)] w fun e w' => ∃ v, e = .returned v ∧ w'.ownsRow w.heap.size ITy 1 v (walkP L far u).length (icells (walkP L far u)) ∧ Below w.heap.size w w' := by
  have e : walkP L far u = [-1] := by rw [walkP]; simp [hp, hq]
  rw [e, hp]
  have hb1 : Below w.heap.size w (w.alloc (.cells #[.bool true, .int .i64 u.v] 36)) := (Below.refl _ _).alloc (Nat.le_refl _) _
  obtain ⟨c0, c1⟩ := cells2 (heap_new (w := w) (o := .cells #[.bool true, .int .i64 u.v] 36) rfl)
  have HO := Lib.hid (Object_no (h.below hb1) hs u.v hq)
  have HB := Lib.hid hb1
  clear hb1 e h hs hq
  go_enter Try.func25, Try.ntmps25
  go_wp2_with (go_at_call 20; (with_reducible refine HO.out.mono ?_); rintro e w1 ⟨rfl, hb2⟩; have HB2 := Lib.hid (below_then HB.out hb2); clear hb2)
  go_returns
  exact ⟨_, rfl, World.ownsRow_lit _ #[.int .i64 (-1)] 1 (e := ITy) (size := 1) (base := w.heap.size) HB2.out.size (by simp [maxLen]) rfl, HB2.out.alloc HB2.out.size _⟩
set_option maxRecDepth 100000 in
set_option maxHeartbeats 4000000 in
theorem walk_zero (h : CH w B hb size runs L V G V' G') (hW : Wf L) (hs : sizes L ≤ 4000000) (u : Wd) (hp : u.ptr = true) {j : Nat} (hq : at_ L u.v = some j) :
    Calls Try.prog 25 #[.pointer (some ⟨hb, 0, none⟩), .agg #[.bool u.ptr, .int .i64 u.v], .int .i64 ((0 : Nat) : Int)] w fun e w' => ∃ v, e = .returned v ∧ w'.ownsRow w.heap.size ITy 1 v (walkP L 0 u).length (icells (walkP L 0 u)) ∧ Below w.heap.size w w' := by
  have e : walkP L 0 u = [1, (ob L j).1, ((ob L j).2.length : Int)] := by rw [walkP]; simp [hp, hq]
  rw [e, hp]
  obtain ⟨hj, hpl⟩ := at_some.1 hq
  have hb1 : Below w.heap.size w (w.alloc (.cells #[.bool true, .int .i64 u.v] 36)) := (Below.refl _ _).alloc (Nat.le_refl _) _
  obtain ⟨c0, c1⟩ := cells2 (heap_new (w := w) (o := .cells #[.bool true, .int .i64 u.v] 36) rfl)
  have hO := Object_yes (h.below hb1) hW hs j hj
  rw [hpl] at hO
  have HO := Lib.hid hO
  have HB := Lib.hid hb1
  clear hb1 e h hs hq hO hpl hj hW
  go_enter Try.func25, Try.ntmps25
  go_upto_region 6 with (go_at_call 20; (with_reducible refine HO.out.mono ?_); rintro e w1 ⟨v1, rfl, ho1, hb2⟩; have HB2 := Lib.hid (below_then HB.out hb2); have HO1 := Lib.hid ho1; clear hb2 ho1)
  obtain ⟨A1, k1, rfl, _⟩ := own_cap HO1.out
  go_wp2_with fail
  go_returns
  exact ⟨_, rfl, World.ownsRow_lit _ #[.int .i64 1, .int .i64 (ob L j).1, .int .i64 ((ob L j).2.length : Nat)] 3 (e := ITy) (size := 1) (base := w.heap.size) HB2.out.size (by simp [maxLen]) rfl, HB2.out.alloc HB2.out.size _⟩
end
end Go.Proofs.Ythblcfhflkapmaa
