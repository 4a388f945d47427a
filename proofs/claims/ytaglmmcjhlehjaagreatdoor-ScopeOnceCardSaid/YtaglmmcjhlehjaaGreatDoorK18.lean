/-
  What Check tells, by the code, and what its errors tell.
  Binders' numbers: what they come to. About no program. And which blocks a tree lies in.
  An expression's own fields in new memory; a list of labels in new memory.
  Where the numbering of an expression's own binders stands. About no program.
  Numbers for an expression's own binders, by the code.
-/
import Derived.Test.YtaglmmcjhlehjaaGreatDoorK16
import Derived.Test.YtaglmmcjhlehjaaGreatDoorK17
import Derived.Test.YtaglmmcjhlehjaaGreatDoorK04
namespace Go.Proofs.YtaglmmcjhlehjaaGreatDoor
open Go.ChangeShapes Go.WideShapes Go.ChangeAt Go.RowKit Go.Sort
set_option linter.unusedVariables false
set_option linter.unusedSimpArgs false

/-- The handle of the type error. -/
def ET (w : World) : Prop := w.cell? ⟨0, 0, none⟩ = some (.iface 136 (.agg #[hnd 31]))
theorem ET.below {w w' : World} (h : ET w) (hb : Below w.heap.size w w') : ET w' := cell_below hb h
theorem sc_at (p n : Int) (w : World) : Calls Tryz.prog 47 #[.int .i64 p, .int .i64 n] w fun e w' => e = .returned (.iface 71 (.pointer (some ⟨w.heap.size, 0, none⟩))) ∧ w' = w.alloc (.cells #[.int .i64 p, .int .i64 n] 75) := by
  go_enter Tryz.func47, Tryz.ntmps47
  go_wp2_with fail
  go_returns
  exact ⟨rfl, rfl⟩
/-- An error as Check tells it: none, a number, or one with a place. -/
inductive ErrR (w : World) : Value → Int → Int → Prop
  | none : ErrR w .nilIface 0 (-1)
  | arg : ErrR w (.iface 34 (.int .i64 1)) 1 (-1)
  | spot (g : Nat) (a : Int) (c0 : w.cell? ⟨g, 0, .none⟩ = some (.int .i64 a)) (c1 : w.cell? ⟨g, 1, .none⟩ = some (.int .i64 4)) : ErrR w (.iface 71 (.pointer (some ⟨g, 0, .none⟩))) 4 a
theorem ErrR.below {w w' : World} {v : Value} {n p : Int} (h : ErrR w v n p) (hb : Below w.heap.size w w') : ErrR w' v n p := by
  cases h with
  | none => exact .none
  | arg => exact .arg
  | spot g a c0 c1 => exact .spot g _ (cell_below hb c0) (cell_below hb c1)
/-- What Check is about. -/
def Ex.chk (t : Ex) : Int × Int := if (mayE t 1 0).isSome = true then (match t.firstF [] with | some a => (4, a) | none => (0, -1)) else (1, -1)

set_option maxRecDepth 100000 in
set_option maxHeartbeats 1000000 in
theorem check_any (t : Ex) (w : World) (hL : Lay w) (hIn : t.In w) :
    Calls Tryz.prog 20 #[.agg t.d.arr] w fun e w' => ∃ v, e = .returned v ∧ ErrR w' v t.chk.1 t.chk.2 ∧ Below w.heap.size w w' := by
  have hb1 : Below w.heap.size w (w.alloc (.cells t.d.arr 25)) := (Below.refl _ _).alloc (Nat.le_refl _) _
  have hA := ex_box w t.d
  have hI1 := hIn.lower hb1
  have HM := Lib.hid (may_any t _ (hL.below hb1) hI1)
  have hbig : ∀ W, Below (w.alloc (.cells t.d.arr 25)).heap.size (w.alloc (.cells t.d.arr 25)) W → (mayE t 1 0).isSome = true → Calls Tryz.prog 46 #[.pointer (some ⟨w.heap.size, 0, none⟩), .slice none 0 0] W fun e w' => e = .returned (ffV (t.firstF [])) ∧ FFW (w.alloc (.cells t.d.arr 25)).heap.size (.slice none 0 0) [] W w' :=
    fun W hb hm => first_any _ t hI1 [] (.slice none 0 0) W w.heap.size 0 hb (World.ownsRow_nil _ _ _ _) hA (by have := (may_le hm).1; simp; omega)
  have HF := Lib.hid hbig
  obtain ⟨c0, c1, c2, c3, c4, c5, c6, c7⟩ := hA
  have HB := Lib.hid hb1
  clear hb1 hI1 hbig hL hIn
  go_enter Tryz.func20, Tryz.ntmps20
  go_wp2_with fail
  generalize w.alloc (.cells t.d.arr 25) = w1 at *
  generalize hg : w.heap.size = g at *
  have HG := Lib.hid (show g ≤ w1.heap.size from hg ▸ HB.out.size)
  have HGE := Lib.hid hg
  clear hg
  refine HM.out.mono ?_
  rintro e w2 ⟨rfl, hb2⟩
  have H2 := Lib.hid hb2
  clear hb2 c0 c1 c2 c3 c4 c5 c6 c7
  by_cases hm : (mayE t 1 0).isSome = true
  · have HFM := Lib.hid (HF.out w2 H2.out hm)
    rw [hm]
    have HC := Lib.hid (show t.chk = (match t.firstF [] with | some a => ((4 : Int), a) | none => (0, -1)) by unfold Ex.chk; rw [if_pos hm])
    clear hm HF HM
    cases hr : t.firstF [] with
    | none =>
      rw [hr] at HC HFM
      have HFN := Lib.hid (show Calls Tryz.prog 46 #[.pointer (some ⟨g, 0, none⟩), .slice none 0 0] w2 fun e w' => e = .returned (.tuple #[.int .i64 0, .bool false]) ∧ FFW w1.heap.size (.slice none 0 0) [] w2 w' from HFM.out)
      clear hr HFM
      go_wp2_with fail
      refine HFN.out.mono ?_
      rintro e w3 ⟨rfl, hf3⟩
      have H3 := Lib.hid hf3
      clear hf3
      go_wp2_with fail
      go_returns
      refine ⟨_, rfl, ?_, ?_⟩
      · rw [HC.out]; exact .none
      · rw [HGE.out]; exact HB.out.trans ((H2.out.trans H3.out.b).mono HG.out)
    | some a =>
      rw [hr] at HC HFM
      have HFN := Lib.hid (show Calls Tryz.prog 46 #[.pointer (some ⟨g, 0, none⟩), .slice none 0 0] w2 fun e w' => e = .returned (.tuple #[.int .i64 a, .bool true]) ∧ FFW w1.heap.size (.slice none 0 0) [] w2 w' from HFM.out)
      clear hr HFM
      go_wp2_with fail
      refine HFN.out.mono ?_
      rintro e w3 ⟨rfl, hf3⟩
      have H3 := Lib.hid hf3
      clear hf3
      go_wp2_with fail
      refine (sc_at a 4 w3).mono ?_
      rintro e w4 ⟨rfl, hw4⟩
      have H4 := Lib.hid hw4
      clear hw4
      go_wp2_with fail
      go_returns
      refine ⟨_, rfl, ?_, ?_⟩
      · rw [HC.out, H4.out]
        exact .spot _ _ (cell_new w3 _ _ 0 rfl) (cell_new w3 _ _ 1 rfl)
      · rw [H4.out, HGE.out]
        exact (HB.out.trans ((H2.out.trans H3.out.b).mono HG.out)).alloc (Nat.le_trans HG.out (Nat.le_trans H2.out.size H3.out.b.size)) _
  · have hm' : (mayE t 1 0).isSome = false := by simpa using hm
    rw [hm']
    have HC := Lib.hid (show t.chk = (1, -1) by unfold Ex.chk; rw [if_neg hm])
    clear hm hm' HF HM
    go_wp2_with fail
    go_returns
    refine ⟨_, rfl, ?_, ?_⟩
    · rw [HC.out]; exact .arg
    · rw [HGE.out]; exact HB.out.trans (H2.out.mono HG.out)

def codeN (n : Int) : Int := if 1 ≤ n ∧ n ≤ 11 then n else -1
theorem code_nil (w : World) : Calls Tryz.prog 45 #[.nilIface] w fun e w' => e = .returned (.int .i64 0) ∧ w = w' := by
  go_enter Tryz.func45, Tryz.ntmps45
  go_wp2
  go_returns
  exact ⟨rfl, rfl⟩
theorem code_one (w : World) : Calls Tryz.prog 45 #[.iface 34 (.int .i64 1)] w fun e w' => e = .returned (.int .i64 1) ∧ w = w' := by
  go_enter Tryz.func45, Tryz.ntmps45
  go_wp2_with fail
  refine wp_loop_rounds 1 ?_
  rw [rounds_succ]
  go_wp2_with fail
  go_returns
  exact ⟨rfl, rfl⟩

set_option maxRecDepth 100000 in
set_option maxHeartbeats 1000000 in
/-- What Of tells of such an error. -/
theorem of_any (v : Value) (n p : Int) (w : World) (hE : ET w) (hv : ErrR w v n p) : Calls Tryz.prog 19 #[v] w fun e w' => e = .returned (.tuple #[.int .i64 n, .int .i64 p]) ∧ Below w.heap.size w w' := by
  have hb : Below w.heap.size w (w.alloc (.cells #[.pointer none] 71)) := (Below.refl _ _).alloc (Nat.le_refl _) _
  cases hv with
  | none =>
    go_enter Tryz.func19, Tryz.ntmps19
    go_wp2_with fail
    refine (as_nil _ _).mono ?_
    rintro e w1 ⟨rfl, rfl⟩
    go_wp2_with fail
    refine (code_nil _).mono ?_
    rintro e w1 ⟨rfl, rfl⟩
    go_wp2_with fail
    go_ret2
    exact ⟨rfl, (Below.refl _ _).alloc (Nat.le_refl _) _⟩
  | arg =>
    have HA := Lib.hid (as_miss 1 ⟨w.heap.size, 0, none⟩ (.pointer none) (w.alloc (.cells #[.pointer none] 71)) (hE.below hb) (cell_new w _ _ 0 rfl))
    go_enter Tryz.func19, Tryz.ntmps19
    go_wp2_with fail
    refine HA.out.mono ?_
    rintro e w1 ⟨rfl, hb1⟩
    go_wp2_with fail
    refine (code_one w1).mono ?_
    rintro e w2 ⟨rfl, rfl⟩
    go_wp2_with fail
    go_ret2
    exact ⟨rfl, below_then hb hb1⟩
  | spot g a h0 h1 =>
    have hg := World.block_lt_of_cell? w _ h0
    have HA := Lib.hid (as_hit ⟨g, 0, none⟩ ⟨w.heap.size, 0, none⟩ (.pointer none) (w.alloc (.cells #[.pointer none] 71)) (hE.below hb) (cell_new w _ _ 0 rfl) (by simp))
    have HG := Lib.hid (And.intro h0 (And.intro h1 hg))
    clear h0 h1 hg hE
    go_enter Tryz.func19, Tryz.ntmps19
    go_wp2_with fail
    refine HA.out.mono ?_
    rintro e w1 ⟨rfl, hw⟩
    have hb1 : Below w.heap.size w w1 := by
      rw [hw]
      refine (((((hb.alloc ?_ _).alloc ?_ _).alloc ?_ _).alloc ?_ _).setCell ?_ _) <;> simp <;> omega
    have hc0 : w1.cell? ⟨w.heap.size, 0, none⟩ = some (.pointer (some ⟨g, 0, none⟩)) := by
      rw [hw]
      exact World.cell?_setCell_same _ _ _ (cell_alloc (cell_alloc (cell_alloc (cell_alloc (cell_new w _ _ 0 rfl)))))
    have HB := Lib.hid hb1
    have c0 := cell_below hb1 HG.out.1
    have c1 := cell_below hb1 HG.out.2.1
    clear hw hb1 hb
    go_wp2_with fail
    go_quiet (fail)
    go_wp2_with fail
    go_ret2
    exact ⟨rfl, below_drewN HB.out _⟩
end Go.Proofs.YtaglmmcjhlehjaaGreatDoor

namespace Go.Proofs.YtaglmmcjhlehjaaGreatDoor
open Go.ChangeShapes Go.WideShapes Go.ChangeAt Go.RowKit Go.Sort
set_option linter.unusedVariables false
set_option linter.unusedSimpArgs false

/-- The names that an expression binds, as they get numbers. -/
def ExD.bs (d : ExD) : List Str :=
  if d.kind = 4 ∨ d.kind = 6 then [d.s]
  else if d.kind = 7 then [d.s, d.t]
  else if d.kind = 14 then d.names ++ (if d.t = [] then [] else [d.t])
  else []
/-- So many names with numbers, from one on. -/
def vNames : Nat → Nat → List Str
  | 0, _ => []
  | n + 1, k => vName k :: vNames n (k + 1)
theorem vNames_len : ∀ (n k : Nat), (vNames n k).length = n
  | 0, _ => rfl
  | n + 1, k => by simp [vNames, vNames_len n (k + 1)]
theorem vNames_snoc : ∀ (n k : Nat), vNames (n + 1) k = vNames n k ++ [vName (k + n)]
  | 0, k => rfl
  | n + 1, k => by
    rw [vNames, vNames_snoc n (k + 1), vNames]
    simp [Nat.add_assoc, Nat.add_comm 1 n]
/-- What is told of the binders' names. -/
structure NumD (d : ExD) (k : Nat) (d1 : ExD) : Prop where
  kind : d1.kind = d.kind
  at_ : d1.at_ = d.at_
  n : d1.n = d.n
  labels : d1.labels = d.labels
  s : d1.s = if d.kind = 4 ∨ d.kind = 6 ∨ d.kind = 7 then vName k else d.s
  t : d1.t = if d.kind = 7 then vName (k + 1) else if d.kind = 14 ∧ d.t ≠ [] then vName (k + d.names.length) else d.t
  names : d1.names = if d.kind = 14 then vNames d.names.length k else []
def ExD.numD (d : ExD) (k : Nat) : ExD :=
  { d with
    s := if d.kind = 4 ∨ d.kind = 6 ∨ d.kind = 7 then vName k else d.s
    t := if d.kind = 7 then vName (k + 1) else if d.kind = 14 ∧ d.t ≠ [] then vName (k + d.names.length) else d.t
    nn := if d.kind = 14 then d.names.length else 0
    names := if d.kind = 14 then vNames d.names.length k else [] }
theorem ExD.numD_num (d : ExD) (k : Nat) : NumD d k (d.numD k) := ⟨rfl, rfl, rfl, rfl, rfl, rfl, rfl⟩
/-- A variable's name becomes what it is bound to. -/
def ExD.numV (d : ExD) (k : Nat) (env : List Bd) : ExD := if d.kind = 3 then { d.numD k with s := nowF d.s env } else d.numD k
mutual
def Ex.num : Ex → List Bd → List Str → Ex × List Str
  | .mk d l, env, ol => (.mk (d.numV ol.length env) (numL d (d.numD ol.length) l 0 env (ol ++ d.bs)).1, (numL d (d.numD ol.length) l 0 env (ol ++ d.bs)).2)
def numL (d d1 : ExD) : List Ex → Nat → List Bd → List Str → List Ex × List Str
  | [], _, _, ol => ([], ol)
  | x :: l, i, env, ol => ((x.num (env ++ (d.boundC i).zip (d1.boundC i)) ol).1 :: (numL d d1 l (i + 1) env (x.num (env ++ (d.boundC i).zip (d1.boundC i)) ol).2).1, (numL d d1 l (i + 1) env (x.num (env ++ (d.boundC i).zip (d1.boundC i)) ol).2).2)
end
theorem numL_snoc (d d1 : ExD) (x : Ex) (env : List Bd) : ∀ (l : List Ex) (i : Nat) (ol : List Str), numL d d1 (l ++ [x]) i env ol = ((numL d d1 l i env ol).1 ++ [(x.num (env ++ (d.boundC (i + l.length)).zip (d1.boundC (i + l.length))) (numL d d1 l i env ol).2).1], (x.num (env ++ (d.boundC (i + l.length)).zip (d1.boundC (i + l.length))) (numL d d1 l i env ol).2).2)
  | [], i, ol => by simp [numL]
  | y :: l, i, ol => by
    simp only [List.cons_append, numL]
    rw [numL_snoc d d1 x env l (i + 1) _]
    simp only [List.length_cons, show i + 1 + l.length = i + (l.length + 1) from by omega, List.cons_append]
mutual
def Ex.bsN : Ex → Nat
  | .mk d l => d.bs.length + bsNL l
def bsNL : List Ex → Nat
  | [] => 0
  | x :: l => x.bsN + bsNL l
end
mutual
theorem num_len : ∀ (t : Ex) (env : List Bd) (ol : List Str), (t.num env ol).2.length = ol.length + t.bsN
  | .mk d l, env, ol => by simp only [Ex.num, Ex.bsN]; rw [numL_len d (d.numD ol.length) l 0 env _, List.length_append]; omega
theorem numL_len (d d1 : ExD) : ∀ (l : List Ex) (i : Nat) (env : List Bd) (ol : List Str), (numL d d1 l i env ol).2.length = ol.length + bsNL l
  | [], i, env, ol => by simp [numL, bsNL]
  | x :: l, i, env, ol => by simp only [numL, bsNL]; rw [numL_len d d1 l (i + 1) env _, num_len x]; omega
end

/-! ### Trees that tell the same -/
def ExD.lk (d e : ExD) : Prop := d.kind = e.kind ∧ d.at_ = e.at_ ∧ d.n = e.n ∧ d.s = e.s ∧ d.t = e.t ∧ d.labels = e.labels ∧ d.names = e.names
mutual
def Ex.lk : Ex → Ex → Prop
  | .mk d l, .mk e m => d.lk e ∧ lkL l m
def lkL : List Ex → List Ex → Prop
  | [], [] => True
  | x :: l, y :: m => x.lk y ∧ lkL l m
  | _, _ => False
end
theorem lkL_snoc : ∀ {l m : List Ex} {x y : Ex}, lkL l m → x.lk y → lkL (l ++ [x]) (m ++ [y])
  | [], [], x, y, _, h => by simp [lkL, h]
  | a :: l, b :: m, x, y, hl, h => by simp only [lkL, List.cons_append] at hl ⊢; exact ⟨hl.1, lkL_snoc hl.2 h⟩
  | [], b :: m, x, y, hl, h => by simp [lkL] at hl
  | a :: l, [], x, y, hl, h => by simp [lkL] at hl
theorem lkL_len : ∀ {l m : List Ex}, lkL l m → l.length = m.length
  | [], [], _ => rfl
  | x :: l, y :: m, h => by simp only [lkL] at h; rw [List.length_cons, List.length_cons, lkL_len h.2]
  | [], y :: m, h => by simp [lkL] at h
  | x :: l, [], h => by simp [lkL] at h
theorem NumD.lk {d d1 : ExD} {k : Nat} (h : NumD d k d1) : d1.lk (d.numD k) := ⟨h.kind, h.at_, h.n, h.s, h.t, h.labels, h.names⟩

/-! ### Which blocks a tree lies in -/
inductive Ex.Bl (P : Nat → Prop) : Ex → Prop
  | mk (d : ExD) (l : List Ex) (lab : 0 < d.ln → ∀ a, d.lA = some a → P a.block) (nam : 0 < d.nn → ∀ a, d.nA = some a → P a.block) (par : 0 < d.pn → ∀ a, d.pA = some a → P a.block) (sub : ∀ x ∈ l, Ex.Bl P x) : Ex.Bl P (.mk d l)
theorem rd_keepP {w w' : World} {size n : Nat} {A : Option Addr} {cs : List Value} {P : Nat → Prop} (h : Rd w size A n cs) (hP : 0 < n → ∀ a, A = some a → P a.block) (hk : ∀ b, P b → b < w.heap.size → w'.heap[b]? = w.heap[b]?) : Rd w' size A n cs := by
  refine ⟨h.1, fun h0 => ?_⟩
  obtain ⟨a, e, hb, hh⟩ := h.addr h0
  have hn : 0 < n := by
    rcases Nat.eq_zero_or_pos n with q | q
    · have := h.1; rw [q] at this; omega
    · exact q
  refine ⟨a, e, fun j u hu => ?_⟩
  rw [← hh j u hu]
  exact World.cell?_of_block (by rw [add_block]; exact hk _ (hP hn a e) hb)
theorem Ex.In.keepP {w w' : World} {P : Nat → Prop} {t : Ex} (h : t.In w) (hP : t.Bl P) (hk : ∀ b, P b → b < w.heap.size → w'.heap[b]? = w.heap[b]?) : t.In w' := by
  induction h with
  | mk d l lab nam par cap sub ih =>
    cases hP with
    | mk _ _ p1 p2 p3 ps =>
      exact .mk d l (rd_keepP lab p1 hk) (rd_keepP nam p2 hk) (rd_keepP par p3 hk) cap (fun x hx => ih x hx (ps x hx))
/-- With what lies in the heap. -/
theorem Ex.Bl.imp {w : World} {P Q : Nat → Prop} {t : Ex} (h : t.In w) (hP : t.Bl P) (hq : ∀ b, P b → b < w.heap.size → Q b) : t.Bl Q := by
  have key : ∀ {size n : Nat} {A : Option Addr} {cs : List Value}, Rd w (size + 1) A n cs → (0 < n → ∀ a, A = some a → P a.block) → (0 < n → ∀ a, A = some a → Q a.block) := by
    intro size n A cs hr hp hn a ha
    obtain ⟨a', e, hb, _⟩ := hr.addr (by rw [hr.1, Nat.mul_add, Nat.mul_one]; omega)
    rw [ha] at e; cases e
    exact hq _ (hp hn a ha) hb
  induction h with
  | mk d l lab nam par cap sub ih =>
    cases hP with
    | mk _ _ p1 p2 p3 ps =>
      exact .mk d l (key lab p1) (key nam p2) (key par p3) (fun x hx => ih x hx (ps x hx))
end Go.Proofs.YtaglmmcjhlehjaaGreatDoor

namespace Go.Proofs.YtaglmmcjhlehjaaGreatDoor
open Go.ChangeShapes Go.WideShapes Go.ChangeAt Go.RowKit Go.Sort
set_option linter.unusedVariables false
set_option linter.unusedSimpArgs false

theorem nil_yes (n c : Nat) (w : World) : (binOp .eql 22 (.slice none n c) (.slice none 0 0)).run Tryz.prog w = .ok (.bool true) w := by kernel_rfl
theorem nil_no (a : Addr) (n c : Nat) (w : World) : (binOp .eql 22 (.slice (some a) n c) (.slice none 0 0)).run Tryz.prog w = .ok (.bool false) w := by kernel_rfl
set_option maxRecDepth 100000 in
set_option maxHeartbeats 1000000 in
theorem clone_any (A : Option Addr) (l : List Str) (n c : Nat) (w : World) (hr : Rd w 1 A n (strs l)) (hm : n ≤ 4000000) :
    Calls Tryz.prog 99 #[.slice A n c] w fun e w' => ∃ A' c', e = .returned (.slice A' n c') ∧ Rd w' 1 A' n (strs l) ∧ (0 < n → ∀ a, A' = some a → w.heap.size ≤ a.block) ∧ n ≤ c' ∧ c' ≤ maxLen ∧ Below w.heap.size w w' := by
  have HR := Lib.hid hr
  have HM := Lib.hid hm
  have q1 := nil_yes
  have q2 := nil_no
  cases A with
  | none =>
    have hn : n = 0 := by
      rcases Nat.eq_zero_or_pos n with q | q
      · exact q
      · obtain ⟨a, e, _⟩ := hr.addr (by rw [hr.1]; omega)
        cases e
    clear hr hm
    go_enter Tryz.func99, Tryz.ntmps99
    go_wp2_with fail
    go_returns
    subst hn
    exact ⟨none, 0, rfl, HR.out, fun h => absurd h (by omega), Nat.le_refl _, by simp [maxLen], Below.refl _ _⟩
  | some a =>
    clear hr hm
    go_enter Tryz.func99, Tryz.ntmps99
    have HOW := Lib.hid (World.ownsRow_made (base := w.heap.size) (e := 9) (size := 1) w #[] 0 (Nat.le_refl _) (by simp [maxLen]) rfl)
    go_wp2_with (at_builtin; refine wpList_app elStr _ rfl (.tmp 5) (.tmp 6) rfl w.heap.size (.slice (some ⟨w.heap.size, 0, none⟩) 0 0) 0 [] rfl HOW.out (some a) n c _ rfl (HR.out.alloc _) (strs_one l) (by have := HM.out; omega) (by simp) ?_; intro v6 w6 hown6 hb6 hg6 hat6; rw [Nat.zero_add] at hown6; rw [List.nil_append] at hown6; obtain ⟨A6, c6, hv6, hnc6, hcm6, _⟩ := own_cap hown6; rw [hv6] at hown6 hat6 ⊢; clear hv6)
    go_returns
    refine ⟨A6, c6, rfl, Rd.of_own hown6, ?_, by assumption, by assumption, ((Below.refl w.heap.size w).alloc (Nat.le_refl _) _).trans hb6⟩
    intro _ a' ha'
    subst ha'
    exact (hown6.lt a'.block rfl).1

/-- An expression's own fields lie in a block of their own. -/
structure Cl (w : World) (g : Nat) (d : ExD) : Prop where
  at_ : d.At w g 0
  fz : ∀ i, w.frozen? ⟨g, i, none⟩ = false
section
variable {w w1 : World} {g : Nat} {d : ExD}
theorem Cl.lt (h : Cl w g d) : g < w.heap.size := h.at_.lt
theorem Cl.kept (h : Cl w g d) (hk : w1.heap[g]? = w.heap[g]?) : Cl w1 g d := by
  obtain ⟨c0, c1, c2, c3, c4, c5, c6, c7⟩ := h.at_
  exact ⟨⟨(World.cell?_of_block (a := ⟨g, 0, none⟩) hk).trans c0, (World.cell?_of_block (a := ⟨g, 0 + 1, none⟩) hk).trans c1, (World.cell?_of_block (a := ⟨g, 0 + 2, none⟩) hk).trans c2, (World.cell?_of_block (a := ⟨g, 0 + 3, none⟩) hk).trans c3, (World.cell?_of_block (a := ⟨g, 0 + 4, none⟩) hk).trans c4, (World.cell?_of_block (a := ⟨g, 0 + 5, none⟩) hk).trans c5, (World.cell?_of_block (a := ⟨g, 0 + 6, none⟩) hk).trans c6, (World.cell?_of_block (a := ⟨g, 0 + 7, none⟩) hk).trans c7⟩, fun i => (World.frozen?_of_block (a := ⟨g, i, none⟩) hk).trans (h.fz i)⟩
theorem Cl.below (h : Cl w g d) (hb : Below w.heap.size w w1) : Cl w1 g d := h.kept (hb.block g h.lt)
theorem Cl.new (w : World) (d : ExD) : Cl (w.alloc (.cells d.arr 25)) w.heap.size d := ⟨ex_box w d, fun i => frozen_new w _ _ i⟩
theorem cell_set {g i j : Nat} {u v : Value} (h : w.cell? ⟨g, j, none⟩ = some u) (hne : i ≠ j) : (w.setCell ⟨g, i, none⟩ v).cell? ⟨g, j, none⟩ = some u := by
  rw [World.cell?_setCell_other _ _ _ _ (addr_ne hne)]; exact h
theorem Cl.setS (h : Cl w g d) (x : Str) : Cl (w.setCell ⟨g, 3, none⟩ (.string (bstr x))) g { d with s := x } := by
  obtain ⟨c0, c1, c2, c3, c4, c5, c6, c7⟩ := h.at_
  simp only [Nat.zero_add] at c1 c2 c3 c4 c5 c6 c7
  refine ⟨⟨?_, ?_, ?_, ?_, ?_, ?_, ?_, ?_⟩, fun i => by rw [World.frozen?_setCell]; exact h.fz i⟩ <;> (try simp only [Nat.zero_add])
  · exact cell_set c0 (by omega)
  · exact cell_set c1 (by omega)
  · exact cell_set c2 (by omega)
  · exact World.cell?_setCell_same _ _ _ c3
  · exact cell_set c4 (by omega)
  · exact cell_set c5 (by omega)
  · exact cell_set c6 (by omega)
  · exact cell_set c7 (by omega)
theorem Cl.setT (h : Cl w g d) (x : Str) : Cl (w.setCell ⟨g, 4, none⟩ (.string (bstr x))) g { d with t := x } := by
  obtain ⟨c0, c1, c2, c3, c4, c5, c6, c7⟩ := h.at_
  simp only [Nat.zero_add] at c1 c2 c3 c4 c5 c6 c7
  refine ⟨⟨?_, ?_, ?_, ?_, ?_, ?_, ?_, ?_⟩, fun i => by rw [World.frozen?_setCell]; exact h.fz i⟩ <;> (try simp only [Nat.zero_add])
  · exact cell_set c0 (by omega)
  · exact cell_set c1 (by omega)
  · exact cell_set c2 (by omega)
  · exact cell_set c3 (by omega)
  · exact World.cell?_setCell_same _ _ _ c4
  · exact cell_set c5 (by omega)
  · exact cell_set c6 (by omega)
  · exact cell_set c7 (by omega)
theorem Cl.setLab (h : Cl w g d) (A : Option Addr) (n c : Nat) (l : List Str) : Cl (w.setCell ⟨g, 5, none⟩ (.slice A n c)) g { d with lA := A, ln := n, lc := c, labels := l } := by
  obtain ⟨c0, c1, c2, c3, c4, c5, c6, c7⟩ := h.at_
  simp only [Nat.zero_add] at c1 c2 c3 c4 c5 c6 c7
  refine ⟨⟨?_, ?_, ?_, ?_, ?_, ?_, ?_, ?_⟩, fun i => by rw [World.frozen?_setCell]; exact h.fz i⟩ <;> (try simp only [Nat.zero_add])
  · exact cell_set c0 (by omega)
  · exact cell_set c1 (by omega)
  · exact cell_set c2 (by omega)
  · exact cell_set c3 (by omega)
  · exact cell_set c4 (by omega)
  · exact World.cell?_setCell_same _ _ _ c5
  · exact cell_set c6 (by omega)
  · exact cell_set c7 (by omega)
theorem Cl.setNam (h : Cl w g d) (A : Option Addr) (n c : Nat) (l : List Str) : Cl (w.setCell ⟨g, 6, none⟩ (.slice A n c)) g { d with nA := A, nn := n, nc := c, names := l } := by
  obtain ⟨c0, c1, c2, c3, c4, c5, c6, c7⟩ := h.at_
  simp only [Nat.zero_add] at c1 c2 c3 c4 c5 c6 c7
  refine ⟨⟨?_, ?_, ?_, ?_, ?_, ?_, ?_, ?_⟩, fun i => by rw [World.frozen?_setCell]; exact h.fz i⟩ <;> (try simp only [Nat.zero_add])
  · exact cell_set c0 (by omega)
  · exact cell_set c1 (by omega)
  · exact cell_set c2 (by omega)
  · exact cell_set c3 (by omega)
  · exact cell_set c4 (by omega)
  · exact cell_set c5 (by omega)
  · exact World.cell?_setCell_same _ _ _ c6
  · exact cell_set c7 (by omega)
theorem Cl.setPar (h : Cl w g d) (A : Option Addr) (n c : Nat) : Cl (w.setCell ⟨g, 7, none⟩ (.slice A n c)) g { d with pA := A, pn := n, pc := c } := by
  obtain ⟨c0, c1, c2, c3, c4, c5, c6, c7⟩ := h.at_
  simp only [Nat.zero_add] at c1 c2 c3 c4 c5 c6 c7
  refine ⟨⟨?_, ?_, ?_, ?_, ?_, ?_, ?_, ?_⟩, fun i => by rw [World.frozen?_setCell]; exact h.fz i⟩ <;> (try simp only [Nat.zero_add])
  · exact cell_set c0 (by omega)
  · exact cell_set c1 (by omega)
  · exact cell_set c2 (by omega)
  · exact cell_set c3 (by omega)
  · exact cell_set c4 (by omega)
  · exact cell_set c5 (by omega)
  · exact cell_set c6 (by omega)
  · exact World.cell?_setCell_same _ _ _ c7
end
end Go.Proofs.YtaglmmcjhlehjaaGreatDoor

namespace Go.Proofs.YtaglmmcjhlehjaaGreatDoor
open Go.ChangeShapes Go.WideShapes Go.ChangeAt Go.RowKit Go.Sort
set_option linter.unusedVariables false
set_option linter.unusedSimpArgs false

def dZ : ExD := ⟨0, 0, 0, [], [], none, 0, 0, [], none, 0, 0, [], none, 0, 0⟩
/-- The value of the names' list. -/
def ExD.nV (d : ExD) : Value := .slice d.nA d.nn d.nc
/-- A block that is neither the numbers' nor the two structs'. -/
def PB (N W gt r : Nat) (v : Value) (b : Nat) : Prop := (b < N ∨ W ≤ b) ∧ b ≠ gt ∧ b ≠ r ∧ some b ≠ v.ownBlock
theorem vName_len {k : Nat} (h : k ≤ 4000000) : (vName k).length ≤ 9223372036854775807 := by
  have := itoa_le (k : Int) (by omega) (by omega)
  show (118 :: Lib.itoa (k : Int)).length ≤ _
  rw [List.length_cons]; omega

/-- Where it stands: the struct that is made lies in the block gt, the result's in r. -/
structure BS (N : Nat) (w : World) (v0 : Value) (gt r : Nat) (dc : ExD) (ol : List Str) (v : Value) (wx : World) : Prop where
  cl : Cl wx gt dc
  rz : ∃ dr, Cl wx r dr
  no : NO wx N ol v
  wo : WO N w v0 wx v
  gtN : N < w.heap.size ∧ w.heap.size ≤ gt ∧ w.heap.size ≤ r ∧ gt ≠ r ∧ some gt ≠ v.ownBlock ∧ some r ≠ v.ownBlock
  lab : Rd wx 1 dc.lA dc.ln (strs dc.labels)
  labB : 0 < dc.ln → ∀ a, dc.lA = some a → PB N w.heap.size gt r v a.block ∧ some a.block ≠ dc.nV.ownBlock
  own : wx.ownsRow (N + 1) 9 1 dc.nV dc.nn (strs dc.names)
  namB : ∀ k, dc.nV.ownBlock = some k → PB N w.heap.size gt r v k
  cap : (dc.ln ≤ dc.lc ∧ dc.lc ≤ maxLen) ∧ dc.s.length ≤ 9223372036854775807 ∧ dc.t.length ≤ 9223372036854775807 ∧ (∀ s ∈ dc.labels, s.length ≤ 9223372036854775807) ∧ (∀ s ∈ dc.names, s.length ≤ 9223372036854775807)
  par : dc.pA = none ∧ dc.pn = 0 ∧ dc.pc = 0
section
variable {N gt r : Nat} {w wx wy : World} {v0 v v1 : Value} {dc : ExD} {ol : List Str}
theorem heap_set_ne (wx : World) {g b i : Nat} (u : Value) (h : b ≠ g) : (wx.setCell ⟨g, i, none⟩ u).heap[b]? = wx.heap[b]? := Below.heap_setCell wx _ _ b h
theorem own_lt {base size n : Nat} {e : TypeId} {xs : List Value} (h : wx.ownsRow base e size v n xs) {b : Nat} (hb : v.ownBlock = some b) : b < wx.heap.size := (h.lt b hb).2
/-- The old names' row has changed, and what is new. -/
theorem BS.call (h : BS N w v0 gt r dc ol v wx) {ol1 : List Str} (hn : NO wy N ol1 v1) (k : WO N wx v wy v1) : BS N w v0 gt r dc ol1 v1 wy := by
  obtain ⟨hN, hgt, hr, hne, hv1, hv2⟩ := h.gtN
  have hsz : w.heap.size ≤ wx.heap.size := h.wo.b.size
  have hnew : ∀ b, b < wx.heap.size → some b ≠ v.ownBlock → some b ≠ v1.ownBlock := fun b hb hv e => by
    rcases k.new b e.symm with q | q
    · exact hv q.symm
    · omega
  have hkeep : ∀ b, PB N w.heap.size gt r v b → b < wx.heap.size → wy.heap[b]? = wx.heap[b]? := fun b hp hb => k.oth b hb (by rcases hp.1 with q | q <;> omega) hp.2.2.2
  have hP : ∀ b, PB N w.heap.size gt r v b → b < wx.heap.size → PB N w.heap.size gt r v1 b := fun b hp hb => ⟨hp.1, hp.2.1, hp.2.2.1, hnew b hb hp.2.2.2⟩
  have hlab : ∀ a, 0 < dc.ln → dc.lA = some a → a.block < wx.heap.size := fun a h0 ha => by
    obtain ⟨a', e, hb, _⟩ := h.lab.addr (by rw [h.lab.1]; omega)
    rw [ha] at e; cases e; exact hb
  refine ⟨h.cl.kept (k.oth gt h.cl.lt (by omega) hv1), ?_, hn, h.wo.trans k, ⟨hN, hgt, hr, hne, hnew gt h.cl.lt hv1, ?_⟩, ?_, fun h0 a ha => ⟨hP _ (h.labB h0 a ha).1 (hlab a h0 ha), (h.labB h0 a ha).2⟩, ?_, fun b hb => hP b (h.namB b hb) (own_lt h.own hb), h.cap, h.par⟩
  · obtain ⟨dr, hd⟩ := h.rz
    exact ⟨dr, hd.kept (k.oth r hd.lt (by omega) hv2)⟩
  · obtain ⟨dr, hd⟩ := h.rz
    exact hnew r hd.lt hv2
  · exact rd_keepP (P := PB N w.heap.size gt r v) h.lab (fun h0 a ha => (h.labB h0 a ha).1) hkeep
  · exact ownsRow_kept h.own fun g hg => hkeep g (h.namB g hg) (own_lt h.own hg)
/-- A store into the struct that is made. -/
theorem BS.set (h : BS N w v0 gt r dc ol v wx) (i : Nat) (u : Value) (dc1 : ExD) (hc : Cl (wx.setCell ⟨gt, i, none⟩ u) gt dc1) (e1 : dc1.lA = dc.lA ∧ dc1.ln = dc.ln ∧ dc1.lc = dc.lc ∧ dc1.labels = dc.labels) (e2 : dc1.nA = dc.nA ∧ dc1.nn = dc.nn ∧ dc1.nc = dc.nc ∧ dc1.names = dc.names) (e3 : dc1.pA = dc.pA ∧ dc1.pn = dc.pn ∧ dc1.pc = dc.pc)
    (hs : dc1.s.length ≤ 9223372036854775807 ∧ dc1.t.length ≤ 9223372036854775807) : BS N w v0 gt r dc1 ol v (wx.setCell ⟨gt, i, none⟩ u) := by
  obtain ⟨hN, hgt, hr, hne, hv1, hv2⟩ := h.gtN
  have env : dc1.nV = dc.nV := by unfold ExD.nV; rw [e2.1, e2.2.1, e2.2.2.1]
  have hk : ∀ b, b ≠ gt → (wx.setCell ⟨gt, i, none⟩ u).heap[b]? = wx.heap[b]? := fun b hb => heap_set_ne wx u hb
  refine ⟨hc, ?_, h.no.kept fun g hg => hk g ?_, h.wo.set hgt (by omega) u, h.gtN, ?_, ?_, ?_, ?_, ?_, ?_⟩
  · obtain ⟨dr, hd⟩ := h.rz
    exact ⟨dr, hd.kept (hk r (Ne.symm hne))⟩
  · rcases hg with rfl | hg
    · omega
    · intro e; exact hv1 (e ▸ hg.symm)
  · rw [e1.1, e1.2.1, e1.2.2.2]
    exact rd_keepP (P := PB N w.heap.size gt r v) h.lab (fun h0 a ha => (h.labB h0 a ha).1) (fun b hp _ => hk b hp.2.1)
  · rw [e1.1, e1.2.1, env]; exact h.labB
  · rw [env, e2.2.1, e2.2.2.2]
    exact ownsRow_kept h.own fun g hg => hk g (h.namB g hg).2.1
  · rw [env]; exact h.namB
  · rw [e1.2.1, e1.2.2.1, e1.2.2.2, e2.2.2.2]; exact ⟨h.cap.1, hs.1, hs.2, h.cap.2.2.2⟩
  · rw [e3.1, e3.2.1, e3.2.2]; exact h.par
theorem BS.setS (h : BS N w v0 gt r dc ol v wx) (x : Str) (hx : x.length ≤ 9223372036854775807) : BS N w v0 gt r { dc with s := x } ol v (wx.setCell ⟨gt, 3, none⟩ (.string (bstr x))) :=
  h.set 3 _ _ (h.cl.setS x) ⟨rfl, rfl, rfl, rfl⟩ ⟨rfl, rfl, rfl, rfl⟩ ⟨rfl, rfl, rfl⟩ ⟨hx, h.cap.2.2.1⟩
theorem BS.setT (h : BS N w v0 gt r dc ol v wx) (x : Str) (hx : x.length ≤ 9223372036854775807) : BS N w v0 gt r { dc with t := x } ol v (wx.setCell ⟨gt, 4, none⟩ (.string (bstr x))) :=
  h.set 4 _ _ (h.cl.setT x) ⟨rfl, rfl, rfl, rfl⟩ ⟨rfl, rfl, rfl, rfl⟩ ⟨rfl, rfl, rfl⟩ ⟨h.cap.2.1, hx⟩
/-- The tree without parts. -/
theorem BS.inn (h : BS N w v0 gt r dc ol v wx) : (Ex.mk dc []).In wx := by
  obtain ⟨A, c, hv, hnc, hcm, _⟩ := own_cap h.own
  have hv' : dc.nc = c := by unfold ExD.nV at hv; injection hv
  have hl := h.par
  refine .mk dc [] h.lab (Rd.of_own h.own) (by rw [hl.2.1]; exact Rd.nil _ _ _) ⟨⟨h.cap.1.1, h.cap.1.2, ?_⟩, ⟨by omega, by omega, ?_⟩, ⟨by omega, by rw [hl.2.2]; simp [maxLen], by rw [hl.2.1]; omega⟩, h.cap.2.1, h.cap.2.2.1, h.cap.2.2.2.1, h.cap.2.2.2.2⟩ (fun x hx => by cases hx)
  · have := h.cap.1; simp only [maxLen] at this; omega
  · simp only [maxLen] at hcm; omega
theorem BS.bl (h : BS N w v0 gt r dc ol v wx) : (Ex.mk dc []).Bl (PB N w.heap.size gt r v) := by
  refine .mk dc [] (fun h0 a ha => (h.labB h0 a ha).1) (fun h0 a ha => h.namB a.block (by unfold ExD.nV; rw [ha]; rfl)) (fun h0 => by rw [h.par.2.1] at h0; omega) (fun x hx => by cases hx)
end
end Go.Proofs.YtaglmmcjhlehjaaGreatDoor

namespace Go.Proofs.YtaglmmcjhlehjaaGreatDoor
open Go.ChangeShapes Go.WideShapes Go.ChangeAt Go.RowKit Go.Sort
set_option linter.unusedVariables false
set_option linter.unusedSimpArgs false

/-- What binders tells. -/
def BinR (N : Nat) (ol : List Str) (v : Value) (d : ExD) (W : World) (e : Ending) (w' : World) : Prop :=
  ∃ dB v', e = .returned (.agg dB.arr) ∧ NumD d ol.length dB ∧ (Ex.mk dB []).In w' ∧ (Ex.mk dB []).Bl (fun b => (b < N ∨ W.heap.size ≤ b) ∧ some b ≠ v'.ownBlock) ∧ NO w' N (ol ++ d.bs) v' ∧ WO N W v w' v' ∧ dB.pA = none ∧ dB.pn = 0 ∧ dB.pc = 0
/-- The struct, with nothing but its own fields and labels in new memory. -/
def ExD.bare (d : ExD) (A : Option Addr) (c : Nat) : ExD := { d with lA := A, lc := c, nA := none, nn := 0, nc := 0, names := [], pA := none, pn := 0, pc := 0 }
theorem BS.start {N : Nat} {ol : List Str} {v : Value} {w w2 w3 : World} {d : ExD} {r gt : Nat} {A : Option Addr} {c : Nat} (hO : NO w N ol v) (hr : w.heap.size = r) (hgt : gt = r + 1) (hb2 : Below w.heap.size w w2) (hs2 : w2.heap.size = gt + 1) (hcl : Cl w2 gt d) (hrz : ∃ dr, Cl w2 r dr)
    (hb3 : Below w2.heap.size w2 w3) (hl : Rd w3 1 A d.ln (strs d.labels)) (hf : 0 < d.ln → ∀ a, A = some a → w2.heap.size ≤ a.block) (hc : d.ln ≤ c ∧ c ≤ maxLen) (hs : d.s.length ≤ 9223372036854775807 ∧ d.t.length ≤ 9223372036854775807 ∧ (∀ s ∈ d.labels, s.length ≤ 9223372036854775807)) :
    BS N w v gt r (d.bare A c) ol v (((w3.setCell ⟨gt, 7, none⟩ (.slice none 0 0)).setCell ⟨gt, 6, none⟩ (.slice none 0 0)).setCell ⟨gt, 5, none⟩ (.slice A d.ln c)) := by
  have hlt := hO.lt
  have hov : ∀ b, v.ownBlock = some b → b < w.heap.size := fun b hb => (hO.own.lt b hb).2
  have hsz : w.heap.size ≤ w2.heap.size := hb2.size
  have hk : ∀ b, b ≠ gt → (((w3.setCell ⟨gt, 7, none⟩ (.slice none 0 0)).setCell ⟨gt, 6, none⟩ (.slice none 0 0)).setCell ⟨gt, 5, none⟩ (.slice A d.ln c)).heap[b]? = w3.heap[b]? := fun b hb => (heap_set_ne _ _ hb).trans ((heap_set_ne _ _ hb).trans (heap_set_ne _ _ hb))
  have hw3 : WO N w v w3 v := (WO.below (Nat.le_of_lt hlt) hb2).trans (WO.below (by omega) hb3)
  have hv1 : some gt ≠ v.ownBlock := fun e => by have := hov gt e.symm; omega
  have hv2 : some r ≠ v.ownBlock := fun e => by have := hov r e.symm; omega
  refine ⟨(((hcl.below hb3).setPar none 0 0).setNam none 0 0 []).setLab A d.ln c d.labels, ?_, ((hO.below hb2).below hb3).kept fun g hg => hk g ?_, ((hw3.set (by omega) (by omega) _).set (by omega) (by omega) _).set (by omega) (by omega) _, ⟨hlt, by omega, by omega, by omega, hv1, hv2⟩, ?_, ?_, World.ownsRow_nil _ _ _ _, fun k hk => (by cases hk), ⟨hc, hs.1, hs.2.1, hs.2.2, fun s hs => (by cases hs)⟩, ⟨rfl, rfl, rfl⟩⟩
  · obtain ⟨dr, hd⟩ := hrz
    exact ⟨dr, (hd.below hb3).kept (hk r (by omega))⟩
  · rcases hg with rfl | hg
    · omega
    · have := hov g hg; omega
  · exact rd_keepP (P := fun b => b ≠ gt) hl (fun h0 a ha => by have := hf h0 a ha; show a.block ≠ gt; omega) (fun b hp _ => hk b hp)
  · intro h0 a ha
    have h1 := hf h0 a ha
    refine ⟨⟨.inr (by omega), by omega, by omega, fun e => ?_⟩, fun e => by cases e⟩
    have := hov a.block e.symm; omega
theorem set8 {w : World} {r : Nat} {dr : ExD} (h : Cl w r dr) (d : ExD) : ∃ w', ((((((((w.setCell ⟨r, 0, none⟩ (.int .i64 d.kind)).setCell ⟨r, 1, none⟩ (.int .i64 d.at_)).setCell ⟨r, 2, none⟩ (.int .i64 d.n)).setCell ⟨r, 3, none⟩ (.string (bstr d.s))).setCell ⟨r, 4, none⟩ (.string (bstr d.t))).setCell ⟨r, 5, none⟩ (.slice d.lA d.ln d.lc)).setCell ⟨r, 6, none⟩ (.slice d.nA d.nn d.nc)).setCell ⟨r, 7, none⟩ (.slice d.pA d.pn d.pc)) = w' ∧ Cl w' r d ∧ (∀ b, b ≠ r → w'.heap[b]? = w.heap[b]?) ∧ w'.heap.size = w.heap.size ∧ (∀ B, B ≤ r → Below B w w') := by
  refine ⟨_, rfl, ?_, ?_, ?_, ?_⟩
  · obtain ⟨c0, c1, c2, c3, c4, c5, c6, c7⟩ := h.at_
    simp only [Nat.zero_add] at c1 c2 c3 c4 c5 c6 c7
    refine ⟨⟨?_, ?_, ?_, ?_, ?_, ?_, ?_, ?_⟩, fun i => by simp only [World.frozen?_setCell]; exact h.fz i⟩ <;> (try simp only [Nat.zero_add])
    · exact (cell_set (cell_set (cell_set (cell_set (cell_set (cell_set (cell_set (World.cell?_setCell_same _ _ _ c0) (show (1 : Nat) ≠ 0 by decide)) (show (2 : Nat) ≠ 0 by decide)) (show (3 : Nat) ≠ 0 by decide)) (show (4 : Nat) ≠ 0 by decide)) (show (5 : Nat) ≠ 0 by decide)) (show (6 : Nat) ≠ 0 by decide)) (show (7 : Nat) ≠ 0 by decide))
    · exact (cell_set (cell_set (cell_set (cell_set (cell_set (cell_set (World.cell?_setCell_same _ _ _ (cell_set c1 (show (0 : Nat) ≠ 1 by decide))) (show (2 : Nat) ≠ 1 by decide)) (show (3 : Nat) ≠ 1 by decide)) (show (4 : Nat) ≠ 1 by decide)) (show (5 : Nat) ≠ 1 by decide)) (show (6 : Nat) ≠ 1 by decide)) (show (7 : Nat) ≠ 1 by decide))
    · exact (cell_set (cell_set (cell_set (cell_set (cell_set (World.cell?_setCell_same _ _ _ (cell_set (cell_set c2 (show (0 : Nat) ≠ 2 by decide)) (show (1 : Nat) ≠ 2 by decide))) (show (3 : Nat) ≠ 2 by decide)) (show (4 : Nat) ≠ 2 by decide)) (show (5 : Nat) ≠ 2 by decide)) (show (6 : Nat) ≠ 2 by decide)) (show (7 : Nat) ≠ 2 by decide))
    · exact (cell_set (cell_set (cell_set (cell_set (World.cell?_setCell_same _ _ _ (cell_set (cell_set (cell_set c3 (show (0 : Nat) ≠ 3 by decide)) (show (1 : Nat) ≠ 3 by decide)) (show (2 : Nat) ≠ 3 by decide))) (show (4 : Nat) ≠ 3 by decide)) (show (5 : Nat) ≠ 3 by decide)) (show (6 : Nat) ≠ 3 by decide)) (show (7 : Nat) ≠ 3 by decide))
    · exact (cell_set (cell_set (cell_set (World.cell?_setCell_same _ _ _ (cell_set (cell_set (cell_set (cell_set c4 (show (0 : Nat) ≠ 4 by decide)) (show (1 : Nat) ≠ 4 by decide)) (show (2 : Nat) ≠ 4 by decide)) (show (3 : Nat) ≠ 4 by decide))) (show (5 : Nat) ≠ 4 by decide)) (show (6 : Nat) ≠ 4 by decide)) (show (7 : Nat) ≠ 4 by decide))
    · exact (cell_set (cell_set (World.cell?_setCell_same _ _ _ (cell_set (cell_set (cell_set (cell_set (cell_set c5 (show (0 : Nat) ≠ 5 by decide)) (show (1 : Nat) ≠ 5 by decide)) (show (2 : Nat) ≠ 5 by decide)) (show (3 : Nat) ≠ 5 by decide)) (show (4 : Nat) ≠ 5 by decide))) (show (6 : Nat) ≠ 5 by decide)) (show (7 : Nat) ≠ 5 by decide))
    · exact (cell_set (World.cell?_setCell_same _ _ _ (cell_set (cell_set (cell_set (cell_set (cell_set (cell_set c6 (show (0 : Nat) ≠ 6 by decide)) (show (1 : Nat) ≠ 6 by decide)) (show (2 : Nat) ≠ 6 by decide)) (show (3 : Nat) ≠ 6 by decide)) (show (4 : Nat) ≠ 6 by decide)) (show (5 : Nat) ≠ 6 by decide))) (show (7 : Nat) ≠ 6 by decide))
    · exact (World.cell?_setCell_same _ _ _ (cell_set (cell_set (cell_set (cell_set (cell_set (cell_set (cell_set c7 (show (0 : Nat) ≠ 7 by decide)) (show (1 : Nat) ≠ 7 by decide)) (show (2 : Nat) ≠ 7 by decide)) (show (3 : Nat) ≠ 7 by decide)) (show (4 : Nat) ≠ 7 by decide)) (show (5 : Nat) ≠ 7 by decide)) (show (6 : Nat) ≠ 7 by decide)))
  · intro b hb
    simp only [heap_set_ne _ _ hb]
  · simp only [World.size_setCell]
  · intro B hB
    have key : ∀ (w1 w2 : World) (i : Nat) (u : Value), Below B w1 w2 → Below B w1 (w2.setCell ⟨r, i, none⟩ u) := fun w1 w2 i u hb => hb.trans ⟨rfl, rfl, rfl, Nat.le_of_eq (World.size_setCell _ _ _).symm, fun k hk => Below.heap_setCell w2 _ _ k (by show k ≠ r; omega)⟩
    exact key _ _ _ _ (key _ _ _ _ (key _ _ _ _ (key _ _ _ _ (key _ _ _ _ (key _ _ _ _ (key _ _ _ _ (key _ _ _ _ (Below.refl _ _))))))))
/-- The end: the struct is the result's. -/
theorem BS.done {N gt r : Nat} {w wx w' : World} {v0 v : Value} {dc d : ExD} {ol ol0 : List Str} (h : BS N w v0 gt r dc ol v wx) (hn : NumD d ol0.length dc) (ho : ol = ol0 ++ d.bs) (hk : ∀ b, b ≠ r → w'.heap[b]? = wx.heap[b]?) (hb : ∀ B, B ≤ r → Below B wx w') : BinR N ol0 v0 d w (.returned (.agg dc.arr)) w' := by
  obtain ⟨hN, hgt, hr, hne, hv1, hv2⟩ := h.gtN
  subst ho
  refine ⟨dc, v, rfl, hn, h.inn.keepP h.bl (fun b hp _ => hk b hp.2.2.1), h.bl.imp h.inn (fun b hp _ => ⟨hp.1, hp.2.2.2⟩), h.no.kept fun g hg => hk g ?_, ⟨h.wo.b.trans (hb N (by omega)), fun g hg h1 h2 => (hk g (by omega)).trans (h.wo.oth g hg h1 h2), h.wo.new⟩, h.par⟩
  rcases hg with rfl | hg
  · omega
  · intro e; exact hv2 (e ▸ hg.symm)
theorem Cl.load {w : World} {g : Nat} {d : ExD} (h : Cl w g d) : w.cell? ⟨g, 0, none⟩ = some (.int .i64 d.kind) ∧ w.cell? ⟨g, 1, none⟩ = some (.int .i64 d.at_) ∧ w.cell? ⟨g, 2, none⟩ = some (.int .i64 d.n) ∧ w.cell? ⟨g, 3, none⟩ = some (.string (bstr d.s)) ∧ w.cell? ⟨g, 4, none⟩ = some (.string (bstr d.t)) ∧ w.cell? ⟨g, 5, none⟩ = some (.slice d.lA d.ln d.lc) ∧ w.cell? ⟨g, 6, none⟩ = some (.slice d.nA d.nn d.nc) ∧ w.cell? ⟨g, 7, none⟩ = some (.slice d.pA d.pn d.pc) := by
  obtain ⟨c0, c1, c2, c3, c4, c5, c6, c7⟩ := h.at_
  simp only [Nat.zero_add] at c1 c2 c3 c4 c5 c6 c7
  exact ⟨c0, c1, c2, c3, c4, c5, c6, c7⟩
theorem Cl.free {w : World} {g : Nat} {d : ExD} (h : Cl w g d) : w.frozen? ⟨g, 0, none⟩ = false ∧ w.frozen? ⟨g, 1, none⟩ = false ∧ w.frozen? ⟨g, 2, none⟩ = false ∧ w.frozen? ⟨g, 3, none⟩ = false ∧ w.frozen? ⟨g, 4, none⟩ = false ∧ w.frozen? ⟨g, 5, none⟩ = false ∧ w.frozen? ⟨g, 6, none⟩ = false ∧ w.frozen? ⟨g, 7, none⟩ = false :=
  ⟨h.fz 0, h.fz 1, h.fz 2, h.fz 3, h.fz 4, h.fz 5, h.fz 6, h.fz 7⟩

set_option maxRecDepth 100000 in
set_option maxHeartbeats 2000000 in
theorem binders_4 (w0 : World) (d : ExD) (l : List Ex) (hI : (Ex.mk d l).In w0) (b o : Nat) (hA : d.At w0 b o) (N : Nat) (hN : w0.heap.size ≤ N) (ol : List Str) (v : Value) (w : World) (hb : Below w0.heap.size w0 w) (hO : NO w N ol v) (hT : TB N w) (hm : ol.length + d.bs.length ≤ 4000000) (hln : d.ln ≤ 4000000) (hk : d.kind = 4) :
    Calls Tryz.prog 71 #[.pointer (some ⟨N, 0, none⟩), .pointer (some ⟨b, o, none⟩)] w fun e w' => BinR N ol v d w e w' := by
  have HI := Lib.hid hI
  have HA := Lib.hid hA
  have HN := Lib.hid hN
  have HO := Lib.hid hO
  have HT := Lib.hid hT
  have HM := Lib.hid hm
  have HLN := Lib.hid hln
  have HB := Lib.hid hb
  have q4 : (d.kind == 4) = true := by rw [hk]; rfl
  have q6 : (d.kind == 6) = false := by rw [hk]; rfl
  have q7 : (d.kind == 7) = false := by rw [hk]; rfl
  have q14 : (d.kind == 14) = false := by rw [hk]; rfl
  have HK := Lib.hid hk
  have HBS := Lib.hid (show d.bs = [d.s] by unfold ExD.bs; rw [if_pos (by omega)])
  clear hk
  obtain ⟨c0, c1, c2, c3, c4, c5, c6, c7⟩ := hA.lower (hb.alloc hb.size (.cells #[.int .i64 0, .int .i64 0, .int .i64 0, .string ⟨#[]⟩, .string ⟨#[]⟩, .slice none 0 0, .slice none 0 0, .slice none 0 0] 25))
  have HZ := Lib.hid (show Cl (w.alloc (.cells #[.int .i64 0, .int .i64 0, .int .i64 0, .string ⟨#[]⟩, .string ⟨#[]⟩, .slice none 0 0, .slice none 0 0, .slice none 0 0] 25)) w.heap.size dZ from Cl.new w dZ)
  have HB1 := Lib.hid (show Below w.heap.size w (w.alloc (.cells #[.int .i64 0, .int .i64 0, .int .i64 0, .string ⟨#[]⟩, .string ⟨#[]⟩, .slice none 0 0, .slice none 0 0, .slice none 0 0] 25)) from (Below.refl _ _).alloc (Nat.le_refl _) _)
  have hs1 : (w.alloc (.cells #[.int .i64 0, .int .i64 0, .int .i64 0, .string ⟨#[]⟩, .string ⟨#[]⟩, .slice none 0 0, .slice none 0 0, .slice none 0 0] 25)).heap.size = w.heap.size + 1 := by simp
  have HS1 := Lib.hid hs1
  clear hI hA hN hO hT hm hln hb hs1
  go_enter Tryz.func71, Tryz.ntmps71
  go_upto_region 1 with fail
  generalize w.alloc (.cells #[.int .i64 0, .int .i64 0, .int .i64 0, .string ⟨#[]⟩, .string ⟨#[]⟩, .slice none 0 0, .slice none 0 0, .slice none 0 0] 25) = w1 at *
  obtain ⟨r, hr⟩ : ∃ r, w.heap.size = r := ⟨_, rfl⟩
  have HR := Lib.hid hr
  rw [hr] at HZ HS1 ⊢
  clear hr
  go_upto_region 2 with fail
  have HZ2 := Lib.hid (show Cl (w1.alloc (.cells #[.int .i64 d.kind, .int .i64 d.at_, .int .i64 d.n, .string (bstr d.s), .string (bstr d.t), .slice d.lA d.ln d.lc, .slice d.nA d.nn d.nc, .slice d.pA d.pn d.pc] 25)) w1.heap.size d from Cl.new w1 d)
  have HB2 := Lib.hid (show Below w1.heap.size w1 (w1.alloc (.cells #[.int .i64 d.kind, .int .i64 d.at_, .int .i64 d.n, .string (bstr d.s), .string (bstr d.t), .slice d.lA d.ln d.lc, .slice d.nA d.nn d.nc, .slice d.pA d.pn d.pc] 25)) from (Below.refl _ _).alloc (Nat.le_refl _) _)
  have hs2 : (w1.alloc (.cells #[.int .i64 d.kind, .int .i64 d.at_, .int .i64 d.n, .string (bstr d.s), .string (bstr d.t), .slice d.lA d.ln d.lc, .slice d.nA d.nn d.nc, .slice d.pA d.pn d.pc] 25)).heap.size = w1.heap.size + 1 := by simp
  have HS2 := Lib.hid hs2
  have HE2 := Lib.hid (HA.out.lower ((HB.out.trans (HB1.out.mono HB.out.size)).trans (HB2.out.mono (Nat.le_trans HB.out.size HB1.out.size))))
  clear c0 c1 c2 c3 c4 c5 c6 c7 hs2
  generalize w1.alloc (.cells #[.int .i64 d.kind, .int .i64 d.at_, .int .i64 d.n, .string (bstr d.s), .string (bstr d.t), .slice d.lA d.ln d.lc, .slice d.nA d.nn d.nc, .slice d.pA d.pn d.pc] 25) = w2 at *
  obtain ⟨gt, hgt⟩ : ∃ gt, w1.heap.size = gt := ⟨_, rfl⟩
  have HGT := Lib.hid hgt
  rw [hgt] at HZ2 HS2 ⊢
  have hb2 : Below w1.heap.size w1 w2 := HB2.out
  have HBW := Lib.hid (show Below w.heap.size w w2 from below_then HB1.out hb2)
  have HZR := Lib.hid (show ∃ dr, Cl w2 r dr from ⟨_, HZ.out.below hb2⟩)
  clear hgt hb2
  have HC := Lib.hid (clone_any d.lA d.labels d.ln d.lc w2 ((show Rd w0 1 d.lA d.ln (strs d.labels) from HI.out.lab).below (HB.out.trans (HBW.out.mono HB.out.size))) HLN.out)
  obtain ⟨c0, c1, c2, c3, c4, c5, c6, c7⟩ := HE2.out
  go_wp2_with fail
  refine HC.out.mono ?_
  rintro e w3 ⟨A3, cc3, rfl, hr3, hf3, hnc3, hcm3, hb3⟩
  have HSTART := Lib.hid (BS.start HO.out HR.out (by have := HGT.out; have := HS1.out; omega) HBW.out HS2.out HZ2.out HZR.out hb3 hr3 hf3 ⟨hnc3, hcm3⟩ ⟨HI.out.cap.2.2.2.1, HI.out.cap.2.2.2.2.1, HI.out.cap.2.2.2.2.2.1⟩)
  have HB3 := Lib.hid hb3
  obtain ⟨_, _, _, _, _, k5, k6, k7⟩ := (HZ2.out.below hb3).load
  obtain ⟨_, _, _, _, _, z5, z6, z7⟩ := (HZ2.out.below hb3).free
  clear c0 c1 c2 c3 c4 c5 c6 c7 hr3 hf3 hnc3 hcm3 hb3 HC
  go_upto_region 3 with fail
  have HWX := Lib.hid (show Below N w (((w3.setCell ⟨gt, 7, none⟩ (.slice none 0 0)).setCell ⟨gt, 6, none⟩ (.slice none 0 0)).setCell ⟨gt, 5, none⟩ (.slice A3 d.ln cc3)) from HSTART.out.wo.b)
  generalize ((w3.setCell ⟨gt, 7, none⟩ (.slice none 0 0)).setCell ⟨gt, 6, none⟩ (.slice none 0 0)).setCell ⟨gt, 5, none⟩ (.slice A3 d.ln cc3) = w4 at *
  clear k5 k6 k7 z5 z6 z7
  have HEX := Lib.hid (fun (W : World) (h : Below N w W) => HA.out.lower (HB.out.trans (h.mono HN.out)))
  have hbl : d.bs.length = 1 := by rw [HBS.out]; rfl
  have HNX := Lib.hid (numNext_any N ol v d.s w4 HSTART.out.no (HT.out.keep HWX.out) (by have h := HM.out; omega))
  have HVL := Lib.hid (vName_len (k := ol.length) (by have h := HM.out; omega))
  clear hbl
  obtain ⟨c0, c1, c2, c3, c4, c5, c6, c7⟩ := HEX.out _ HWX.out
  go_wp2_with fail
  refine HNX.out.mono ?_
  rintro e w5 ⟨rfl, v5, hn5, hk5⟩
  have H5 := Lib.hid (HSTART.out.call hn5 hk5)
  clear c0 c1 c2 c3 c4 c5 c6 c7 hn5 hk5 HNX
  have k3 := H5.out.cl.load.2.2.2.1
  have z3 := H5.out.cl.fz 3
  go_upto_region 18 with fail
  have H6 := Lib.hid (H5.out.setS (vName ol.length) HVL.out)
  generalize w5.setCell ⟨gt, 3, none⟩ (.string (bstr (vName ol.length))) = w6 at *
  clear k3 z3
  have HND := Lib.hid (show NumD d ol.length ({ d.bare A3 cc3 with s := vName ol.length } : ExD) from ⟨rfl, rfl, rfl, rfl, by rw [if_pos (by have := HK.out; omega)], by rw [if_neg (by have := HK.out; omega), if_neg (by have := HK.out; omega)]; rfl, by rw [if_neg (by have := HK.out; omega)]; rfl⟩)
  obtain ⟨dc, hdc⟩ : ∃ dc, ({ d.bare A3 cc3 with s := vName ol.length } : ExD) = dc := ⟨_, rfl⟩
  rw [hdc] at H6 HND
  clear hdc
  obtain ⟨k0, k1, k2, k3, k4, k5, k6, k7⟩ := H6.out.cl.load
  obtain ⟨dr, hdr⟩ := H6.out.rz
  obtain ⟨y0, y1, y2, y3, y4, y5, y6, y7⟩ := hdr.load
  obtain ⟨f0, f1, f2, f3, f4, f5, f6, f7⟩ := hdr.free
  have HDR := Lib.hid hdr
  clear hdr
  go_wp2_with fail
  obtain ⟨w9, hw9, hcl9, hk9, _, hb9⟩ := set8 HDR.out dc
  rw [hw9]
  obtain ⟨x0, x1, x2, x3, x4, x5, x6, x7⟩ := hcl9.load
  refine bodyPost_ret (v := .agg dc.arr) (by simp [results, Tryz.results71, go_sem, x0, x1, x2, x3, x4, x5, x6, x7]) rfl ?_
  exact H6.out.done HND.out (by rw [HBS.out]) hk9 hb9

set_option maxRecDepth 100000 in
set_option maxHeartbeats 2000000 in
theorem binders_6 (w0 : World) (d : ExD) (l : List Ex) (hI : (Ex.mk d l).In w0) (b o : Nat) (hA : d.At w0 b o) (N : Nat) (hN : w0.heap.size ≤ N) (ol : List Str) (v : Value) (w : World) (hb : Below w0.heap.size w0 w) (hO : NO w N ol v) (hT : TB N w) (hm : ol.length + d.bs.length ≤ 4000000) (hln : d.ln ≤ 4000000) (hk : d.kind = 6) :
    Calls Tryz.prog 71 #[.pointer (some ⟨N, 0, none⟩), .pointer (some ⟨b, o, none⟩)] w fun e w' => BinR N ol v d w e w' := by
  have HI := Lib.hid hI
  have HA := Lib.hid hA
  have HN := Lib.hid hN
  have HO := Lib.hid hO
  have HT := Lib.hid hT
  have HM := Lib.hid hm
  have HLN := Lib.hid hln
  have HB := Lib.hid hb
  have q4 : (d.kind == 4) = false := by rw [hk]; rfl
  have q6 : (d.kind == 6) = true := by rw [hk]; rfl
  have q7 : (d.kind == 7) = false := by rw [hk]; rfl
  have q14 : (d.kind == 14) = false := by rw [hk]; rfl
  have HK := Lib.hid hk
  have HBS := Lib.hid (show d.bs = [d.s] by unfold ExD.bs; rw [if_pos (by omega)])
  clear hk
  obtain ⟨c0, c1, c2, c3, c4, c5, c6, c7⟩ := hA.lower (hb.alloc hb.size (.cells #[.int .i64 0, .int .i64 0, .int .i64 0, .string ⟨#[]⟩, .string ⟨#[]⟩, .slice none 0 0, .slice none 0 0, .slice none 0 0] 25))
  have HZ := Lib.hid (show Cl (w.alloc (.cells #[.int .i64 0, .int .i64 0, .int .i64 0, .string ⟨#[]⟩, .string ⟨#[]⟩, .slice none 0 0, .slice none 0 0, .slice none 0 0] 25)) w.heap.size dZ from Cl.new w dZ)
  have HB1 := Lib.hid (show Below w.heap.size w (w.alloc (.cells #[.int .i64 0, .int .i64 0, .int .i64 0, .string ⟨#[]⟩, .string ⟨#[]⟩, .slice none 0 0, .slice none 0 0, .slice none 0 0] 25)) from (Below.refl _ _).alloc (Nat.le_refl _) _)
  have hs1 : (w.alloc (.cells #[.int .i64 0, .int .i64 0, .int .i64 0, .string ⟨#[]⟩, .string ⟨#[]⟩, .slice none 0 0, .slice none 0 0, .slice none 0 0] 25)).heap.size = w.heap.size + 1 := by simp
  have HS1 := Lib.hid hs1
  clear hI hA hN hO hT hm hln hb hs1
  go_enter Tryz.func71, Tryz.ntmps71
  go_upto_region 1 with fail
  generalize w.alloc (.cells #[.int .i64 0, .int .i64 0, .int .i64 0, .string ⟨#[]⟩, .string ⟨#[]⟩, .slice none 0 0, .slice none 0 0, .slice none 0 0] 25) = w1 at *
  obtain ⟨r, hr⟩ : ∃ r, w.heap.size = r := ⟨_, rfl⟩
  have HR := Lib.hid hr
  rw [hr] at HZ HS1 ⊢
  clear hr
  go_upto_region 2 with fail
  have HZ2 := Lib.hid (show Cl (w1.alloc (.cells #[.int .i64 d.kind, .int .i64 d.at_, .int .i64 d.n, .string (bstr d.s), .string (bstr d.t), .slice d.lA d.ln d.lc, .slice d.nA d.nn d.nc, .slice d.pA d.pn d.pc] 25)) w1.heap.size d from Cl.new w1 d)
  have HB2 := Lib.hid (show Below w1.heap.size w1 (w1.alloc (.cells #[.int .i64 d.kind, .int .i64 d.at_, .int .i64 d.n, .string (bstr d.s), .string (bstr d.t), .slice d.lA d.ln d.lc, .slice d.nA d.nn d.nc, .slice d.pA d.pn d.pc] 25)) from (Below.refl _ _).alloc (Nat.le_refl _) _)
  have hs2 : (w1.alloc (.cells #[.int .i64 d.kind, .int .i64 d.at_, .int .i64 d.n, .string (bstr d.s), .string (bstr d.t), .slice d.lA d.ln d.lc, .slice d.nA d.nn d.nc, .slice d.pA d.pn d.pc] 25)).heap.size = w1.heap.size + 1 := by simp
  have HS2 := Lib.hid hs2
  have HE2 := Lib.hid (HA.out.lower ((HB.out.trans (HB1.out.mono HB.out.size)).trans (HB2.out.mono (Nat.le_trans HB.out.size HB1.out.size))))
  clear c0 c1 c2 c3 c4 c5 c6 c7 hs2
  generalize w1.alloc (.cells #[.int .i64 d.kind, .int .i64 d.at_, .int .i64 d.n, .string (bstr d.s), .string (bstr d.t), .slice d.lA d.ln d.lc, .slice d.nA d.nn d.nc, .slice d.pA d.pn d.pc] 25) = w2 at *
  obtain ⟨gt, hgt⟩ : ∃ gt, w1.heap.size = gt := ⟨_, rfl⟩
  have HGT := Lib.hid hgt
  rw [hgt] at HZ2 HS2 ⊢
  have hb2 : Below w1.heap.size w1 w2 := HB2.out
  have HBW := Lib.hid (show Below w.heap.size w w2 from below_then HB1.out hb2)
  have HZR := Lib.hid (show ∃ dr, Cl w2 r dr from ⟨_, HZ.out.below hb2⟩)
  clear hgt hb2
  have HC := Lib.hid (clone_any d.lA d.labels d.ln d.lc w2 ((show Rd w0 1 d.lA d.ln (strs d.labels) from HI.out.lab).below (HB.out.trans (HBW.out.mono HB.out.size))) HLN.out)
  obtain ⟨c0, c1, c2, c3, c4, c5, c6, c7⟩ := HE2.out
  go_wp2_with fail
  refine HC.out.mono ?_
  rintro e w3 ⟨A3, cc3, rfl, hr3, hf3, hnc3, hcm3, hb3⟩
  have HSTART := Lib.hid (BS.start HO.out HR.out (by have := HGT.out; have := HS1.out; omega) HBW.out HS2.out HZ2.out HZR.out hb3 hr3 hf3 ⟨hnc3, hcm3⟩ ⟨HI.out.cap.2.2.2.1, HI.out.cap.2.2.2.2.1, HI.out.cap.2.2.2.2.2.1⟩)
  have HB3 := Lib.hid hb3
  obtain ⟨_, _, _, _, _, k5, k6, k7⟩ := (HZ2.out.below hb3).load
  obtain ⟨_, _, _, _, _, z5, z6, z7⟩ := (HZ2.out.below hb3).free
  clear c0 c1 c2 c3 c4 c5 c6 c7 hr3 hf3 hnc3 hcm3 hb3 HC
  go_upto_region 3 with fail
  have HWX := Lib.hid (show Below N w (((w3.setCell ⟨gt, 7, none⟩ (.slice none 0 0)).setCell ⟨gt, 6, none⟩ (.slice none 0 0)).setCell ⟨gt, 5, none⟩ (.slice A3 d.ln cc3)) from HSTART.out.wo.b)
  generalize ((w3.setCell ⟨gt, 7, none⟩ (.slice none 0 0)).setCell ⟨gt, 6, none⟩ (.slice none 0 0)).setCell ⟨gt, 5, none⟩ (.slice A3 d.ln cc3) = w4 at *
  clear k5 k6 k7 z5 z6 z7
  have HEX := Lib.hid (fun (W : World) (h : Below N w W) => HA.out.lower (HB.out.trans (h.mono HN.out)))
  have hbl : d.bs.length = 1 := by rw [HBS.out]; rfl
  have HNX := Lib.hid (numNext_any N ol v d.s w4 HSTART.out.no (HT.out.keep HWX.out) (by have h := HM.out; omega))
  have HVL := Lib.hid (vName_len (k := ol.length) (by have h := HM.out; omega))
  clear hbl
  obtain ⟨c0, c1, c2, c3, c4, c5, c6, c7⟩ := HEX.out _ HWX.out
  go_wp2_with fail
  refine HNX.out.mono ?_
  rintro e w5 ⟨rfl, v5, hn5, hk5⟩
  have H5 := Lib.hid (HSTART.out.call hn5 hk5)
  clear c0 c1 c2 c3 c4 c5 c6 c7 hn5 hk5 HNX
  have k3 := H5.out.cl.load.2.2.2.1
  have z3 := H5.out.cl.fz 3
  go_upto_region 18 with fail
  have H6 := Lib.hid (H5.out.setS (vName ol.length) HVL.out)
  generalize w5.setCell ⟨gt, 3, none⟩ (.string (bstr (vName ol.length))) = w6 at *
  clear k3 z3
  have HND := Lib.hid (show NumD d ol.length ({ d.bare A3 cc3 with s := vName ol.length } : ExD) from ⟨rfl, rfl, rfl, rfl, by rw [if_pos (by have := HK.out; omega)], by rw [if_neg (by have := HK.out; omega), if_neg (by have := HK.out; omega)]; rfl, by rw [if_neg (by have := HK.out; omega)]; rfl⟩)
  obtain ⟨dc, hdc⟩ : ∃ dc, ({ d.bare A3 cc3 with s := vName ol.length } : ExD) = dc := ⟨_, rfl⟩
  rw [hdc] at H6 HND
  clear hdc
  obtain ⟨k0, k1, k2, k3, k4, k5, k6, k7⟩ := H6.out.cl.load
  obtain ⟨dr, hdr⟩ := H6.out.rz
  obtain ⟨y0, y1, y2, y3, y4, y5, y6, y7⟩ := hdr.load
  obtain ⟨f0, f1, f2, f3, f4, f5, f6, f7⟩ := hdr.free
  have HDR := Lib.hid hdr
  clear hdr
  go_wp2_with fail
  obtain ⟨w9, hw9, hcl9, hk9, _, hb9⟩ := set8 HDR.out dc
  rw [hw9]
  obtain ⟨x0, x1, x2, x3, x4, x5, x6, x7⟩ := hcl9.load
  refine bodyPost_ret (v := .agg dc.arr) (by simp [results, Tryz.results71, go_sem, x0, x1, x2, x3, x4, x5, x6, x7]) rfl ?_
  exact H6.out.done HND.out (by rw [HBS.out]) hk9 hb9

set_option maxRecDepth 100000 in
set_option maxHeartbeats 2000000 in
theorem binders_7 (w0 : World) (d : ExD) (l : List Ex) (hI : (Ex.mk d l).In w0) (b o : Nat) (hA : d.At w0 b o) (N : Nat) (hN : w0.heap.size ≤ N) (ol : List Str) (v : Value) (w : World) (hb : Below w0.heap.size w0 w) (hO : NO w N ol v) (hT : TB N w) (hm : ol.length + d.bs.length ≤ 4000000) (hln : d.ln ≤ 4000000) (hk : d.kind = 7) :
    Calls Tryz.prog 71 #[.pointer (some ⟨N, 0, none⟩), .pointer (some ⟨b, o, none⟩)] w fun e w' => BinR N ol v d w e w' := by
  have HI := Lib.hid hI
  have HA := Lib.hid hA
  have HN := Lib.hid hN
  have HO := Lib.hid hO
  have HT := Lib.hid hT
  have HM := Lib.hid hm
  have HLN := Lib.hid hln
  have HB := Lib.hid hb
  have q4 : (d.kind == 4) = false := by rw [hk]; rfl
  have q6 : (d.kind == 6) = false := by rw [hk]; rfl
  have q7 : (d.kind == 7) = true := by rw [hk]; rfl
  have q14 : (d.kind == 14) = false := by rw [hk]; rfl
  have HK := Lib.hid hk
  have HBS := Lib.hid (show d.bs = [d.s, d.t] by unfold ExD.bs; rw [if_neg (by omega), if_pos hk])
  clear hk
  obtain ⟨c0, c1, c2, c3, c4, c5, c6, c7⟩ := hA.lower (hb.alloc hb.size (.cells #[.int .i64 0, .int .i64 0, .int .i64 0, .string ⟨#[]⟩, .string ⟨#[]⟩, .slice none 0 0, .slice none 0 0, .slice none 0 0] 25))
  have HZ := Lib.hid (show Cl (w.alloc (.cells #[.int .i64 0, .int .i64 0, .int .i64 0, .string ⟨#[]⟩, .string ⟨#[]⟩, .slice none 0 0, .slice none 0 0, .slice none 0 0] 25)) w.heap.size dZ from Cl.new w dZ)
  have HB1 := Lib.hid (show Below w.heap.size w (w.alloc (.cells #[.int .i64 0, .int .i64 0, .int .i64 0, .string ⟨#[]⟩, .string ⟨#[]⟩, .slice none 0 0, .slice none 0 0, .slice none 0 0] 25)) from (Below.refl _ _).alloc (Nat.le_refl _) _)
  have hs1 : (w.alloc (.cells #[.int .i64 0, .int .i64 0, .int .i64 0, .string ⟨#[]⟩, .string ⟨#[]⟩, .slice none 0 0, .slice none 0 0, .slice none 0 0] 25)).heap.size = w.heap.size + 1 := by simp
  have HS1 := Lib.hid hs1
  clear hI hA hN hO hT hm hln hb hs1
  go_enter Tryz.func71, Tryz.ntmps71
  go_upto_region 1 with fail
  generalize w.alloc (.cells #[.int .i64 0, .int .i64 0, .int .i64 0, .string ⟨#[]⟩, .string ⟨#[]⟩, .slice none 0 0, .slice none 0 0, .slice none 0 0] 25) = w1 at *
  obtain ⟨r, hr⟩ : ∃ r, w.heap.size = r := ⟨_, rfl⟩
  have HR := Lib.hid hr
  rw [hr] at HZ HS1 ⊢
  clear hr
  go_upto_region 2 with fail
  have HZ2 := Lib.hid (show Cl (w1.alloc (.cells #[.int .i64 d.kind, .int .i64 d.at_, .int .i64 d.n, .string (bstr d.s), .string (bstr d.t), .slice d.lA d.ln d.lc, .slice d.nA d.nn d.nc, .slice d.pA d.pn d.pc] 25)) w1.heap.size d from Cl.new w1 d)
  have HB2 := Lib.hid (show Below w1.heap.size w1 (w1.alloc (.cells #[.int .i64 d.kind, .int .i64 d.at_, .int .i64 d.n, .string (bstr d.s), .string (bstr d.t), .slice d.lA d.ln d.lc, .slice d.nA d.nn d.nc, .slice d.pA d.pn d.pc] 25)) from (Below.refl _ _).alloc (Nat.le_refl _) _)
  have hs2 : (w1.alloc (.cells #[.int .i64 d.kind, .int .i64 d.at_, .int .i64 d.n, .string (bstr d.s), .string (bstr d.t), .slice d.lA d.ln d.lc, .slice d.nA d.nn d.nc, .slice d.pA d.pn d.pc] 25)).heap.size = w1.heap.size + 1 := by simp
  have HS2 := Lib.hid hs2
  have HE2 := Lib.hid (HA.out.lower ((HB.out.trans (HB1.out.mono HB.out.size)).trans (HB2.out.mono (Nat.le_trans HB.out.size HB1.out.size))))
  clear c0 c1 c2 c3 c4 c5 c6 c7 hs2
  generalize w1.alloc (.cells #[.int .i64 d.kind, .int .i64 d.at_, .int .i64 d.n, .string (bstr d.s), .string (bstr d.t), .slice d.lA d.ln d.lc, .slice d.nA d.nn d.nc, .slice d.pA d.pn d.pc] 25) = w2 at *
  obtain ⟨gt, hgt⟩ : ∃ gt, w1.heap.size = gt := ⟨_, rfl⟩
  have HGT := Lib.hid hgt
  rw [hgt] at HZ2 HS2 ⊢
  have hb2 : Below w1.heap.size w1 w2 := HB2.out
  have HBW := Lib.hid (show Below w.heap.size w w2 from below_then HB1.out hb2)
  have HZR := Lib.hid (show ∃ dr, Cl w2 r dr from ⟨_, HZ.out.below hb2⟩)
  clear hgt hb2
  have HC := Lib.hid (clone_any d.lA d.labels d.ln d.lc w2 ((show Rd w0 1 d.lA d.ln (strs d.labels) from HI.out.lab).below (HB.out.trans (HBW.out.mono HB.out.size))) HLN.out)
  obtain ⟨c0, c1, c2, c3, c4, c5, c6, c7⟩ := HE2.out
  go_wp2_with fail
  refine HC.out.mono ?_
  rintro e w3 ⟨A3, cc3, rfl, hr3, hf3, hnc3, hcm3, hb3⟩
  have HSTART := Lib.hid (BS.start HO.out HR.out (by have := HGT.out; have := HS1.out; omega) HBW.out HS2.out HZ2.out HZR.out hb3 hr3 hf3 ⟨hnc3, hcm3⟩ ⟨HI.out.cap.2.2.2.1, HI.out.cap.2.2.2.2.1, HI.out.cap.2.2.2.2.2.1⟩)
  have HB3 := Lib.hid hb3
  obtain ⟨_, _, _, _, _, k5, k6, k7⟩ := (HZ2.out.below hb3).load
  obtain ⟨_, _, _, _, _, z5, z6, z7⟩ := (HZ2.out.below hb3).free
  clear c0 c1 c2 c3 c4 c5 c6 c7 hr3 hf3 hnc3 hcm3 hb3 HC
  go_upto_region 3 with fail
  have HWX := Lib.hid (show Below N w (((w3.setCell ⟨gt, 7, none⟩ (.slice none 0 0)).setCell ⟨gt, 6, none⟩ (.slice none 0 0)).setCell ⟨gt, 5, none⟩ (.slice A3 d.ln cc3)) from HSTART.out.wo.b)
  generalize ((w3.setCell ⟨gt, 7, none⟩ (.slice none 0 0)).setCell ⟨gt, 6, none⟩ (.slice none 0 0)).setCell ⟨gt, 5, none⟩ (.slice A3 d.ln cc3) = w4 at *
  clear k5 k6 k7 z5 z6 z7
  have HEX := Lib.hid (fun (W : World) (h : Below N w W) => HA.out.lower (HB.out.trans (h.mono HN.out)))
  have hbl : d.bs.length = 2 := by rw [HBS.out]; rfl
  have HNX := Lib.hid (numNext_any N ol v d.s w4 HSTART.out.no (HT.out.keep HWX.out) (by have h := HM.out; omega))
  have HVL := Lib.hid (And.intro (vName_len (k := ol.length) (by have h := HM.out; omega)) (And.intro (vName_len (k := ol.length + 1) (by have h := HM.out; omega)) (show (ol ++ [d.s]).length + 1 ≤ 4000000 by have h := HM.out; rw [List.length_append]; show ol.length + 1 + 1 ≤ _; omega)))
  clear hbl
  obtain ⟨c0, c1, c2, c3, c4, c5, c6, c7⟩ := HEX.out _ HWX.out
  go_wp2_with fail
  refine HNX.out.mono ?_
  rintro e w5 ⟨rfl, v5, hn5, hk5⟩
  have H5 := Lib.hid (HSTART.out.call hn5 hk5)
  clear c0 c1 c2 c3 c4 c5 c6 c7 hn5 hk5 HNX
  have k3 := H5.out.cl.load.2.2.2.1
  have z3 := H5.out.cl.fz 3
  go_upto_region 9 with fail
  have H6 := Lib.hid (H5.out.setS (vName ol.length) HVL.out.1)
  generalize w5.setCell ⟨gt, 3, none⟩ (.string (bstr (vName ol.length))) = w6 at *
  clear k3 z3
  have HNX := Lib.hid (numNext_any N (ol ++ [d.s]) v5 d.t w6 H6.out.no (HT.out.keep H6.out.wo.b) HVL.out.2.2)
  rw [List.length_append, List.length_singleton] at HNX
  obtain ⟨c0, c1, c2, c3, c4, c5, c6, c7⟩ := HEX.out _ H6.out.wo.b
  go_wp2_with fail
  refine HNX.out.mono ?_
  rintro e w7 ⟨rfl, v7, hn7, hk7⟩
  have H7 := Lib.hid (H6.out.call hn7 hk7)
  clear c0 c1 c2 c3 c4 c5 c6 c7 hn7 hk7 HNX
  have k4 := H7.out.cl.load.2.2.2.2.1
  have z4 := H7.out.cl.fz 4
  go_upto_region 18 with fail
  have H8 := Lib.hid (H7.out.setT (vName (ol.length + 1)) HVL.out.2.1)
  generalize w7.setCell ⟨gt, 4, none⟩ (.string (bstr (vName (ol.length + 1)))) = w8 at *
  clear k4 z4
  have HND := Lib.hid (show NumD d ol.length ({ d.bare A3 cc3 with s := vName ol.length, t := vName (ol.length + 1) } : ExD) from ⟨rfl, rfl, rfl, rfl, by rw [if_pos (by have := HK.out; omega)], by rw [if_pos HK.out], by rw [if_neg (by have := HK.out; omega)]; rfl⟩)
  obtain ⟨dc, hdc⟩ : ∃ dc, ({ d.bare A3 cc3 with s := vName ol.length, t := vName (ol.length + 1) } : ExD) = dc := ⟨_, rfl⟩
  rw [hdc] at H8 HND
  clear hdc
  obtain ⟨k0, k1, k2, k3, k4, k5, k6, k7⟩ := H8.out.cl.load
  obtain ⟨dr, hdr⟩ := H8.out.rz
  obtain ⟨y0, y1, y2, y3, y4, y5, y6, y7⟩ := hdr.load
  obtain ⟨f0, f1, f2, f3, f4, f5, f6, f7⟩ := hdr.free
  have HDR := Lib.hid hdr
  clear hdr
  go_wp2_with fail
  obtain ⟨w9, hw9, hcl9, hk9, _, hb9⟩ := set8 HDR.out dc
  rw [hw9]
  obtain ⟨x0, x1, x2, x3, x4, x5, x6, x7⟩ := hcl9.load
  refine bodyPost_ret (v := .agg dc.arr) (by simp [results, Tryz.results71, go_sem, x0, x1, x2, x3, x4, x5, x6, x7]) rfl ?_
  exact H8.out.done HND.out (by rw [HBS.out, List.append_assoc]; rfl) hk9 hb9

set_option maxRecDepth 100000 in
set_option maxHeartbeats 2000000 in
theorem binders_o (w0 : World) (d : ExD) (l : List Ex) (hI : (Ex.mk d l).In w0) (b o : Nat) (hA : d.At w0 b o) (N : Nat) (hN : w0.heap.size ≤ N) (ol : List Str) (v : Value) (w : World) (hb : Below w0.heap.size w0 w) (hO : NO w N ol v) (hT : TB N w) (hm : ol.length + d.bs.length ≤ 4000000) (hln : d.ln ≤ 4000000) (h4 : ¬ d.kind = 4) (h6 : ¬ d.kind = 6) (h7 : ¬ d.kind = 7) (h14 : ¬ d.kind = 14) :
    Calls Tryz.prog 71 #[.pointer (some ⟨N, 0, none⟩), .pointer (some ⟨b, o, none⟩)] w fun e w' => BinR N ol v d w e w' := by
  have HI := Lib.hid hI
  have HA := Lib.hid hA
  have HN := Lib.hid hN
  have HO := Lib.hid hO
  have HT := Lib.hid hT
  have HM := Lib.hid hm
  have HLN := Lib.hid hln
  have HB := Lib.hid hb
  have q4 : (d.kind == 4) = false := by simpa using h4
  have q6 : (d.kind == 6) = false := by simpa using h6
  have q7 : (d.kind == 7) = false := by simpa using h7
  have q14 : (d.kind == 14) = false := by simpa using h14
  have HK := Lib.hid (And.intro h4 (And.intro h6 (And.intro h7 h14)))
  have HBS := Lib.hid (show d.bs = [] by unfold ExD.bs; rw [if_neg (by omega), if_neg h7, if_neg h14])
  clear h4 h6 h7 h14
  obtain ⟨c0, c1, c2, c3, c4, c5, c6, c7⟩ := hA.lower (hb.alloc hb.size (.cells #[.int .i64 0, .int .i64 0, .int .i64 0, .string ⟨#[]⟩, .string ⟨#[]⟩, .slice none 0 0, .slice none 0 0, .slice none 0 0] 25))
  have HZ := Lib.hid (show Cl (w.alloc (.cells #[.int .i64 0, .int .i64 0, .int .i64 0, .string ⟨#[]⟩, .string ⟨#[]⟩, .slice none 0 0, .slice none 0 0, .slice none 0 0] 25)) w.heap.size dZ from Cl.new w dZ)
  have HB1 := Lib.hid (show Below w.heap.size w (w.alloc (.cells #[.int .i64 0, .int .i64 0, .int .i64 0, .string ⟨#[]⟩, .string ⟨#[]⟩, .slice none 0 0, .slice none 0 0, .slice none 0 0] 25)) from (Below.refl _ _).alloc (Nat.le_refl _) _)
  have hs1 : (w.alloc (.cells #[.int .i64 0, .int .i64 0, .int .i64 0, .string ⟨#[]⟩, .string ⟨#[]⟩, .slice none 0 0, .slice none 0 0, .slice none 0 0] 25)).heap.size = w.heap.size + 1 := by simp
  have HS1 := Lib.hid hs1
  clear hI hA hN hO hT hm hln hb hs1
  go_enter Tryz.func71, Tryz.ntmps71
  go_upto_region 1 with fail
  generalize w.alloc (.cells #[.int .i64 0, .int .i64 0, .int .i64 0, .string ⟨#[]⟩, .string ⟨#[]⟩, .slice none 0 0, .slice none 0 0, .slice none 0 0] 25) = w1 at *
  obtain ⟨r, hr⟩ : ∃ r, w.heap.size = r := ⟨_, rfl⟩
  have HR := Lib.hid hr
  rw [hr] at HZ HS1 ⊢
  clear hr
  go_upto_region 2 with fail
  have HZ2 := Lib.hid (show Cl (w1.alloc (.cells #[.int .i64 d.kind, .int .i64 d.at_, .int .i64 d.n, .string (bstr d.s), .string (bstr d.t), .slice d.lA d.ln d.lc, .slice d.nA d.nn d.nc, .slice d.pA d.pn d.pc] 25)) w1.heap.size d from Cl.new w1 d)
  have HB2 := Lib.hid (show Below w1.heap.size w1 (w1.alloc (.cells #[.int .i64 d.kind, .int .i64 d.at_, .int .i64 d.n, .string (bstr d.s), .string (bstr d.t), .slice d.lA d.ln d.lc, .slice d.nA d.nn d.nc, .slice d.pA d.pn d.pc] 25)) from (Below.refl _ _).alloc (Nat.le_refl _) _)
  have hs2 : (w1.alloc (.cells #[.int .i64 d.kind, .int .i64 d.at_, .int .i64 d.n, .string (bstr d.s), .string (bstr d.t), .slice d.lA d.ln d.lc, .slice d.nA d.nn d.nc, .slice d.pA d.pn d.pc] 25)).heap.size = w1.heap.size + 1 := by simp
  have HS2 := Lib.hid hs2
  have HE2 := Lib.hid (HA.out.lower ((HB.out.trans (HB1.out.mono HB.out.size)).trans (HB2.out.mono (Nat.le_trans HB.out.size HB1.out.size))))
  clear c0 c1 c2 c3 c4 c5 c6 c7 hs2
  generalize w1.alloc (.cells #[.int .i64 d.kind, .int .i64 d.at_, .int .i64 d.n, .string (bstr d.s), .string (bstr d.t), .slice d.lA d.ln d.lc, .slice d.nA d.nn d.nc, .slice d.pA d.pn d.pc] 25) = w2 at *
  obtain ⟨gt, hgt⟩ : ∃ gt, w1.heap.size = gt := ⟨_, rfl⟩
  have HGT := Lib.hid hgt
  rw [hgt] at HZ2 HS2 ⊢
  have hb2 : Below w1.heap.size w1 w2 := HB2.out
  have HBW := Lib.hid (show Below w.heap.size w w2 from below_then HB1.out hb2)
  have HZR := Lib.hid (show ∃ dr, Cl w2 r dr from ⟨_, HZ.out.below hb2⟩)
  clear hgt hb2
  have HC := Lib.hid (clone_any d.lA d.labels d.ln d.lc w2 ((show Rd w0 1 d.lA d.ln (strs d.labels) from HI.out.lab).below (HB.out.trans (HBW.out.mono HB.out.size))) HLN.out)
  obtain ⟨c0, c1, c2, c3, c4, c5, c6, c7⟩ := HE2.out
  go_wp2_with fail
  refine HC.out.mono ?_
  rintro e w3 ⟨A3, cc3, rfl, hr3, hf3, hnc3, hcm3, hb3⟩
  have HSTART := Lib.hid (BS.start HO.out HR.out (by have := HGT.out; have := HS1.out; omega) HBW.out HS2.out HZ2.out HZR.out hb3 hr3 hf3 ⟨hnc3, hcm3⟩ ⟨HI.out.cap.2.2.2.1, HI.out.cap.2.2.2.2.1, HI.out.cap.2.2.2.2.2.1⟩)
  have HB3 := Lib.hid hb3
  obtain ⟨_, _, _, _, _, k5, k6, k7⟩ := (HZ2.out.below hb3).load
  obtain ⟨_, _, _, _, _, z5, z6, z7⟩ := (HZ2.out.below hb3).free
  clear c0 c1 c2 c3 c4 c5 c6 c7 hr3 hf3 hnc3 hcm3 hb3 HC
  go_upto_region 3 with fail
  have HWX := Lib.hid (show Below N w (((w3.setCell ⟨gt, 7, none⟩ (.slice none 0 0)).setCell ⟨gt, 6, none⟩ (.slice none 0 0)).setCell ⟨gt, 5, none⟩ (.slice A3 d.ln cc3)) from HSTART.out.wo.b)
  generalize ((w3.setCell ⟨gt, 7, none⟩ (.slice none 0 0)).setCell ⟨gt, 6, none⟩ (.slice none 0 0)).setCell ⟨gt, 5, none⟩ (.slice A3 d.ln cc3) = w4 at *
  clear k5 k6 k7 z5 z6 z7
  have HEX := Lib.hid (fun (W : World) (h : Below N w W) => HA.out.lower (HB.out.trans (h.mono HN.out)))
  obtain ⟨c0, c1, c2, c3, c4, c5, c6, c7⟩ := HEX.out _ HWX.out
  go_upto_region 18 with fail
  clear c0 c1 c2 c3 c4 c5 c6 c7
  have H6 := Lib.hid HSTART.out
  have HND := Lib.hid (show NumD d ol.length (d.bare A3 cc3 : ExD) from ⟨rfl, rfl, rfl, rfl, by rw [if_neg (by have := HK.out; omega)]; rfl, by rw [if_neg (by have := HK.out; omega), if_neg (by have := HK.out; omega)]; rfl, by rw [if_neg (by have := HK.out; omega)]; rfl⟩)
  obtain ⟨dc, hdc⟩ : ∃ dc, (d.bare A3 cc3 : ExD) = dc := ⟨_, rfl⟩
  rw [hdc] at H6 HND
  clear hdc
  obtain ⟨k0, k1, k2, k3, k4, k5, k6, k7⟩ := H6.out.cl.load
  obtain ⟨dr, hdr⟩ := H6.out.rz
  obtain ⟨y0, y1, y2, y3, y4, y5, y6, y7⟩ := hdr.load
  obtain ⟨f0, f1, f2, f3, f4, f5, f6, f7⟩ := hdr.free
  have HDR := Lib.hid hdr
  clear hdr
  go_wp2_with fail
  obtain ⟨w9, hw9, hcl9, hk9, _, hb9⟩ := set8 HDR.out dc
  rw [hw9]
  obtain ⟨x0, x1, x2, x3, x4, x5, x6, x7⟩ := hcl9.load
  refine bodyPost_ret (v := .agg dc.arr) (by simp [results, Tryz.results71, go_sem, x0, x1, x2, x3, x4, x5, x6, x7]) rfl ?_
  exact H6.out.done HND.out (by rw [HBS.out, List.append_nil]) hk9 hb9

end Go.Proofs.YtaglmmcjhlehjaaGreatDoor
