/-
  The machine, about no memory: with more fuel.
  The machine is made; what is left to do, as its memory tells it; a value lies beside what holds nothing.
  What references have, wherever values may lie.
  The machine runs an expression.
  A value's text, about no memory.
  A value is written: texts and functions.
  A value is written: write's closures.
  A value is written: records.
  A value is written: the other two closures.
  A value is written: tagged values.
-/
import Derived.Test.YtjmgnohepoacbaaDoorK13
namespace Go.Proofs.YtjmgnohepoacbaaDoor
open Go Go.ChangeShapes Go.WideShapes Go.ChangeAt Go.RowKit Go.Sort
set_option linter.unusedVariables false
set_option linter.unusedSimpArgs false

def St.fu (s : St) (k : Int) : St := { s with fuel := k }
/-- The same but for the fuel, which is touched in neither; what is printed is kept. -/
structure Fu (k : Int) (s s' s2' : St) : Prop where
  eq : s2' = s'.fu k
  tr : ∃ l, s'.trace = s.trace ++ l
section
variable {s : St} {k : Int}
theorem fu_same (s' : St) (h : s'.trace = s.trace) : Fu k s s' (s'.fu k) := ⟨rfl, [], by rw [h, List.append_nil]⟩
theorem fu_tell (z : Val) (f : Int) (is : Bool) : Fu k s (s.tell z f is) ((s.fu k).tell z f is) := by
  unfold St.tell
  by_cases h : is = true
  · rw [if_pos h, if_pos h]
    by_cases h2 : f = 0
    · rw [if_pos h2, if_pos h2]; exact fu_same _ rfl
    · rw [if_neg h2, if_neg h2]; exact fu_same _ rfl
  · rw [if_neg h, if_neg h]; exact fu_same _ rfl
theorem fu_name (x : Str) (env : Env) : Fu k s (s.name x env) ((s.fu k).name x env) := by
  induction env with
  | nil => exact fu_same _ rfl
  | cons p env ih =>
    obtain ⟨y, z⟩ := p
    unfold St.name
    by_cases h : y = x
    · rw [if_pos h, if_pos h]; exact fu_same _ rfl
    · rw [if_neg h, if_neg h]; exact ih
theorem fu_ifd (z : Val) (e1 e2 : Ex) (env : Env) : Fu k s (s.ifd z e1 e2 env) ((s.fu k).ifd z e1 e2 env) := by
  unfold St.ifd
  by_cases h : z.sort = 1
  · rw [if_pos h, if_pos h]
    by_cases h2 : z.n = 0
    · rw [if_pos h2, if_pos h2]; exact fu_same _ rfl
    · rw [if_neg h2, if_neg h2]; exact fu_same _ rfl
  · rw [if_neg h, if_neg h]; exact fu_same _ rfl
theorem fu_call (z y : Val) : Fu k s (s.call z y) ((s.fu k).call z y) := by
  unfold St.call
  by_cases h : z.sort = 3
  · rw [if_pos h, if_pos h]
    cases z.f with
    | none => exact fu_same _ rfl
    | some g =>
      cases g with
      | mk self isRec x part env => exact fu_same _ rfl
  · rw [if_neg h, if_neg h]; exact fu_same _ rfl
theorem fu_read : Fu k s s.read (s.fu k).read := by
  have := fu_tell (s := { s with input := (lineOf s.input).2.1 }) (k := k) (.mk 2 0 (lineOf s.input).1 [] [] none) (lineOf s.input).2.2 true
  exact ⟨this.eq, this.tr⟩
theorem fu_print (z : Val) : Fu k s (s.print z) ((s.fu k).print z) := by
  unfold St.print
  by_cases h : z.sort = 2
  · rw [if_pos h, if_pos h]; exact ⟨rfl, [z.s], rfl⟩
  · rw [if_neg h, if_neg h]; exact fu_same _ rfl
theorem fu_get (z : Val) : Fu k s (s.get z) ((s.fu k).get z) := by
  unfold St.get
  by_cases h : z.sort = 6
  · rw [if_pos h, if_pos h, show (s.fu k).refs = s.refs from rfl]
    cases s.refs[z.n.toNat]? with
    | none => exact fu_same _ rfl
    | some y => exact fu_same _ rfl
  · rw [if_neg h, if_neg h]; exact fu_same _ rfl
theorem fu_set (z y : Val) : Fu k s (s.set z y) ((s.fu k).set z y) := by
  unfold St.set
  by_cases h : z.sort = 6
  · rw [if_pos h, if_pos h]; exact fu_same _ rfl
  · rw [if_neg h, if_neg h]; exact fu_same _ rfl
theorem fu_oper (o : Str) (x y : Val) : Fu k s (s.oper o x y) ((s.fu k).oper o x y) := by
  unfold St.oper
  by_cases h1 : o = [94] ∧ x.sort = 2 ∧ y.sort = 2
  · rw [if_pos h1, if_pos h1]; exact fu_tell _ _ _
  rw [if_neg h1, if_neg h1]
  by_cases h2 : o = [35] ∧ x.sort = 2 ∧ y.sort = 1
  · rw [if_pos h2, if_pos h2]; exact fu_tell _ _ _
  rw [if_neg h2, if_neg h2]
  by_cases h3 : x.sort = 1 ∧ y.sort = 1
  · rw [if_pos h3, if_pos h3]; exact fu_tell _ _ _
  · rw [if_neg h3, if_neg h3]; exact fu_tell _ _ _
theorem fu_take (kd : Int) (x : Str) (z : Val) : Fu k s (s.take kd x z) ((s.fu k).take kd x z) := by
  unfold St.take
  by_cases h : z.sort = 4 ∧ isS z.labels x = true
  · rw [if_pos h, if_pos h]
    by_cases h2 : kd = 9
    · rw [if_pos h2, if_pos h2]; exact fu_same _ rfl
    · rw [if_neg h2, if_neg h2]; exact fu_same _ rfl
  · rw [if_neg h, if_neg h]; exact fu_same _ rfl
theorem fu_put (kd : Int) (x : Str) (z y : Val) : Fu k s (s.put kd x z y) ((s.fu k).put kd x z y) := by
  unfold St.put
  by_cases h : z.sort = 4 ∧ isS z.labels x = decide (kd = 12)
  · rw [if_pos h, if_pos h]; exact fu_same _ rfl
  · rw [if_neg h, if_neg h]; exact fu_same _ rfl
theorem fu_apply1 (d : ExD) (x : Val) : Fu k s (s.apply1 d x) ((s.fu k).apply1 d x) := by
  unfold St.apply1
  by_cases h0 : d.kind = 9 ∨ d.kind = 11
  · rw [if_pos h0, if_pos h0]; exact fu_take _ _ _
  rw [if_neg h0, if_neg h0]
  by_cases h4 : d.kind = 13
  · rw [if_pos h4, if_pos h4]; exact fu_same _ rfl
  rw [if_neg h4, if_neg h4]
  by_cases h1 : d.kind = 17
  · rw [if_pos h1, if_pos h1]; exact fu_same _ rfl
  rw [if_neg h1, if_neg h1]
  by_cases h2 : d.kind = 18
  · rw [if_pos h2, if_pos h2]; exact fu_get _
  rw [if_neg h2, if_neg h2]
  by_cases h3 : d.kind = 20
  · rw [if_pos h3, if_pos h3]; exact fu_print _
  · rw [if_neg h3, if_neg h3]; exact fu_tell _ _ _
theorem fu_apply2 (d : ExD) (x y : Val) : Fu k s (s.apply2 d x y) ((s.fu k).apply2 d x y) := by
  unfold St.apply2
  by_cases h1 : d.kind = 5
  · rw [if_pos h1, if_pos h1]; exact fu_call _ _
  rw [if_neg h1, if_neg h1]
  by_cases h2 : d.kind = 10 ∨ d.kind = 12
  · rw [if_pos h2, if_pos h2]; exact fu_put _ _ _ _
  rw [if_neg h2, if_neg h2]
  by_cases h3 : d.kind = 16
  · rw [if_pos h3, if_pos h3]; exact fu_oper _ _ _
  · rw [if_neg h3, if_neg h3]; exact fu_set _ _
theorem fu_apply (d : ExD) (l : List Val) : Fu k s (s.apply d l) ((s.fu k).apply d l) := by
  unfold St.apply
  by_cases h : d.kind = 8
  · rw [if_pos h, if_pos h]; exact fu_same _ rfl
  rw [if_neg h, if_neg h]
  match l with
  | [] => exact fu_same _ rfl
  | [x] => exact fu_apply1 _ _
  | [x, y] => exact fu_apply2 _ _ _
  | _ :: _ :: _ :: _ => exact fu_same _ rfl
theorem fu_begin (e : Ex) (env : Env) : Fu k s (s.begin e env) ((s.fu k).begin e env) := by
  unfold St.begin
  by_cases h0 : partsOk e.d = false
  · rw [if_pos h0, if_pos h0]; exact fu_same _ rfl
  rw [if_neg h0, if_neg h0]
  by_cases h1 : e.d.kind = 1
  · rw [if_pos h1, if_pos h1]; exact fu_same _ rfl
  rw [if_neg h1, if_neg h1]
  by_cases h2 : e.d.kind = 2
  · rw [if_pos h2, if_pos h2]; exact fu_same _ rfl
  rw [if_neg h2, if_neg h2]
  by_cases h3 : e.d.kind = 3
  · rw [if_pos h3, if_pos h3]; exact fu_name _ _
  rw [if_neg h3, if_neg h3]
  by_cases h4 : e.d.kind = 4
  · rw [if_pos h4, if_pos h4]
    match e.l with
    | [] => exact fu_same _ rfl
    | [x] => exact fu_same _ rfl
    | _ :: _ :: _ => exact fu_same _ rfl
  rw [if_neg h4, if_neg h4]
  by_cases h7 : e.d.kind = 7
  · rw [if_pos h7, if_pos h7]
    match e.l with
    | [] => exact fu_same _ rfl
    | [x] => exact fu_same _ rfl
    | [x, y] => exact fu_same _ rfl
    | _ :: _ :: _ :: _ => exact fu_same _ rfl
  rw [if_neg h7, if_neg h7]
  by_cases h22 : e.d.kind = 22
  · rw [if_pos h22, if_pos h22]; exact fu_read
  · rw [if_neg h22, if_neg h22]; exact fu_same _ rfl
theorem fu_choose (e : Ex) (env : Env) (z : Val) : Fu k s (s.choose e env z) ((s.fu k).choose e env z) := by
  unfold St.choose
  by_cases h1 : z.sort = 5
  · rw [if_pos h1, if_pos h1]
    by_cases h2 : fnd e.d.labels z.s < e.d.labels.length
    · rw [if_pos h2, if_pos h2]; exact fu_same _ rfl
    rw [if_neg h2, if_neg h2]
    by_cases h3 : e.d.t = []
    · rw [if_pos h3, if_pos h3]; exact fu_same _ rfl
    · rw [if_neg h3, if_neg h3]; exact fu_same _ rfl
  · rw [if_neg h1, if_neg h1]; exact fu_same _ rfl
theorem fu_ended (fs : List Frm) (x : Frm) : (s.fu k).ended fs x = (s.ended fs x).fu k := rfl
theorem fu_goOn (fs : List Frm) (x : Frm) (l : List Val) : Fu k s (s.goOn fs x l) ((s.fu k).goOn fs x l) := by
  unfold St.goOn
  by_cases h1 : x.e.d.kind = 14 ∧ l.length = 1
  · rw [if_pos h1, if_pos h1]
    match l with
    | [] => exact fu_same _ rfl
    | [z] =>
      have := fu_choose (s := s.ended fs x) (k := k) x.e x.env z
      exact ⟨this.eq, this.tr⟩
    | _ :: _ :: _ => exact fu_same _ rfl
  rw [if_neg h1, if_neg h1]
  by_cases h2 : x.e.d.kind = 6 ∧ l.length = 1
  · rw [if_pos h2, if_pos h2]
    cases x.e.l[1]? with
    | none => exact fu_same _ rfl
    | some y =>
      match l with
      | [] => exact fu_same _ rfl
      | [z] => exact fu_same _ rfl
      | _ :: _ :: _ => exact fu_same _ rfl
  rw [if_neg h2, if_neg h2]
  by_cases h3 : x.e.d.kind = 15 ∧ l.length = 1
  · rw [if_pos h3, if_pos h3]
    cases x.e.l[1]? with
    | none => exact fu_same _ rfl
    | some y =>
      cases x.e.l[2]? with
      | none => exact fu_same _ rfl
      | some y2 =>
        match l with
        | [] => exact fu_same _ rfl
        | [z] =>
          have := fu_ifd (s := s.ended fs x) (k := k) z y y2 x.env
          exact ⟨this.eq, this.tr⟩
        | _ :: _ :: _ => exact fu_same _ rfl
  rw [if_neg h3, if_neg h3]
  cases x.e.l[l.length]? with
  | some y => exact fu_same _ rfl
  | none =>
    have := fu_apply (s := s.ended fs x) (k := k) x.e.d l
    exact ⟨this.eq, this.tr⟩
/-- Where a step wants fuel. -/
def St.hungry (s : St) : Prop := s.err = 0 ∧ s.next ≠ none ∧ s.fuel ≤ 0
theorem Fu.fuel {s' : St} (h : Fu s.fuel s s' s') : s'.fuel = s.fuel := (congrArg St.fuel h.eq).trans rfl
theorem step_fu (d : Nat) (hd : ¬ s.done) (hh : ¬ s.hungry) : (s.fu (s.fuel + d)).step = s.step.fu (s.step.fuel + d) ∧ ∃ l, s.step.trace = s.trace ++ l := by
  have h0 : s.err = 0 := by
    by_cases q : s.err = 0
    · exact q
    · exact absurd (.inl q) hd
  have e1 : s.step = _ := if_neg (fun q => q h0)
  have e2 : (s.fu (s.fuel + d)).step = _ := if_neg (fun q => q h0)
  rw [e1, e2]
  show (match s.next with
    | some (e, env) => if s.fuel + d ≤ 0 then { s.fu (s.fuel + d) with err := 8 } else St.begin { s.fu (s.fuel + d) with fuel := s.fuel + d - 1, next := none } e env
    | none => match s.frames.reverse with
      | [] => s.fu (s.fuel + d)
      | x :: fr => (s.fu (s.fuel + d)).goOn fr.reverse x (s.vals.drop x.base)) = _ ∧ _
  cases hn : s.next with
  | some p =>
    obtain ⟨e, env⟩ := p
    have hf : ¬ s.fuel ≤ 0 := fun q => hh ⟨h0, by rw [hn]; simp, q⟩
    simp only
    rw [if_neg hf, if_neg (show ¬ s.fuel + d ≤ 0 by omega)]
    obtain ⟨s1, hs1⟩ : ∃ s1 : St, s1 = { s with fuel := s.fuel - 1, next := none } := ⟨_, rfl⟩
    have h1 := fu_begin (s := s1) (k := s.fuel + d - 1) e env
    have h2 := (fu_begin (s := s1) (k := s1.fuel) e env).fuel
    have e3 : ({ s.fu (s.fuel + d) with fuel := s.fuel + d - 1, next := none } : St) = s1.fu (s.fuel + d - 1) := by rw [hs1]; rfl
    rw [e3, ← hs1, h1.eq, h2, show s1.fuel = s.fuel - 1 by rw [hs1], show s.fuel - 1 + (d : Int) = s.fuel + d - 1 by omega]
    obtain ⟨l, hl⟩ := h1.tr
    exact ⟨rfl, l, by rw [hl, hs1]⟩
  | none =>
    simp only
    cases hr : s.frames.reverse with
    | nil => exact absurd (.inr ⟨hn, List.reverse_eq_nil_iff.1 hr⟩) hd
    | cons x fr =>
      simp only
      have h1 := fu_goOn (s := s) (k := s.fuel + d) fr.reverse x (s.vals.drop x.base)
      have h2 := (fu_goOn (s := s) (k := s.fuel) fr.reverse x (s.vals.drop x.base)).fuel
      rw [h1.eq, h2]
      exact ⟨rfl, h1.tr⟩
theorem step_hungry (h : s.hungry) : s.step = { s with err := 8 } := by
  unfold St.step
  rw [if_neg (fun q => q h.1)]
  cases hn : s.next with
  | none => exact absurd hn h.2.1
  | some p =>
    simp only
    rw [if_pos h.2.2]
theorem step_done (h : s.done) : s.step = s := by
  unfold St.step
  rcases h with h | ⟨h1, h2⟩
  · rw [if_pos h]
  · by_cases q : s.err ≠ 0
    · rw [if_pos q]
    · rw [if_neg q, h1, h2]; rfl
end
def St.run : Nat → St → St
  | 0, s => s
  | n + 1, s => St.run n s.step
theorem run_done {s : St} (h : s.done) (n : Nat) : St.run n s = s := by
  induction n with
  | zero => rfl
  | succ n ih => show St.run n s.step = s; rw [step_done h, ih]
theorem run_succ (n : Nat) (s : St) : St.run (n + 1) s = (St.run n s).step := by
  induction n generalizing s with
  | zero => rfl
  | succ n ih => exact ih s.step
theorem step_trace (s : St) : ∃ l, s.step.trace = s.trace ++ l := by
  by_cases hd : s.done
  · exact ⟨[], by rw [step_done hd, List.append_nil]⟩
  by_cases hh : s.hungry
  · exact ⟨[], by rw [step_hungry hh, List.append_nil]⟩
  · exact (step_fu 0 hd hh).2
theorem run_trace (n : Nat) (s : St) : ∃ l, (St.run n s).trace = s.trace ++ l := by
  induction n generalizing s with
  | zero => exact ⟨[], (List.append_nil _).symm⟩
  | succ n ih =>
    obtain ⟨l1, h1⟩ := step_trace s
    obtain ⟨l2, h2⟩ := ih s.step
    exact ⟨l1 ++ l2, by show (St.run n s.step).trace = _; rw [h2, h1, List.append_assoc]⟩
/-- With more fuel: what ended ends so; else what was printed goes on. -/
theorem run_more (d : Nat) (n m : Nat) (s : St) (ha : (St.run n s).done) (hb : (St.run m (s.fu (s.fuel + d))).done) :
    ((St.run n s).err ≠ 8 → St.run m (s.fu (s.fuel + d)) = (St.run n s).fu ((St.run n s).fuel + d)) ∧ ((St.run n s).err = 8 → ∃ l, (St.run m (s.fu (s.fuel + d))).trace = (St.run n s).trace ++ l) := by
  have hdone : ∀ s : St, s.done → (s.fu (s.fuel + d)).done := fun s h => h
  have hsame : ∀ (s : St) (m : Nat), s.done → (s.err ≠ 8 → St.run m (s.fu (s.fuel + d)) = s.fu (s.fuel + d)) ∧ (s.err = 8 → ∃ l, (St.run m (s.fu (s.fuel + d))).trace = s.trace ++ l) := fun s m h =>
    ⟨fun _ => run_done (hdone s h) m, fun _ => run_trace m (s.fu (s.fuel + d))⟩
  induction n generalizing s m with
  | zero => exact hsame s m ha
  | succ n ih =>
    by_cases hd : s.done
    · rw [run_done hd] at ha ⊢
      exact hsame s m hd
    by_cases hh : s.hungry
    · have e : St.run (n + 1) s = { s with err := 8 } := by
        show St.run n s.step = _
        rw [step_hungry hh]
        exact run_done (.inl (show (8 : Int) ≠ 0 by decide)) n
      rw [e]
      exact ⟨fun q => absurd rfl q, fun _ => run_trace m (s.fu (s.fuel + d))⟩
    · obtain ⟨e, _⟩ := step_fu d hd hh
      cases m with
      | zero => exact absurd hb hd
      | succ m =>
        have e2 : St.run (m + 1) (s.fu (s.fuel + d)) = St.run m (s.step.fu (s.step.fuel + d)) := by show St.run m (s.fu (s.fuel + d)).step = _; rw [e]
        rw [e2] at hb ⊢
        exact ih m s.step ha hb
end Go.Proofs.YtjmgnohepoacbaaDoor

namespace Go.Proofs.YtjmgnohepoacbaaDoor
open Go Go.ChangeShapes Go.WideShapes Go.ChangeAt Go.RowKit Go.Sort
set_option linter.unusedVariables false
set_option linter.unusedSimpArgs false

def St.mk0 (input : List Str) (fuel : Int) : St := { err := 0, fault := 0, trace := [], input := input, fuel := fuel, refs := [], vals := [], frames := [], next := none }
theorem new_any (w : World) (input : List Str) (i : Value) (fuel : Int) (hi : InR w w.heap.size input i) :
    Calls Tryd.prog 12 #[i, .int .i64 fuel] w fun e w' => e = .returned (.pointer (some ⟨w.heap.size, 0, none⟩)) ∧ Rep w w.heap.size w.heap.size (St.mk0 input fuel) w' (.slice none 0 0) i (.slice none 0 0) (.slice none 0 0) (.slice none 0 0) (.pointer none) (.pointer none) [] [] [] ∧ Below w.heap.size w w' := by
  have hb : Below w.heap.size w (w.alloc (.cells #[.int .i64 0, .int .i64 0, .string ⟨#[]⟩, .slice none 0 0, i, .int .i64 fuel, .slice none 0 0, .slice none 0 0, .slice none 0 0, .pointer none, .pointer none] 53)) := (Below.refl _ _).alloc (Nat.le_refl _) _
  have hh := heap_new (w := w) (o := .cells #[.int .i64 0, .int .i64 0, .string ⟨#[]⟩, .slice none 0 0, i, .int .i64 fuel, .slice none 0 0, .slice none 0 0, .slice none 0 0, .pointer none, .pointer none] 53) rfl
  have HI := Lib.hid hi
  obtain ⟨A, c, rfl, h1, h2, h3⟩ := hi
  have HB := Lib.hid hb
  have HHH := Lib.hid hh
  clear hb hh h1 h2 h3
  go_enter Tryd.func12, Tryd.ntmps12
  go_wp2_with fail
  go_returns
  obtain ⟨A', c', e', h1, h2, h3⟩ := HI.out
  refine ⟨rfl, ⟨HHH.out, World.ownsRow_nil _ _ _ _, ⟨A', c', e', h1, h2.below HB.out, h3⟩, World.ownsRow_nil _ _ _ _, LR.nil, World.ownsRow_nil _ _ _ _, LR.nil, World.ownsRow_nil _ _ _ _, LR.nil, rfl, ⟨Nat.le_refl _, Nat.le_refl _⟩, ?_, ?_, ?_, ?_⟩, HB.out⟩ <;> (intro q hq; cases hq)
def lenV : Value → Nat
  | .slice _ n _ => n
  | _ => 0
/-- What is left to do, as the memory tells it. -/
def muW (mb : Nat) (w : World) : Nat := match w.heap[mb]? with
  | some (.cells cs _ _) => 3 * (intOf (cs[5]?.getD (.int .i64 0))).toNat + lenV (cs[8]?.getD (.int .i64 0)) + (match cs[9]? with | some (.pointer none) => 2 | _ => 1) + (if intOf (cs[0]?.getD (.int .i64 0)) = 0 then 1 else 0)
  | _ => 0
section
variable {w0 w : World} {B mb : Nat} {s : St} {t i r v f nx nm : Value} {rcs vcs fcs : List (List Value)}
theorem muW_eq (h : Rep w0 B mb s w t i r v f nx nm rcs vcs fcs) : muW mb w = mu s := by
  obtain ⟨A, c, e, _⟩ := own_cap h.fr
  have hnx := h.nxt
  unfold muW mu
  rw [h.hd]
  show 3 * s.fuel.toNat + lenV f + (match some nx with | some (.pointer none) => 2 | _ => 1) + (if s.err = 0 then 1 else 0) = _
  rw [e]
  show 3 * s.fuel.toNat + s.frames.length + (match some nx with | some (.pointer none) => 2 | _ => 1) + (if s.err = 0 then 1 else 0) = _
  cases hn : s.next with
  | none =>
    rw [hn] at hnx
    rw [show nx = .pointer none from hnx]
  | some p =>
    rw [hn] at hnx
    obtain ⟨eb, eo, e2, _⟩ := hnx
    rw [e2]
end
/-- A block that holds no value is no part of one. -/
theorem VR.avoid {w0 w : World} {P : Nat → Prop} {g R M : Nat} (hz : w.heap[g]? = some (.cells #[.int .i64 0, .int .i64 0, .string ⟨#[]⟩, .slice none 0 0, .slice none 0 0, .pointer none] 45)) {z : Val} {cs : List Value} (h : VR w0 w P z cs) : ∀ D, VG R M D z → VR w0 w (fun b => P b ∧ b ≠ g) z cs :=
  VR.rec (motive_1 := fun v c _ => ∀ D, VG R M D v → VR w0 w (fun b => P b ∧ b ≠ g) v c) (motive_2 := fun f u _ => (∀ self isRec a part env, f = some (.mk self isRec a part env) → ∀ p ∈ env, ∃ D, VG R M D p.2) → FR w0 w (fun b => P b ∧ b ≠ g) f u) (motive_3 := fun e u _ => (∀ p ∈ e, ∃ D, VG R M D p.2) → ER w0 w (fun b => P b ∧ b ≠ g) e u)
    (fun sort n s labels l f LA lc A c css u lrd lbl lcap len rd bl cap sub fn ih1 ih2 D hg => by
      have hsub := hg.subs'
      refine .mk sort n s labels l f LA lc A c css u lrd (fun hn a ha => ⟨⟨(lbl hn a ha).1, fun e => ?_⟩, (lbl hn a ha).2⟩) lcap len rd (fun hn a ha => ⟨bl hn a ha, fun e => ?_⟩) cap (fun i v cs h1 h2 => ih1 i v cs h1 h2 D (hsub v (List.mem_of_getElem? h1))) (ih2 (fun self isRec a part env hf p hp => ⟨D, (hg.clo (self := self) (isRec := isRec) (a := a) (part := part) (env := env) hf).2 p hp⟩))
      · obtain ⟨b, o, rfl, hc⟩ := lrd.str (k := 0) hn
        cases ha
        have e' : b = g := e
        subst e'
        have h0 : o = 0 := (lbl hn _ rfl).2
        subst h0
        have h1 := hc 0 hn
        rw [Lib.cell_of_heap hz] at h1
        simp at h1
      have hv : Vs w0 w P l A css := ⟨rd, len, fun i v cs h1 h2 => sub i v cs h1 h2⟩
      obtain ⟨ab, ao, rfl⟩ := hv.addr hn
      cases ha
      have e' : ab = g := e
      subst e'
      obtain ⟨A6, k6, p6, L6, l6, _, g0, _, _, _, _, g5⟩ := hv.six 0 (List.getElem?_eq_getElem hn) ao (ao + 1) (ao + 2) (ao + 3) (ao + 4) (ao + 5) ⟨by omega, by omega, by omega, by omega, by omega, by omega⟩
      rw [Lib.cell_of_heap hz] at g0 g5
      have h5 := (Array.getElem?_eq_some_iff.1 g5).1
      have h0 : ao = 0 := by
        simp at h5
        omega
      subst h0
      have hs := (hsub _ (List.getElem_mem hn)).sort_
      have e2 : (Value.int .i64 0) = .int .i64 (l[0]).sort := Option.some.inj g0
      injection e2 with _ e2
      omega)
    (fun _ => .none)
    (fun self isRec arg part pb po env b u hb bl hp he ih hg => .some self isRec arg part pb po env b u hb ⟨bl, fun e => by
      subst e
      rw [hz] at hb
      have := congrArg (fun o => match o with | some (.cells cs _ _) => cs.size | _ => 0) hb
      simp at this⟩ hp (ih (fun p hp => hg self isRec arg part env rfl p hp)))
    (fun _ => .nil)
    (fun x v env b c0 c1 c2 c3 c4 c5 u hb bl hv he ih1 ih2 hg => .cons x v env b c0 c1 c2 c3 c4 c5 u hb ⟨bl, fun e => by
      subst e
      rw [hz] at hb
      have := congrArg (fun o => match o with | some (.cells cs _ _) => cs.size | _ => 0) hb
      simp at this⟩ (by obtain ⟨D, hD⟩ := hg (x, v) (List.mem_cons_self ..); exact ih1 D hD) (ih2 (fun p hp => hg p (List.mem_cons_of_mem _ hp)))) h
end Go.Proofs.YtjmgnohepoacbaaDoor

namespace Go.Proofs.YtjmgnohepoacbaaDoor
open Go Go.ChangeShapes Go.WideShapes Go.ChangeAt Go.RowKit Go.Sort
set_option linter.unusedVariables false
set_option linter.unusedSimpArgs false

/-- The machine in block mb has references. -/
structure HasR (w0 w : World) (P : Nat → Prop) (B mb : Nat) (refs : List Val) : Prop where
  at_ : ∃ (s : St) (t i r v f nx nm : Value) (rcs : List (List Value)), w.heap[mb]? = some (.cells (HD s t i r v f nx nm) 53) ∧ w.ownsRow B 45 6 r refs.length rcs.flatten ∧ LR (VR w0 w P) refs rcs
section
variable {w0 wS w : World} {P : Nat → Prop} {B mb : Nat} {refs : List Val}
theorem HasR.below (h : HasR w0 wS P B mb refs) (hb : Below wS.heap.size wS w) : HasR w0 w P B mb refs := by
  obtain ⟨s, t, i, r, v, f, nx, nm, rcs, h1, h2, h3⟩ := h.at_
  exact ⟨s, t, i, r, v, f, nx, nm, rcs, (hb.block mb (lt_of_heap h1)).trans h1, own_below h2 hb, h3.imp (fun a c hc => hc.keep (fun b hb' hl => ⟨hb', hb.block b hl⟩))⟩
set_option maxHeartbeats 4000000 in
theorem hasR_any (h : HasR w0 wS P B mb refs) (hbS : Below wS.heap.size wS w) (hn : refs.length ≤ 100000000000) (z : Val) (A : Option Addr) (c : Nat) (p : Option Addr) (LA : Option Addr) (lc : Nat) (k : Nat) (hk : k < refs.length) (hz : z.n = k) :
    Calls Tryd.prog 54 #[.pointer (some ⟨mb, 0, none⟩), .agg #[.int .i64 z.sort, .int .i64 z.n, .string (bstr z.s), .slice LA z.labels.length lc, .slice A z.l.length c, .pointer p]] w fun e w' => ∃ (A' : Option Addr) (c' : Nat) (p' : Option Addr) (LA' : Option Addr) (lc' : Nat), e = .returned (.agg #[.int .i64 refs[k].sort, .int .i64 refs[k].n, .string (bstr refs[k].s), .slice LA' refs[k].labels.length lc', .slice A' refs[k].l.length c', .pointer p']) ∧ VR w0 wS P refs[k] [.int .i64 refs[k].sort, .int .i64 refs[k].n, .string (bstr refs[k].s), .slice LA' refs[k].labels.length lc', .slice A' refs[k].l.length c', .pointer p'] ∧ Below w.heap.size w w' := by
  rw [hz]
  obtain ⟨s, t, i, r, v, f, nx, nm, rcs, hd0, hrr0, hrl⟩ := h.at_
  have hd : w.heap[mb]? = some (.cells (HD s t i r v f nx nm) 53) := (hbS.block mb (lt_of_heap hd0)).trans hd0
  have hrr := own_below hrr0 hbS
  obtain ⟨cs, hcs, hv⟩ := hrl.get hk
  have hlens := VR.lens hrl
  obtain ⟨y, hy⟩ : ∃ y, refs[k] = y := ⟨_, rfl⟩
  rw [hy] at hv ⊢
  obtain ⟨A6, k6, q6, LA6, lk6, rfl⟩ := hv.six
  obtain ⟨m, hm⟩ : ∃ m, refs.length = m + 1 := ⟨refs.length - 1, by omega⟩
  rw [hm] at hrr
  obtain ⟨g, cg, rfl⟩ := own_some hrr
  have hb1 : Below w.heap.size w (w.alloc (.cells #[.int .i64 z.sort, .int .i64 (k : Int), .string (bstr z.s), .slice LA z.labels.length lc, .slice A z.l.length c, .pointer p] 45)) := (Below.refl _ _).alloc (Nat.le_refl _) _
  have hb2 := hb1.alloc (by rw [World.size_alloc]; omega) (.cells #[.int .i64 0, .int .i64 0, .string ⟨#[]⟩, .slice none 0 0, .slice none 0 0, .pointer none] 45)
  obtain ⟨⟨a0, a1, a2, a3, a4, a5⟩, _⟩ := own_at6 (own_below hrr hb2) hlens hcs
  obtain ⟨b0, b1, b2, b3, b4, b5⟩ := cells6 ((Below.heap_alloc _ (.cells #[.int .i64 0, .int .i64 0, .string ⟨#[]⟩, .slice none 0 0, .slice none 0 0, .pointer none] 45) _ (by rw [World.size_alloc]; omega)).trans (heap_new (w := w) (o := .cells #[.int .i64 z.sort, .int .i64 (k : Int), .string (bstr z.s), .slice LA z.labels.length lc, .slice A z.l.length c, .pointer p] 45) rfl))
  have c6 := (cells11 ((hb2.block mb (lt_of_heap hd)).trans hd)).2.2.2.2.2.2.1
  have HV := Lib.hid hv
  have HB := Lib.hid (show Below w.heap.size w ((w.alloc (.cells #[.int .i64 z.sort, .int .i64 (k : Int), .string (bstr z.s), .slice LA z.labels.length lc, .slice A z.l.length c, .pointer p] 45)).alloc (.cells #[.int .i64 y.sort, .int .i64 y.n, .string (bstr y.s), .slice LA6 y.labels.length lk6, .slice A6 y.l.length k6, .pointer q6] 45)).drew from (hb1.alloc (by rw [World.size_alloc]; omega) _).drew)
  have n0 : (0 : Int) ≤ (k : Int) := by omega
  have n1 : (k : Int) < (m : Int) + 1 := by omega
  have n2 : (m : Int) ≤ 100000000000 := by omega
  clear h hv hcs hrr hb1 hb2 hn hk hz hy hd0 hrr0 hrl hd hlens hbS
  go_enter Tryd.func54, Tryd.ntmps54
  go_upto_region 1 with fail
  go_region_law fail
  all_goals
    go_wp2_with fail
    go_returns
    with_reducible exact ⟨_, _, _, _, _, rfl, HV.out, HB.out⟩
end
end Go.Proofs.YtjmgnohepoacbaaDoor

namespace Go.Proofs.YtjmgnohepoacbaaDoor
open Go Go.ChangeShapes Go.WideShapes Go.ChangeAt Go.RowKit Go.Sort
set_option linter.unusedVariables false
set_option linter.unusedSimpArgs false

abbrev zeroV : Obj := .cells #[.int .i64 0, .int .i64 0, .string ⟨#[]⟩, .slice none 0 0, .slice none 0 0, .pointer none] 45
theorem step_some {s : St} {e : Ex} {env : Env} (h0 : s.err = 0) (hn : s.next = some (e, env)) (hf : ¬ s.fuel ≤ 0) : s.step = St.begin { s with fuel := s.fuel - 1, next := none } e env := by
  unfold St.step
  rw [if_neg (fun q => q h0), hn]
  show (if s.fuel ≤ 0 then _ else _) = _
  rw [if_neg hf]
theorem step_none {s : St} {fs : List Frm} {x : Frm} (h0 : s.err = 0) (hn : s.next = none) (hx : s.frames = fs ++ [x]) : s.step = s.goOn fs x (s.vals.drop x.base) := by
  unfold St.step
  rw [if_neg (fun q => q h0), hn]
  show (match s.frames.reverse with | [] => s | x :: fr => s.goOn fr.reverse x (s.vals.drop x.base)) = _
  rw [hx, List.reverse_append]
  show s.goOn fs.reverse.reverse x _ = _
  rw [List.reverse_reverse]
/-- What stands in each round. -/
def RL (w0 W1 : World) (B mb : Nat) (P : Nat → Prop) (s1 : St) (wr : World) : Prop := ∃ (T n : Nat) (s : St) (t i r v f nx nm : Value) (rcs vcs fcs : List (List Value)), Rep w0 B mb s wr t i r v f nx nm rcs vcs fcs ∧ s = St.run n s1 ∧ Inv T s ∧ T + mu s ≤ mu s1 ∧ Tr W1 P wr (Mv mb t r v f) ∧ Below B W1 wr
theorem RL.next {w0 W1 : World} {B mb : Nat} {P : Nat → Prop} {s1 : St} {wr w' : World} {T n : Nat} {s : St} {t i r v f nx nm : Value} {rcs vcs fcs : List (List Value)}
    (h : Rep w0 B mb s wr t i r v f nx nm rcs vcs fcs) (hs : s = St.run n s1) (hi : Inv T s) (hm : T + mu s ≤ mu s1) (hT : Tr W1 P wr (Mv mb t r v f)) (hB : Below B W1 wr) (hd : ¬ s.done) (hb : T ≤ 90000000000) (hp : Post w0 B mb (Mv mb t r v f) wr s.step w') : RL w0 W1 B mb P s1 w' ∧ muW mb w' < muW mb wr := by
  obtain ⟨t', i', r', v', f', nx', nm', rcs', vcs', fcs', h1, h2, h3⟩ := hp
  have hg := hi.step hd hb
  refine ⟨⟨T + 1, n + 1, s.step, t', i', r', v', f', nx', nm', rcs', vcs', fcs', h1, by rw [run_succ, ← hs], hg.inv, by have := hg.mu; omega, hT.trans hB.size h2, hB.trans h3⟩, ?_⟩
  rw [muW_eq h, muW_eq h1]
  exact hg.mu
/-- What a run tells. -/
def RunRes (w0 w : World) (B mb : Nat) (P0 : Nat → Prop) (s1 : St) (e1 : Ending) (w' : World) : Prop := (∀ b, P0 b → b < w.heap.size → w'.heap[b]? = w.heap[b]?) ∧ ∃ (n T : Nat) (s' : St) (t i r v f nx nm : Value), s' = St.run n s1 ∧ s'.done ∧ Inv T s' ∧ T ≤ mu s1 ∧ w'.heap[mb]? = some (.cells (HD s' t i r v f nx nm) 53) ∧ w'.ownsRow B 9 1 t s'.trace.length (strs s'.trace) ∧ Below B w w' ∧
  ((s'.err ≠ 0 ∧ e1 = .returned (.agg #[.int .i64 0, .int .i64 0, .string ⟨#[]⟩, .slice none 0 0, .slice none 0 0, .pointer none])) ∨
   (s'.err = 0 ∧ ∃ (z : Val) (A : Option Addr) (c : Nat) (p : Option Addr) (LA : Option Addr) (lc : Nat) (P' : Nat → Prop), s'.vals = [z] ∧ e1 = .returned (.agg #[.int .i64 z.sort, .int .i64 z.n, .string (bstr z.s), .slice LA z.labels.length lc, .slice A z.l.length c, .pointer p]) ∧ VR w0 w' P' z [.int .i64 z.sort, .int .i64 z.n, .string (bstr z.s), .slice LA z.labels.length lc, .slice A z.l.length c, .pointer p] ∧ HasR w0 w' P' B mb s'.refs))
theorem nest6 (wr : World) (g : Nat) (a0 a1 a2 a3 a4 a5 : Value) : (((((wr.setCell ⟨g, 0, none⟩ a0).setCell ⟨g, 1, none⟩ a1).setCell ⟨g, 2, none⟩ a2).setCell ⟨g, 3, none⟩ a3).setCell ⟨g, 4, none⟩ a4).setCell ⟨g, 5, none⟩ a5 = put6 wr g 0 a0 a1 a2 a3 a4 a5 := rfl
theorem put6_at {wr : World} {g : Nat} {x0 x1 x2 x3 x4 x5 : Value} {T : TypeId} (h : wr.heap[g]? = some (.cells #[x0, x1, x2, x3, x4, x5] T)) (a0 a1 a2 a3 a4 a5 : Value) : (put6 wr g 0 a0 a1 a2 a3 a4 a5).heap[g]? = some (.cells #[a0, a1, a2, a3, a4, a5] T) :=
  set_cells (set_cells (set_cells (set_cells (set_cells (set_cells h 0 a0) 1 a1) 2 a2) 3 a3) 4 a4) 5 a5
theorem put6_bel {B : Nat} (wr : World) {g : Nat} (hg : B ≤ g) (a0 a1 a2 a3 a4 a5 : Value) : Below B wr (put6 wr g 0 a0 a1 a2 a3 a4 a5) :=
  ⟨put6_os .., put6_tape .., put6_output .., by rw [put6_size]; exact Nat.le_refl _, fun b hb => put6_other _ _ _ _ _ _ _ _ _ (by omega)⟩
section
variable {P0 : Nat → Prop} {w0 w wr : World} {B mb : Nat} {s1 s : St} {t i r v f nx nm : Value} {rcs vcs fcs : List (List Value)} {T n g : Nat}
/-- Where the run ends with an error: zeros are written over zeros. -/
theorem RunRes.bad (h : Rep w0 B mb s wr t i r v f nx nm rcs vcs fcs) (hs : s = St.run n s1) (hi : Inv T s) (hT : T ≤ mu s1) (hB1 : Below B w wr) (hP0 : ∀ b, P0 b → b < w.heap.size → wr.heap[b]? = w.heap[b]?) (hgw : w.heap.size ≤ g) (he : s.err ≠ 0) (hgB : B ≤ g) (hgm : Mv mb t r v f g) :
    RunRes w0 w B mb P0 s1 (.returned (.agg #[.int .i64 0, .int .i64 0, .string ⟨#[]⟩, .slice none 0 0, .slice none 0 0, .pointer none])) (put6 wr g 0 (.int .i64 0) (.int .i64 0) (.string ⟨#[]⟩) (.slice none 0 0) (.slice none 0 0) (.pointer none)) :=
  ⟨fun b h1 h2 => (put6_other _ _ _ _ _ _ _ _ _ (by omega)).trans (hP0 b h1 h2), n, T, s, t, i, r, v, f, nx, nm, hs, .inl he, hi, hT, (put6_other _ _ _ _ _ _ _ _ _ (Ne.symm hgm.1)).trans h.hd, own_keep h.tr (fun q hq _ => put6_other _ _ _ _ _ _ _ _ _ (fun e => hgm.2.1 (by rw [← e]; exact hq.symm))), hB1.trans (put6_bel _ hgB _ _ _ _ _ _), .inl ⟨he, rfl⟩⟩
/-- Where the run ends with a value. -/
theorem RunRes.good (h : Rep w0 B mb s wr t i r v f nx nm rcs vcs fcs) (hs : s = St.run n s1) (hi : Inv T s) (hT : T ≤ mu s1) (hB1 : Below B w wr) (hP0 : ∀ b, P0 b → b < w.heap.size → wr.heap[b]? = w.heap[b]?) (hgw : w.heap.size ≤ g) (he : s.err = 0) (hn : s.next = none) (hf : s.frames = []) (hg : wr.heap[g]? = some zeroV) (hgB : B ≤ g) (hgm : Mv mb t r v f g) (z : Val) (A : Option Addr) (c : Nat) (p : Option Addr) (LA : Option Addr) (lc : Nat) (hz : s.vals = [z]) (hv : VR w0 wr (Mv mb t r v f) z [.int .i64 z.sort, .int .i64 z.n, .string (bstr z.s), .slice LA z.labels.length lc, .slice A z.l.length c, .pointer p]) :
    RunRes w0 w B mb P0 s1 (.returned (.agg #[.int .i64 z.sort, .int .i64 z.n, .string (bstr z.s), .slice LA z.labels.length lc, .slice A z.l.length c, .pointer p])) (put6 wr g 0 (.int .i64 z.sort) (.int .i64 z.n) (.string (bstr z.s)) (.slice LA z.labels.length lc) (.slice A z.l.length c) (.pointer p)) := by
  have hvg := hi.dat.vals z (by rw [hz]; exact List.mem_singleton_self z)
  have hv2 := hv.avoid hg _ hvg
  exact ⟨fun b h1 h2 => (put6_other _ _ _ _ _ _ _ _ _ (by omega)).trans (hP0 b h1 h2), n, T, s, t, i, r, v, f, nx, nm, hs, .inr ⟨hn, hf⟩, hi, hT, (put6_other _ _ _ _ _ _ _ _ _ (Ne.symm hgm.1)).trans h.hd, own_keep h.tr (fun q hq _ => put6_other _ _ _ _ _ _ _ _ _ (fun e => hgm.2.1 (by rw [← e]; exact hq.symm))), hB1.trans (put6_bel _ hgB _ _ _ _ _ _), .inr ⟨he, z, A, c, p, LA, lc, _, hz, rfl, hv2.keep (fun b hb hl => ⟨hb, put6_other _ _ _ _ _ _ _ _ _ hb.2⟩),
    s, t, i, r, v, f, nx, nm, rcs, (put6_other _ _ _ _ _ _ _ _ _ (Ne.symm hgm.1)).trans h.hd, own_keep h.rr (fun q hq _ => put6_other _ _ _ _ _ _ _ _ _ (fun e => hgm.2.2.1 (by rw [← e]; exact hq.symm))),
    ⟨h.rl.len, fun i y cs h1 h2 => ((h.rl.at_ i y cs h1 h2).avoid hg _ (hi.dat.refs y (List.mem_of_getElem? h1))).keep (fun b hb hl => ⟨hb, put6_other _ _ _ _ _ _ _ _ _ hb.2⟩)⟩⟩⟩
end
theorem run_ret {R : Ending → World → Prop} {wr : World} {g : Nat} {x0 x1 x2 x3 x4 x5 : Value} (h : wr.heap[g]? = some (.cells #[x0, x1, x2, x3, x4, x5] 45)) (a0 a1 a2 a3 a4 a5 : Value) (tm : Array Value) (h8 : tm[8]?.getD undef = .pointer (some ⟨g, 0, none⟩)) (hR : R (.returned (.agg #[a0, a1, a2, a3, a4, a5])) (put6 wr g 0 a0 a1 a2 a3 a4 a5)) :
    bodyPost Tryd.prog Tryd.f13 R Exit.ret ⟨tm, []⟩ (put6 wr g 0 a0 a1 a2 a3 a4 a5) := by
  have hh := put6_at h a0 a1 a2 a3 a4 a5
  generalize put6 wr g 0 a0 a1 a2 a3 a4 a5 = W at *
  obtain ⟨b0, b1, b2, b3, b4, b5⟩ := cells6 hh
  refine bodyPost_ret (by simp [results, Tryd.results13, go_sem, h8, b0, b1, b2, b3, b4, b5]; try rfl) rfl ?_
  exact hR
set_option maxRecDepth 100000 in
set_option maxHeartbeats 16000000 in
theorem run_any {w0 w : World} {B mb : Nat} {s0 : St} {t0 i0 r0 v0 f0 nx0 nm0 : Value} {rcs0 vcs0 fcs0 : List (List Value)} (h : Rep w0 B mb s0 w t0 i0 r0 v0 f0 nx0 nm0 rcs0 vcs0 fcs0) (hW : Below w0.heap.size w0 w) (hT : Tab w0) (e : Ex) (eb eo : Nat) (he : e.In w0 ∧ e.d.At w0 eb eo) (s1 : St) (hs1 : s1 = { s0 with next := some (e, []) }) (hi : Inv 0 s1) (hm : mu s1 ≤ 80000000000) (hfu : -9000000000000 ≤ s1.fuel) :
    Calls Tryd.prog 13 #[.pointer (some ⟨mb, 0, none⟩), .pointer (some ⟨eb, eo, none⟩), .func (.func 14) #[.agg #[.pointer (some ⟨mb, 0, none⟩)]] #[], .func (.func 15) #[.agg #[.pointer (some ⟨mb, 0, none⟩)]] #[]] w fun e1 w' => RunRes w0 w B mb (Mv mb t0 r0 v0 f0) s1 e1 w' := by
  have hb1 : Below w.heap.size w (w.alloc zeroV) := (Below.refl _ _).alloc (Nat.le_refl _) _
  have hB1 : Below B w (w.alloc zeroV) := hb1.mono (Nat.le_of_lt (Nat.lt_of_le_of_lt h.base.2 h.lt))
  have HBG := Lib.hid (begin_any (h.below hb1) e [] eb eo none ⟨he, .nil⟩)
  have HG := Lib.hid (And.intro (heap_new (w := w) (o := zeroV) rfl) (And.intro (h.mvNew w.heap.size (Nat.le_refl _)) (And.intro (Nat.le_of_lt (Nat.lt_of_le_of_lt h.base.2 h.lt)) (And.intro h.lt hB1))))
  have HW := Lib.hid (And.intro hW (And.intro hT (And.intro h.base.1 h.base.2)))
  have HI := Lib.hid (And.intro hi (And.intro hm hfu))
  rw [← hs1] at HBG
  clear h hW hT he hs1 hi hm hfu hb1 hB1
  go_enter Tryd.func13, Tryd.ntmps13
  go_wp2_with (go_at_call 18; (with_reducible refine HBG.out.mono ?_); rintro e1 w1 ⟨rfl, hp⟩; have HP := Lib.hid hp; clear hp)
  go_loopw [9, 10, 11] (fun _ _ _ wr => RL w0 (w.alloc zeroV) B mb (Mv mb t0 r0 v0 f0) s1 wr) (fun _ _ _ wr => muW mb wr)
  case atStart =>
    obtain ⟨t', i', r', v', f', nx', nm', rcs', vcs', fcs', h1, h2, h3⟩ := HP.out
    exact ⟨0, 0, s1, t', i', r', v', f', nx', nm', rcs', vcs', fcs', h1, rfl, HI.out.1, by omega, h2, h3⟩
  case round =>
    clear HP HBG
    obtain ⟨T, n, s, t, i, r, v, f, nx, nm, rcs, vcs, fcs, hR, hs, hinv, hmu, htr, hbw⟩ := hrel
    have hmT : T ≤ 80000000000 := by have := HI.out.2.1; omega
    have hg8 : wr.heap[w.heap.size]? = some zeroV := (htr _ HG.out.2.1 (by rw [World.size_alloc]; omega)).2.trans HG.out.1
    have hm8 := (htr _ HG.out.2.1 (by rw [World.size_alloc]; omega)).1
    have hBw : Below B w wr := HG.out.2.2.2.2.trans hbw
    have hP0 : ∀ b, Mv mb t0 r0 v0 f0 b → b < w.heap.size → wr.heap[b]? = w.heap[b]? := fun b h1 h2 => (htr b h1 (by rw [World.size_alloc]; omega)).2.trans (Below.heap_alloc _ _ _ h2)
    obtain ⟨c0, c1, c2, c3, c4, c5, c6, c7, c8, c9, c10⟩ := cells11 hR.hd
    have z0 := frozenN hR.hd 0
    obtain ⟨b0, b1, b2, b3, b4, b5⟩ := cells6 hg8
    have y0 := frozenN hg8 0
    have y1 := frozenN hg8 1
    have y2 := frozenN hg8 2
    have y3 := frozenN hg8 3
    have y4 := frozenN hg8 4
    have y5 := frozenN hg8 5
    have HG8 := Lib.hid hg8
    by_cases he0 : s.err = 0
    · rw [he0] at c0
      cases hn : s.next with
      | some pe =>
        obtain ⟨e, env⟩ := pe
        have hnx := hR.nxt
        rw [hn] at hnx
        obtain ⟨eb', eo', rfl, heI, heE⟩ := hnx
        obtain ⟨u, rfl⟩ := heE.ptr
        have hd : ¬ s.done := by rintro (q | q); exact q he0; rw [hn] at q; cases q.1
        by_cases hf0 : s.fuel ≤ 0
        · have hh : s.hungry := ⟨he0, by rw [hn]; simp, hf0⟩
          have hst := hinv.step hd (by omega)
          have hmu' := hst.mu
          obtain ⟨r1, r2, r3⟩ := hR.set1 (s' := { s with err := 8 }) 0 (.int .i64 8) rfl ⟨rfl, rfl, rfl, rfl⟩ hR.inp hR.nxt
          have hg8' := (set_other wr mb 0 (.int .i64 8) (Ne.symm (Nat.ne_of_lt HG.out.2.2.2.1))).trans hg8
          have HX := Lib.hid (RunRes.bad (w := w) (s1 := s1) (T := T + 1) (n := n + 1) (g := w.heap.size) r1 (by rw [run_succ, ← hs, step_hungry hh]) (by rw [← step_hungry hh]; exact hst.inv) (by omega) (hBw.trans r3) (fun b h1 h2 => (set_other wr mb 0 _ h1.1).trans (hP0 b h1 h2)) (Nat.le_refl _) (show (8 : Int) ≠ 0 by decide) HG.out.2.2.1 hm8)
          have d0 : (wr.setCell ⟨mb, 0, none⟩ (.int .i64 8)).cell? ⟨mb, 0, none⟩ = some (.int .i64 8) := by rw [Lib.cell_of_heap (set_cells hR.hd 0 _)]; rfl
          obtain ⟨b0', b1', b2', b3', b4', b5'⟩ := cells6 hg8'
          have y0' := frozenN hg8' 0
          have y1' := frozenN hg8' 1
          have y2' := frozenN hg8' 2
          have y3' := frozenN hg8' 3
          have y4' := frozenN hg8' 4
          have y5' := frozenN hg8' 5
          have f1 : decide (s.fuel ≤ 0) = true := decide_eq_true hf0
          have HG9 := Lib.hid hg8'
          clear b0 b1 b2 b3 b4 b5 y0 y1 y2 y3 y4 y5 hR hs hinv hmu htr hbw hmT hg8 hm8 hP0 hBw r1 r2 r3 hg8' hst hmu' hh hd heI heE hn
          go_wp2_with fail
          exact run_ret HG9.out _ _ _ _ _ _ _ rfl HX.out
        · have hst := step_some he0 hn hf0
          have hfu : s.fuel ≤ 90000000000 := by have := mu_le s; have h2 := mu_some (s := s) (by rw [hn]; simp) he0; have := HI.out.2.1; omega
          obtain ⟨r1, r2, r3⟩ := hR.set1 (s' := { s with fuel := s.fuel - 1 }) 5 (.int .i64 (s.fuel - 1)) rfl ⟨rfl, rfl, rfl, rfl⟩ hR.inp hR.nxt
          obtain ⟨q1, q2, q3⟩ := r1.set1 (s' := { s with fuel := s.fuel - 1, next := none }) 9 (.pointer none) rfl ⟨rfl, rfl, rfl, rfl⟩ r1.inp rfl
          have hdw := below_drew1 ((wr.setCell ⟨mb, 5, none⟩ (.int .i64 (s.fuel - 1))).setCell ⟨mb, 9, none⟩ (.pointer none))
          have hdB := hdw.mono (show B ≤ _ by have := q1.lt; have := q1.base.2; omega)
          have hwW : Below w0.heap.size w0 ((wr.setCell ⟨mb, 5, none⟩ (.int .i64 (s.fuel - 1))).setCell ⟨mb, 9, none⟩ (.pointer none)).drew := below_w0 (below_w0 (below_w0 (below_w0 HW.out.1 HW.out.2.2.1 hBw) HW.out.2.2.1 r3) HW.out.2.2.1 q3) HW.out.2.2.1 hdB
          have hnv := hinv.dat.nv
          have hnf := hinv.dat.nf
          have hni := hinv.dat.ni
          have HC := Lib.hid ((beginAll_any (q1.below hdw) (show s.vals.length ≤ _ by omega) (show s.frames.length ≤ _ by omega) (show s.input.length ≤ _ by omega) e env eb' eo' u ⟨heI, ((heE.keep r2).keep q2).keep (Tr.below hdw)⟩ (heI.2.lower hwW)).mono fun e1 w' ⟨h1, h2⟩ => And.intro h1 (RL.next hR hs hinv hmu htr hbw hd (by omega) (by rw [hst]; exact ((h2.mono (Tr.below hdw) hdB).mono q2 q3).mono r2 r3)))
          obtain ⟨_, _, _, _, _, _, _, _, _, d9, d10⟩ := cells11 r1.hd
          have zz5 := frozenN hR.hd 5
          have zz9 := frozenN r1.hd 9
          have f1 : decide (s.fuel ≤ 0) = false := decide_eq_false hf0
          have f2 : IntKind.i64.wrap (s.fuel - 1) = s.fuel - 1 := by rw [IntKind.wrap_i64]; omega
          clear b0 b1 b2 b3 b4 b5 y0 y1 y2 y3 y4 y5 hR hs hinv hmu htr hbw hmT hg8 hm8 hP0 hBw r1 r2 r3 q1 q2 q3 hst hd heI heE hn hdw hdB hwW hnv hnf hni hfu HG8
          go_upto_region 9 with fail
          go_region_law fail
          all_goals
            go_wp2_with fail
            (with_reducible refine HC.out.mono ?_)
            rintro e1 w2 ⟨rfl, hp⟩
            have HP := Lib.hid hp
            clear hp
            go_wp2_with fail
            go_roundw
            case rel => exact HP.out.1
            case measure => exact HP.out.2
      | none =>
        have hnx : nx = .pointer none := by have := hR.nxt; rw [hn] at this; exact this
        subst hnx
        have hwf := hinv.wf he0
        rw [hn] at hwf
        cases hfr : s.frames.reverse with
        | nil =>
          have hfe : s.frames = [] := List.reverse_eq_nil_iff.1 hfr
          rw [hfr] at hwf
          obtain ⟨z, hz⟩ := len1 (show s.vals.length = 1 from hwf)
          obtain ⟨Af, cf, rfl, _⟩ := own_cap hR.fr
          have hvr := hR.vr
          have hvl := hR.vl
          rw [hz] at hvr hvl
          obtain ⟨qv, kv, rfl⟩ := own_some (n := 0) hvr
          obtain ⟨Az, kz, pz, LAz, lkz, hvz, g0, g1, g2, g3, g4, g5⟩ := (Vs.mk (Rd.of_own hvr) hvl).six 0 (z := z) rfl 0 1 2 3 4 5 ⟨rfl, rfl, rfl, rfl, rfl, rfl⟩
          have HX := Lib.hid (RunRes.good (w := w) (s1 := s1) hR hs hinv (by omega) hBw hP0 (Nat.le_refl _) he0 hn hfe hg8 HG.out.2.2.1 hm8 z Az kz pz LAz lkz hz hvz)
          rw [hfe] at c8
          clear hR hs hinv hmu htr hbw hmT hg8 hm8 hP0 hBw hvr hvl hvz hz hfe hfr hwf hn
          go_wp2_with fail
          exact run_ret HG8.out _ _ _ _ _ _ _ rfl HX.out
        | cons x fr =>
          rw [hfr] at hwf
          obtain ⟨hw1, hw2, hw3⟩ := hwf
          have hx : s.frames = fr.reverse ++ [x] := by rw [← List.reverse_reverse s.frames, hfr, List.reverse_cons]
          have hd : ¬ s.done := by rintro (q | q); exact q he0; rw [hx] at q; simp at q
          have hst := step_none he0 hn hx
          obtain ⟨L, hLL⟩ : ∃ L, fr.reverse.length = L := ⟨_, rfl⟩
          have hlen : s.frames.length = L + 1 := by rw [hx, List.length_append, hLL]; rfl
          have hRfr := hR.fr
          rw [hlen] at hRfr
          obtain ⟨q1f, k1f, rfl⟩ := own_some hRfr
          obtain ⟨cs, hcs, eb', eo', u', hce, heI, heE⟩ := hR.fl.get (i := L) (by omega)
          have hxx : s.frames[L]'(by omega) = x := by simp [hx, ← hLL]
          rw [hxx] at hce heI heE
          obtain ⟨u, rfl⟩ := heE.ptr
          have h3 : ∀ c ∈ fcs, c.length = 3 := fun c hc => by
            obtain ⟨j, hj, e⟩ := List.getElem_of_mem hc
            obtain ⟨_, _, _, e2, _⟩ := hR.fl.at_ j _ c (List.getElem?_eq_getElem (by rw [← hR.fl.len]; exact hj)) (by rw [List.getElem?_eq_getElem hj, e])
            rw [e2]; rfl
          have j0 : wr.cell? ⟨q1f, L * 3, none⟩ = some (.pointer (some ⟨eb', eo', none⟩)) := (own_cell hRfr (flat_at2 h3 hcs (j := 0) (by rw [hce]; rfl))).1
          have j1 : wr.cell? ⟨q1f, L * 3 + 1, none⟩ = some (.pointer u) := (own_cell hRfr (flat_at2 h3 hcs (j := 1) (by rw [hce]; rfl))).1
          have j2 : wr.cell? ⟨q1f, L * 3 + 2, none⟩ = some (.int .i64 x.base) := (own_cell hRfr (flat_at2 h3 hcs (j := 2) (by rw [hce]; rfl))).1
          clear hRfr h3 hxx hce
          have hvr := hR.vr
          rcases hR.vr.2 with ⟨rfl, hn0⟩ | ⟨g, cv, cur, rfl, hgB, hgh, hnc, hcm, _⟩
          · have hb0 : x.base = 0 := by omega
            have hvd : Vs w0 wr (Mv mb t r (.slice none 0 0) (.slice (some ⟨q1f, 0, none⟩) (L + 1) k1f)) (s.vals.drop x.base) none (vcs.drop x.base) := by
              have e1 : s.vals.drop x.base = [] := List.drop_eq_nil_of_le (by omega)
              have e2 : vcs.drop x.base = [] := List.drop_eq_nil_of_le (by rw [hR.vl.len]; omega)
              rw [e1, e2]
              exact ⟨Rd.nil wr 6 _, LR.nil⟩
            have hA : 0 < (s.vals.drop x.base).length → ∀ a, (none : Option Addr) = some a → a.block ≠ mb := fun _ a ha => by cases ha
            clear hvr
            have hvl : (s.vals.drop x.base).length = 0 := by rw [List.length_drop, hn0, Nat.zero_sub]
            have hnv := hinv.dat.nv
            have hnf := hinv.dat.nf
            have hnr := hinv.dat.nr
            have hnt := hinv.dat.nt
            have HC := Lib.hid (fun (V : World) (hV : Below wr.heap.size wr V) => (show Calls Tryd.prog 15 #[.agg #[.pointer (some ⟨mb, 0, none⟩)], .agg #[.pointer (some ⟨eb', eo', none⟩), .pointer u, .int .i64 x.base], .slice none (0) (0)] V fun e1 w' => e1 = .returned (.tuple #[]) ∧ (RL w0 (w.alloc zeroV) B mb (Mv mb t0 r0 v0 f0) s1 w' ∧ muW mb w' < muW mb wr) from by
              have hVB := hV.mono (show B ≤ _ by have := hR.lt; have := hR.base.2; omega)
              have hg := goOn_any (hR.below hV) (below_w0 (below_w0 HW.out.1 HW.out.2.2.1 hBw) HW.out.2.2.1 hVB) HW.out.2.1 (by omega) (by omega) (by omega) (by omega) fr.reverse x hx hw1 (hinv.dat.frames x (by rw [hx]; simp)).1 eb' eo' u ⟨heI, heE.keep (Tr.below hV)⟩ (s.vals.drop x.base) none (vcs.drop x.base) (0) (hvd.below hV) hA (by rw [hvl]; omega) (fun z hz => (have hz' := hinv.dat.vals z (List.mem_of_mem_drop hz); ⟨hz'.fn_, hz'.tag_, hz'.ref_, hz'.txt_, hz'.num_, hz'.tup_, by have := hz'.len_; omega⟩))
              rw [hvl] at hg
              exact hg.mono fun e1 w' ⟨h1, h2⟩ => And.intro h1 (RL.next hR hs hinv hmu htr hbw hd (by omega) (by rw [hst]; exact h2.mono (Tr.below hV) hVB))))
            have hz0 : ((x.base : Nat) : Int) = 0 := by omega
            have HC := Lib.hid (show _ from by have hc := HC.out; rw [hz0] at hc; exact hc)
            rw [hz0] at j2
            clear hz0 hb0
            have HS4 := Lib.hid (fun (V : World) (hV : Below wr.heap.size wr V) => (show V.cell? ⟨mb, 8, none⟩ = some (.slice (some ⟨q1f, 0, none⟩) (L + 1) k1f) ∧ V.cell? ⟨q1f, L * 3, none⟩ = some (.pointer (some ⟨eb', eo', none⟩)) ∧ V.cell? ⟨q1f, L * 3 + 1, none⟩ = some (.pointer u) ∧ V.cell? ⟨q1f, L * 3 + 2, none⟩ = some (.int .i64 0) from ⟨cell_below hV c8, cell_below hV j0, cell_below hV j1, cell_below hV j2⟩))
            have HX9 := Lib.hid (heap_new (w := wr) (o := (.cells #[.pointer (some ⟨eb', eo', none⟩), .pointer u, .int .i64 0] 56)) rfl)
            have i0 : (0 : Int) ≤ (L : Int) := by omega
            have i1 : (L : Int) < (L : Int) + 1 := by omega
            have i2 : IntKind.i64.wrap ((L : Int) + 1 - 1) = (L : Int) := by rw [IntKind.wrap_i64]; omega
            have i3 : IntKind.i64.wrap (L : Int) = (L : Int) := by rw [IntKind.wrap_i64]; omega
            have i4 : (L : Int) ≤ 90000000000 := by omega
            clear hR hs hinv hmu htr hbw hmT hg8 hm8 hP0 hBw hx hfr hn hd hst hw1 hw2 hw3 hlen hcs heI heE hvd hA hvl hnv hnf hnr hnt hLL j0 j1 j2 b0 b1 b2 b3 b4 b5 y0 y1 y2 y3 y4 y5 z0 hn0
            go_upto_region 4 with fail
            clear c8
            go_region_held3 (fun V => V.cell? ⟨mb, 8, none⟩ = some (.slice (some ⟨q1f, 0, none⟩) (L + 1) k1f) ∧ V.cell? ⟨q1f, L * 3, none⟩ = some (.pointer (some ⟨eb', eo', none⟩)) ∧ V.cell? ⟨q1f, L * 3 + 1, none⟩ = some (.pointer u) ∧ V.cell? ⟨q1f, L * 3 + 2, none⟩ = some (.int .i64 0))
              (with_reducible exact HS4.out _ (by go_grown))
              (first | fail)
            all_goals
              have hbx : Below wr.heap.size wr (wr.alloc (.cells #[.pointer (some ⟨eb', eo', none⟩), .pointer u, .int .i64 0] 56)).drew := ((Below.refl _ _).alloc (Nat.le_refl _) _).drew
              have hx9 : (wr.alloc (.cells #[.pointer (some ⟨eb', eo', none⟩), .pointer u, .int .i64 0] 56)).drew.heap[wr.heap.size]? = some (.cells #[.pointer (some ⟨eb', eo', none⟩), .pointer u, .int .i64 0] 56) := HX9.out
              generalize (wr.alloc (.cells #[.pointer (some ⟨eb', eo', none⟩), .pointer u, .int .i64 0] 56)).drew = V at *
              obtain ⟨f0, f1, f2⟩ := cells3 hx9
              have c7' := cell_below hbx c7
              have HBX := Lib.hid hbx
              clear hbx hx9 HS4 HX9 c0 c1 c2 c3 c4 c5 c6 c7 c9 c10
              go_upto_region 5 with fail
              go_still_tail 9, (by kernel_rfl)
              change wpList _ _ _ _ _ _
              go_wp2_with fail
              (with_reducible refine (HC.out _ (Below.drew HBX.out)).mono ?_)
              rintro e1 w2 ⟨rfl, hp⟩
              have HP := Lib.hid hp
              clear hp
              go_wp2_with fail
              go_roundw
              case rel => exact HP.out.1
              case measure => exact HP.out.2
          · have hvd := (Vs.mk (Rd.of_own hvr) hR.vl).dropC x.base hw1 cv hnc
            rw [Addr.add_lit, Nat.zero_add] at hvd
            obtain ⟨A3, hA3⟩ : ∃ A3, (if cv = x.base then some (⟨g, 0, none⟩ : Addr) else some ⟨g, x.base * 6, none⟩) = A3 := ⟨_, rfl⟩
            rw [hA3] at hvd
            have hA : 0 < (s.vals.drop x.base).length → ∀ a, A3 = some a → a.block ≠ mb := fun _ a ha => by
              have hgm := (hR.dv g rfl).1
              rw [← hA3] at ha
              split at ha
              · cases ha; exact hgm
              · cases ha; exact hgm
            clear hvr hgB hgh
            have hvl : (s.vals.drop x.base).length = s.vals.length - x.base := List.length_drop
            have hnv := hinv.dat.nv
            have hnf := hinv.dat.nf
            have hnr := hinv.dat.nr
            have hnt := hinv.dat.nt
            have HC := Lib.hid (fun (V : World) (hV : Below wr.heap.size wr V) => (show Calls Tryd.prog 15 #[.agg #[.pointer (some ⟨mb, 0, none⟩)], .agg #[.pointer (some ⟨eb', eo', none⟩), .pointer u, .int .i64 x.base], .slice A3 (s.vals.length - x.base) (cv - x.base)] V fun e1 w' => e1 = .returned (.tuple #[]) ∧ (RL w0 (w.alloc zeroV) B mb (Mv mb t0 r0 v0 f0) s1 w' ∧ muW mb w' < muW mb wr) from by
              have hVB := hV.mono (show B ≤ _ by have := hR.lt; have := hR.base.2; omega)
              have hg := goOn_any (hR.below hV) (below_w0 (below_w0 HW.out.1 HW.out.2.2.1 hBw) HW.out.2.2.1 hVB) HW.out.2.1 (by omega) (by omega) (by omega) (by omega) fr.reverse x hx hw1 (hinv.dat.frames x (by rw [hx]; simp)).1 eb' eo' u ⟨heI, heE.keep (Tr.below hV)⟩ (s.vals.drop x.base) A3 (vcs.drop x.base) (cv - x.base) (hvd.below hV) hA (by rw [hvl]; omega) (fun z hz => (have hz' := hinv.dat.vals z (List.mem_of_mem_drop hz); ⟨hz'.fn_, hz'.tag_, hz'.ref_, hz'.txt_, hz'.num_, hz'.tup_, by have := hz'.len_; omega⟩))
              rw [hvl] at hg
              exact hg.mono fun e1 w' ⟨h1, h2⟩ => And.intro h1 (RL.next hR hs hinv hmu htr hbw hd (by omega) (by rw [hst]; exact h2.mono (Tr.below hV) hVB))))
            have HS4 := Lib.hid (fun (V : World) (hV : Below wr.heap.size wr V) => (show V.cell? ⟨mb, 8, none⟩ = some (.slice (some ⟨q1f, 0, none⟩) (L + 1) k1f) ∧ V.cell? ⟨q1f, L * 3, none⟩ = some (.pointer (some ⟨eb', eo', none⟩)) ∧ V.cell? ⟨q1f, L * 3 + 1, none⟩ = some (.pointer u) ∧ V.cell? ⟨q1f, L * 3 + 2, none⟩ = some (.int .i64 x.base) from ⟨cell_below hV c8, cell_below hV j0, cell_below hV j1, cell_below hV j2⟩))
            have HX9 := Lib.hid (heap_new (w := wr) (o := (.cells #[.pointer (some ⟨eb', eo', none⟩), .pointer u, .int .i64 x.base] 56)) rfl)
            have i0 : (0 : Int) ≤ (L : Int) := by omega
            have i1 : (L : Int) < (L : Int) + 1 := by omega
            have i2 : IntKind.i64.wrap ((L : Int) + 1 - 1) = (L : Int) := by rw [IntKind.wrap_i64]; omega
            have i3 : IntKind.i64.wrap (L : Int) = (L : Int) := by rw [IntKind.wrap_i64]; omega
            have i4 : (L : Int) ≤ 90000000000 := by omega
            have j4 : (x.base : Int) ≤ (s.vals.length : Int) := by omega
            have j5 : (0 : Int) ≤ (x.base : Int) := by omega
            have j6 : (s.vals.length : Int) ≤ (cv : Int) := by omega
            have j7 : (cv : Int) ≤ 9223372036854775807 := by have := hcm; simp only [maxLen] at this; omega
            have j8 : (x.base : Int) ≤ (cv : Int) := by omega
            clear hR hs hinv hmu htr hbw hmT hg8 hm8 hP0 hBw hx hfr hn hd hst hw1 hw2 hw3 hlen hcs heI heE hvd hA hvl hnv hnf hnr hnt hLL j0 j1 j2 b0 b1 b2 b3 b4 b5 y0 y1 y2 y3 y4 y5 z0 hnc hcm
            go_upto_region 4 with fail
            clear c8
            go_region_held3 (fun V => V.cell? ⟨mb, 8, none⟩ = some (.slice (some ⟨q1f, 0, none⟩) (L + 1) k1f) ∧ V.cell? ⟨q1f, L * 3, none⟩ = some (.pointer (some ⟨eb', eo', none⟩)) ∧ V.cell? ⟨q1f, L * 3 + 1, none⟩ = some (.pointer u) ∧ V.cell? ⟨q1f, L * 3 + 2, none⟩ = some (.int .i64 x.base))
              (with_reducible exact HS4.out _ (by go_grown))
              (first | fail)
            all_goals
              have hbx : Below wr.heap.size wr (wr.alloc (.cells #[.pointer (some ⟨eb', eo', none⟩), .pointer u, .int .i64 x.base] 56)).drew := ((Below.refl _ _).alloc (Nat.le_refl _) _).drew
              have hx9 : (wr.alloc (.cells #[.pointer (some ⟨eb', eo', none⟩), .pointer u, .int .i64 x.base] 56)).drew.heap[wr.heap.size]? = some (.cells #[.pointer (some ⟨eb', eo', none⟩), .pointer u, .int .i64 x.base] 56) := HX9.out
              generalize (wr.alloc (.cells #[.pointer (some ⟨eb', eo', none⟩), .pointer u, .int .i64 x.base] 56)).drew = V at *
              obtain ⟨f0, f1, f2⟩ := cells3 hx9
              have c7' := cell_below hbx c7
              have HBX := Lib.hid hbx
              clear hbx hx9 HS4 HX9 c0 c1 c2 c3 c4 c5 c6 c7 c9 c10
              go_upto_region 5 with fail
              go_still_tail 9, (by kernel_rfl)
              change wpList _ _ _ _ _ _
              go_wp2_with fail
              (with_reducible refine (HC.out _ (Below.drew HBX.out)).mono ?_)
              rintro e1 w2 ⟨rfl, hp⟩
              have HP := Lib.hid hp
              clear hp
              go_wp2_with fail
              go_roundw
              case rel => exact HP.out.1
              case measure => exact HP.out.2
    · have HX := Lib.hid (RunRes.bad hR hs hinv (by omega) hBw hP0 (Nat.le_refl _) he0 HG.out.2.2.1 hm8)
      have e1 : (s.err == 0) = false := by simpa using he0
      have e2 : (s.err != 0) = true := by simpa using he0
      clear hR hs hinv hmu htr hbw hmT hg8 hm8 hP0 hBw
      go_wp2_with fail
      exact run_ret HG8.out _ _ _ _ _ _ _ rfl HX.out
end Go.Proofs.YtjmgnohepoacbaaDoor

namespace Go.Proofs.YtjmgnohepoacbaaDoor
open Go Go.ChangeShapes Go.WideShapes Go.ChangeAt Go.RowKit Go.Sort
set_option linter.unusedVariables false
set_option linter.unusedSimpArgs false

/-- A value's text behind another, at most so deep. -/
def wrV (refs : List Val) : Nat → Str → Val → Str
  | 0, b, _ => b
  | f + 1, b, v =>
    if b.length = 2000 then b
    else if v.sort = 1 then sayL b [Lib.itoa v.n]
    else if v.sort = 2 then quoteS b v.s
    else if v.sort = 3 then sayL b [[102, 110]]
    else if v.sort = 4 then fieldsS (fun i c => wrV refs f c (v.l[i]?.getD zV)) b v.labels
    else if v.sort = 5 then partS (decide ((v.l[0]?.getD zV).sort = 5)) (fun c => wrV refs f c (v.l[0]?.getD zV)) (sayL b [v.s, [32]])
    else if v.sort = 6 then partS (decide ((refs[v.n.toNat]?.getD zV).sort = 5) || decide ((refs[v.n.toNat]?.getD zV).sort = 6)) (fun c => wrV refs f c (refs[v.n.toNat]?.getD zV)) (sayL b [[114, 101, 102, 32]])
    else b
theorem qF_ge (b s : Str) : b.length ≤ (qF b s).length := by
  induction s generalizing b with
  | nil => exact Nat.le_refl _
  | cons c s ih => exact Nat.le_trans (sayL_ge b (q1 c)) (ih _)
theorem quoteS_ge (b s : Str) : b.length ≤ (quoteS b s).length := Nat.le_trans (say1_ge b [34]) (Nat.le_trans (qF_ge _ s) (say1_ge _ [34]))
theorem partS_ge {br : Bool} {out : Str → Str} (ho : ∀ b, b.length ≤ (out b).length) (b : Str) : b.length ≤ (partS br out b).length := by
  unfold partS
  split
  · exact Nat.le_trans (say1_ge b [40]) (Nat.le_trans (ho _) (say1_ge _ _))
  · exact ho _
theorem wrV_ge (refs : List Val) : ∀ (f : Nat) (b : Str) (v : Val), b.length ≤ (wrV refs f b v).length
  | 0, b, v => Nat.le_refl _
  | f + 1, b, v => by
    unfold wrV
    split
    · exact Nat.le_refl _
    split
    · exact sayL_ge _ _
    split
    · exact quoteS_ge _ _
    split
    · exact sayL_ge _ _
    split
    · exact Nat.le_trans (say1_ge b [123]) (Nat.le_trans (fldF_ge (fun i c => wrV_ge refs f c _) _ _ _) (say1_ge _ _))
    split
    · exact Nat.le_trans (sayL_ge _ _) (partS_ge (fun c => wrV_ge refs f c _) _)
    split
    · exact Nat.le_trans (sayL_ge _ _) (partS_ge (fun c => wrV_ge refs f c _) _)
    · exact Nat.le_refl _
end Go.Proofs.YtjmgnohepoacbaaDoor

namespace Go.Proofs.YtjmgnohepoacbaaDoor
open Go Go.ChangeShapes Go.WideShapes Go.ChangeAt Go.RowKit Go.Sort
set_option linter.unusedVariables false
set_option linter.unusedSimpArgs false

abbrev boxW (b : Nat) : Obj := .cells #[.pointer (some ⟨b, 0, none⟩)] 70
section
variable {S b mb : Nat} {bs : Str} {w : World} {v : Val} {A : Option Addr} {c : Nat} {p : Option Addr} {LA : Option Addr} {lc : Nat}
set_option maxHeartbeats 4000000 in
set_option maxRecDepth 100000 in
theorem writeFull_any (h : WD S b bs w) (hS : S ≤ w.heap.size) (hq : bs.length = 2000) :
    Calls Tryd.prog 32 #[.agg #[.pointer (some ⟨mb, 0, none⟩)], .pointer (some ⟨b, 0, none⟩), .agg #[.int .i64 v.sort, .int .i64 v.n, .string (bstr v.s), .slice LA v.labels.length lc, .slice A v.l.length c, .pointer p]] w fun e w' => e = .returned (.tuple #[]) ∧ WD S b bs w' ∧ Below S w w' ∧ Keeps w w' := by
  obtain ⟨q1, q2, q3, hb⟩ := three_newS w (boxM mb) (boxW b) (boxV v A c p LA lc)
  have HB := Lib.hid hb
  have HW := Lib.hid (And.intro (h.below hb) hS)
  have c1 : (((w.alloc (boxM mb)).alloc (boxW b)).alloc (boxV v A c p LA lc)).cell? ⟨w.heap.size + 1, 0, none⟩ = some (.pointer (some ⟨b, 0, none⟩)) := by rw [Lib.cell_of_heap q2]; rfl
  have HF := Lib.hid (Full_any (h.below hb))
  rw [decide_eq_true hq] at HF
  clear h hS hb q1 q2 q3
  go_enter Tryd.func32, Tryd.ntmps32
  go_wp2_with (go_at_call 46; (with_reducible refine HF.out.mono ?_); rintro e1 w1 ⟨rfl, rfl⟩)
  go_returns
  exact ⟨rfl, HW.out.1, HB.out.mono HW.out.2, Keeps.of_below HB.out⟩
set_option maxHeartbeats 4000000 in
set_option maxRecDepth 100000 in
theorem writeText_any (h : WD S b bs w) (hS : S ≤ w.heap.size) (hq : ¬ bs.length = 2000) (hs : v.sort = 2) (hl : v.s.length ≤ 4000000) :
    Calls Tryd.prog 32 #[.agg #[.pointer (some ⟨mb, 0, none⟩)], .pointer (some ⟨b, 0, none⟩), .agg #[.int .i64 v.sort, .int .i64 v.n, .string (bstr v.s), .slice LA v.labels.length lc, .slice A v.l.length c, .pointer p]] w fun e w' => e = .returned (.tuple #[]) ∧ WD S b (quoteS bs v.s) w' ∧ Below S w w' ∧ Keeps w w' := by
  obtain ⟨q1, q2, q3, hb⟩ := three_newS w (boxM mb) (boxW b) (boxV v A c p LA lc)
  have HB := Lib.hid hb
  have HW := Lib.hid (And.intro (h.below hb) hS)
  have c1 : (((w.alloc (boxM mb)).alloc (boxW b)).alloc (boxV v A c p LA lc)).cell? ⟨w.heap.size + 1, 0, none⟩ = some (.pointer (some ⟨b, 0, none⟩)) := by rw [Lib.cell_of_heap q2]; rfl
  obtain ⟨x0, x1, x2, x3, x4, x5⟩ := cells6 q3
  rw [hs] at x0
  have HF := Lib.hid (Full_any (h.below hb))
  rw [decide_eq_false hq] at HF
  have HQ := Lib.hid (Quote_any (h.below hb) (Nat.le_trans hS hb.size) v.s hl)
  clear h hS hb q1 q2 q3 hs hl
  go_enter Tryd.func32, Tryd.ntmps32
  go_wp2_with (first
    | (go_at_call 46; (with_reducible refine HF.out.mono ?_); rintro e1 w1 ⟨rfl, rfl⟩)
    | (go_at_call 49; (with_reducible refine HQ.out.mono ?_); rintro e1 w1 ⟨rfl, hd⟩; have HP := Lib.hid hd; clear hd))
  go_returns
  exact ⟨rfl, HP.out.1, (HB.out.mono HW.out.2).trans HP.out.2.1, (Keeps.of_below HB.out).trans HP.out.2.2⟩
set_option maxHeartbeats 4000000 in
set_option maxRecDepth 100000 in
theorem writeFn_any (h : WD S b bs w) (hS : S ≤ w.heap.size) (hq : ¬ bs.length = 2000) (hs : v.sort = 3) :
    Calls Tryd.prog 32 #[.agg #[.pointer (some ⟨mb, 0, none⟩)], .pointer (some ⟨b, 0, none⟩), .agg #[.int .i64 v.sort, .int .i64 v.n, .string (bstr v.s), .slice LA v.labels.length lc, .slice A v.l.length c, .pointer p]] w fun e w' => e = .returned (.tuple #[]) ∧ WD S b (sayL bs [[102, 110]]) w' ∧ Below S w w' ∧ Keeps w w' := by
  obtain ⟨q1, q2, q3, hb⟩ := three_newS w (boxM mb) (boxW b) (boxV v A c p LA lc)
  have HB := Lib.hid hb
  have HW := Lib.hid (And.intro (h.below hb) hS)
  have c1 : (((w.alloc (boxM mb)).alloc (boxW b)).alloc (boxV v A c p LA lc)).cell? ⟨w.heap.size + 1, 0, none⟩ = some (.pointer (some ⟨b, 0, none⟩)) := by rw [Lib.cell_of_heap q2]; rfl
  obtain ⟨x0, x1, x2, x3, x4, x5⟩ := cells6 q3
  rw [hs] at x0
  have HF := Lib.hid (Full_any (h.below hb))
  rw [decide_eq_false hq] at HF
  have HQ := Lib.hid (Say_new (h.below hb) (Nat.le_trans hS hb.size) [[102, 110]] 1 rfl #[.string ⟨#[102, 110]⟩] rfl (by decide) (by intro x hx; simp at hx; subst hx; decide))
  clear h hS hb q1 q2 q3 hs
  go_enter Tryd.func32, Tryd.ntmps32
  go_upto_region 8 with (go_at_call 46; (with_reducible refine HF.out.mono ?_); rintro e1 w1 ⟨rfl, rfl⟩)
  generalize hW1 : (((w.alloc (boxM mb)).alloc (boxW b)).alloc (boxV v A c p LA lc)) = W1 at *
  clear hW1
  go_wp2_with (go_at_call 47; (with_reducible refine HQ.out.mono ?_); rintro e1 w1 ⟨rfl, hd⟩; have HP := Lib.hid hd; clear hd)
  go_returns
  exact ⟨rfl, HP.out.1, (HB.out.mono HW.out.2).trans HP.out.2.1, (Keeps.of_below HB.out).trans HP.out.2.2⟩
end
end Go.Proofs.YtjmgnohepoacbaaDoor

namespace Go.Proofs.YtjmgnohepoacbaaDoor
open Go Go.ChangeShapes Go.WideShapes Go.ChangeAt Go.RowKit Go.Sort
set_option linter.unusedVariables false
set_option linter.unusedSimpArgs false

/-- What a call of write does, as far as f goes: values as they stand where the text begins. -/
def WrC (w0 wS : World) (P : Nat → Prop) (R M b mb : Nat) (refs : List Val) (f : Nat) : Prop :=
  ∀ (bs : Str) (w : World) (v : Val) (A : Option Addr) (c : Nat) (p : Option Addr) (LA : Option Addr) (lc : Nat) (D : Nat), 2000 - bs.length < f → WD wS.heap.size b bs w → Below wS.heap.size wS w →
    VR w0 wS P v [.int .i64 v.sort, .int .i64 v.n, .string (bstr v.s), .slice LA v.labels.length lc, .slice A v.l.length c, .pointer p] → VG R M D v →
    Calls Tryd.prog 32 #[.agg #[.pointer (some ⟨mb, 0, none⟩)], .pointer (some ⟨b, 0, none⟩), .agg #[.int .i64 v.sort, .int .i64 v.n, .string (bstr v.s), .slice LA v.labels.length lc, .slice A v.l.length c, .pointer p]] w fun e w' => e = .returned (.tuple #[]) ∧ WD wS.heap.size b (wrV refs f bs v) w' ∧ Below wS.heap.size w w' ∧ Keeps w w'
section
variable {w0 wS w : World} {P : Nat → Prop} {R M b mb f : Nat} {refs : List Val} {bs : Str} {v : Val} {A : Option Addr} {c : Nat} {p : Option Addr} {LA : Option Addr} {lc : Nat} {D g : Nat}
set_option maxHeartbeats 4000000 in
set_option maxRecDepth 100000 in
theorem clo1_any (hI : WrC w0 wS P R M b mb refs f) (hr : 2000 - bs.length < f) (h : WD wS.heap.size b bs w) (hB : Below wS.heap.size wS w) (hv : VR w0 wS P v [.int .i64 v.sort, .int .i64 v.n, .string (bstr v.s), .slice LA v.labels.length lc, .slice A v.l.length c, .pointer p]) (hg : VG R M D v)
    (h1 : w.heap[g]? = some (boxM mb)) (h2 : w.heap[g + 1]? = some (boxW b)) (h3 : w.heap[g + 1 + 1]? = some (boxV v A c p LA lc)) (k : Nat) (hk : k < v.l.length) (hm : v.l.length ≤ 100000000000) :
    Calls Tryd.prog 51 #[.int .i64 (k : Nat), .pointer (some ⟨g, 0, none⟩), .pointer (some ⟨g + 1, 0, none⟩), .pointer (some ⟨g + 1 + 1, 0, none⟩)] w fun e w' => e = .returned (.tuple #[]) ∧ WD wS.heap.size b (wrV refs f bs (v.l[k]?.getD zV)) w' ∧ Below wS.heap.size w w' ∧ Keeps w w' := by
  obtain ⟨y, hy⟩ : ∃ y, v.l[k]? = some y := ⟨_, List.getElem?_eq_getElem hk⟩
  rw [hy, Option.getD_some]
  obtain ⟨csx, hvx, hcx, hpx⟩ := hv.vs
  obtain ⟨ab, ao, rfl⟩ := hvx.addr (by omega)
  obtain ⟨A9, c9, p9, LA9, lc9, hvy, _⟩ := hvx.six k hy (ao + k * 6) (ao + k * 6 + 1) (ao + k * 6 + 2) (ao + k * 6 + 3) (ao + k * 6 + 4) (ao + k * 6 + 5) ⟨rfl, rfl, rfl, rfl, rfl, rfl⟩
  have hcells := (show ∀ {w : World}, Below wS.heap.size wS w → ∀ {o : Nat} {u : Value}, wS.cell? ⟨ab, o, none⟩ = some u → w.cell? ⟨ab, o, none⟩ = some u from fun hb _ _ hc => cell_below hb hc)
  obtain ⟨A9', c9', p9', LA9', lc9', hvy', g0, g1, g2, g3, g4, g5⟩ := hvx.six k hy (ao + k * 6) (ao + k * 6 + 1) (ao + k * 6 + 2) (ao + k * 6 + 3) (ao + k * 6 + 4) (ao + k * 6 + 5) ⟨rfl, rfl, rfl, rfl, rfl, rfl⟩
  replace g0 := hcells hB g0
  replace g1 := hcells hB g1
  replace g2 := hcells hB g2
  replace g3 := hcells hB g3
  replace g4 := hcells hB g4
  replace g5 := hcells hB g5
  have c1 : w.cell? ⟨g, 0, none⟩ = some (.pointer (some ⟨mb, 0, none⟩)) := by rw [Lib.cell_of_heap h1]; rfl
  have c2 : w.cell? ⟨g + 1, 0, none⟩ = some (.pointer (some ⟨b, 0, none⟩)) := by rw [Lib.cell_of_heap h2]; rfl
  obtain ⟨x0, x1, x2, x3, x4, x5⟩ := cells6 h3
  have HC := Lib.hid (fun (hb' : Below w.heap.size w w.drew) => hI bs w.drew y A9' c9' p9' LA9' lc9' D hr (h.below hb') (hB.drew) hvy' (hg.subs' y (List.mem_of_getElem? hy)))
  have i1 : (k : Int) < (v.l.length : Int) := by omega
  have i0 : (0 : Int) ≤ (k : Int) := by omega
  have i2 : (v.l.length : Int) ≤ 100000000000 := by omega
  have HB := Lib.hid (below_drew1 w)
  have HBS := Lib.hid hB.size
  clear hI hr h hB hv hg h1 h2 h3 hk hm hy hvx hcx hpx hvy hvy' hcells
  go_enter Tryd.func51, Tryd.ntmps51
  go_still_tail 7, (by kernel_rfl)
  change wpList _ _ _ _ _ _
  go_wp2_with (go_at_call 32; (with_reducible refine (HC.out (below_drew1 _)).mono ?_); rintro e1 w2 ⟨rfl, hp⟩; have HP := Lib.hid hp; clear hp)
  all_goals
    go_wp2_with fail
    go_returns
    exact ⟨rfl, HP.out.1, (HB.out.mono HBS.out).trans HP.out.2.1, (Keeps.of_below HB.out).trans HP.out.2.2⟩
end
end Go.Proofs.YtjmgnohepoacbaaDoor

namespace Go.Proofs.YtjmgnohepoacbaaDoor
open Go Go.ChangeShapes Go.WideShapes Go.ChangeAt Go.RowKit Go.Sort
set_option linter.unusedVariables false
set_option linter.unusedSimpArgs false

section
variable {w0 wS w : World} {P : Nat → Prop} {R M b mb f : Nat} {refs : List Val} {bs : Str} {v : Val} {A : Option Addr} {c : Nat} {p : Option Addr} {LA : Option Addr} {lc : Nat} {D g : Nat}
set_option maxHeartbeats 4000000 in
set_option maxRecDepth 100000 in
theorem writeTuple_any (hM : M ≤ 100000000000) (hI : WrC w0 wS P R M b mb refs f) (hr : 2000 - bs.length < f + 1) (hq : ¬ bs.length = 2000) (hs : v.sort = 4) (h : WD wS.heap.size b bs w) (hB : Below wS.heap.size wS w) (hv : VR w0 wS P v [.int .i64 v.sort, .int .i64 v.n, .string (bstr v.s), .slice LA v.labels.length lc, .slice A v.l.length c, .pointer p]) (hg : VG R M D v) :
    Calls Tryd.prog 32 #[.agg #[.pointer (some ⟨mb, 0, none⟩)], .pointer (some ⟨b, 0, none⟩), .agg #[.int .i64 v.sort, .int .i64 v.n, .string (bstr v.s), .slice LA v.labels.length lc, .slice A v.l.length c, .pointer p]] w fun e w' => e = .returned (.tuple #[]) ∧ WD wS.heap.size b (fieldsS (fun i c => wrV refs f c (v.l[i]?.getD zV)) bs v.labels) w' ∧ Below wS.heap.size w w' ∧ Keeps w w' := by
  obtain ⟨q1, q2, q3, hb⟩ := three_newS w (boxM mb) (boxW b) (boxV v A c p LA lc)
  have hle := h.le
  have HB := Lib.hid hb
  have HBS := Lib.hid hB
  have hbS : Below wS.heap.size w (((w.alloc (boxM mb)).alloc (boxW b)).alloc (boxV v A c p LA lc)) := hb.mono hB.size
  have c1 : (((w.alloc (boxM mb)).alloc (boxW b)).alloc (boxV v A c p LA lc)).cell? ⟨w.heap.size + 1, 0, none⟩ = some (.pointer (some ⟨b, 0, none⟩)) := by rw [Lib.cell_of_heap q2]; rfl
  obtain ⟨x0, x1, x2, x3, x4, x5⟩ := cells6 q3
  have HF := Lib.hid (Full_any (h.below hb))
  rw [decide_eq_false hq] at HF
  have hln := hg.tup_ hs
  have hlen := hg.len_
  have HQ := Lib.hid (Fields_any (wS := wS) (h.below hb) (hB.trans hbS) (by omega) v.labels LA lc hv.lab.1 (by omega) hg.labs_ (.pointer (some ⟨w.heap.size, 0, none⟩)) (.pointer (some ⟨w.heap.size + 1, 0, none⟩)) (.pointer (some ⟨w.heap.size + 1 + 1, 0, none⟩)) (fun i c => wrV refs f c (v.l[i]?.getD zV)) (fun i c => wrV_ge refs f c _)
    (fun k bs1 w1 hk hlt hwd hb1 hk1 => clo1_any hI (by omega) hwd ((hB.trans hbS).trans hb1) hv hg (hk1 _ _ _ _ q1 (by decide) (by decide)) (hk1 _ _ _ _ q2 (by decide) (by decide)) (hk1 _ _ _ _ q3 (by decide) (by decide)) k (by omega) (by omega)))
  rw [hs] at x0
  clear h hI hB hv hg q1 q2 q3 hb hbS hq hs hle hln hlen hr
  go_enter Tryd.func32, Tryd.ntmps32
  go_wp2_with (first
    | (go_at_call 46; (with_reducible refine HF.out.mono ?_); rintro e1 w1 ⟨rfl, rfl⟩)
    | (go_at_call 50; (with_reducible refine HQ.out.mono ?_); rintro e1 w1 ⟨rfl, hd⟩; have HP := Lib.hid hd; clear hd))
  go_returns
  exact ⟨rfl, HP.out.1, (HB.out.mono HBS.out.size).trans HP.out.2.1, (Keeps.of_below HB.out).trans HP.out.2.2⟩
end
end Go.Proofs.YtjmgnohepoacbaaDoor

namespace Go.Proofs.YtjmgnohepoacbaaDoor
open Go Go.ChangeShapes Go.WideShapes Go.ChangeAt Go.RowKit Go.Sort
set_option linter.unusedVariables false
set_option linter.unusedSimpArgs false

section
variable {w0 wS w : World} {P : Nat → Prop} {R M b mb f : Nat} {refs : List Val} {bs : Str} {v : Val} {A : Option Addr} {c : Nat} {p : Option Addr} {LA : Option Addr} {lc : Nat} {D g : Nat}
set_option maxHeartbeats 4000000 in
set_option maxRecDepth 100000 in
theorem clo2_any (hI : WrC w0 wS P R M b mb refs f) (hr : 2000 - bs.length < f) (h : WD wS.heap.size b bs w) (hB : Below wS.heap.size wS w) (hv : VR w0 wS P v [.int .i64 v.sort, .int .i64 v.n, .string (bstr v.s), .slice LA v.labels.length lc, .slice A v.l.length c, .pointer p]) (hg : VG R M D v)
    (h1 : w.heap[g]? = some (boxM mb)) (h2 : w.heap[g + 1]? = some (boxW b)) (h3 : w.heap[g + 1 + 1]? = some (boxV v A c p LA lc)) (hk : v.l.length = 1) :
    Calls Tryd.prog 53 #[.pointer (some ⟨g, 0, none⟩), .pointer (some ⟨g + 1, 0, none⟩), .pointer (some ⟨g + 1 + 1, 0, none⟩)] w fun e w' => e = .returned (.tuple #[]) ∧ WD wS.heap.size b (wrV refs f bs (v.l[0]?.getD zV)) w' ∧ Below wS.heap.size w w' ∧ Keeps w w' := by
  obtain ⟨y, hy⟩ : ∃ y, v.l[0]? = some y := ⟨_, List.getElem?_eq_getElem (by omega)⟩
  rw [hy, Option.getD_some]
  obtain ⟨csx, hvx, hcx, hpx⟩ := hv.vs
  obtain ⟨ab, ao, rfl⟩ := hvx.addr (by omega)
  obtain ⟨A9, c9, p9, LA9, lc9, hvy, _⟩ := hvx.six 0 hy ao (ao + 1) (ao + 2) (ao + 3) (ao + 4) (ao + 5) ⟨by omega, by omega, by omega, by omega, by omega, by omega⟩
  have hcells := (show ∀ {w : World}, Below wS.heap.size wS w → ∀ {o : Nat} {u : Value}, wS.cell? ⟨ab, o, none⟩ = some u → w.cell? ⟨ab, o, none⟩ = some u from fun hb _ _ hc => cell_below hb hc)
  obtain ⟨A9', c9', p9', LA9', lc9', hvy', g0, g1, g2, g3, g4, g5⟩ := hvx.six 0 hy ao (ao + 1) (ao + 2) (ao + 3) (ao + 4) (ao + 5) ⟨by omega, by omega, by omega, by omega, by omega, by omega⟩
  replace g0 := hcells hB g0
  replace g1 := hcells hB g1
  replace g2 := hcells hB g2
  replace g3 := hcells hB g3
  replace g4 := hcells hB g4
  replace g5 := hcells hB g5
  have c1 : w.cell? ⟨g, 0, none⟩ = some (.pointer (some ⟨mb, 0, none⟩)) := by rw [Lib.cell_of_heap h1]; rfl
  have c2 : w.cell? ⟨g + 1, 0, none⟩ = some (.pointer (some ⟨b, 0, none⟩)) := by rw [Lib.cell_of_heap h2]; rfl
  obtain ⟨x0, x1, x2, x3, x4, x5⟩ := cells6 h3
  have HC := Lib.hid (fun (hb' : Below w.heap.size w w.drew) => hI bs w.drew y A9' c9' p9' LA9' lc9' D hr (h.below hb') (hB.drew) hvy' (hg.subs' y (List.mem_of_getElem? hy)))
  rw [hk] at x4
  have HB := Lib.hid (below_drew1 w)
  have HBS := Lib.hid hB.size
  clear hI hr h hB hv hg h1 h2 h3 hk hy hvx hcx hpx hvy hvy' hcells
  go_enter Tryd.func53, Tryd.ntmps53
  go_still_tail 6, (by kernel_rfl)
  change wpList _ _ _ _ _ _
  go_wp2_with (go_at_call 32; (with_reducible refine (HC.out (below_drew1 _)).mono ?_); rintro e1 w2 ⟨rfl, hp⟩; have HP := Lib.hid hp; clear hp)
  all_goals
    go_wp2_with fail
    go_returns
    exact ⟨rfl, HP.out.1, (HB.out.mono HBS.out).trans HP.out.2.1, (Keeps.of_below HB.out).trans HP.out.2.2⟩
set_option maxHeartbeats 4000000 in
set_option maxRecDepth 100000 in
theorem clo3_any (hI : WrC w0 wS P R M b mb refs f) (hr : 2000 - bs.length < f) (h : WD wS.heap.size b bs w) (hB : Below wS.heap.size wS w) (hv : VR w0 wS P v [.int .i64 v.sort, .int .i64 v.n, .string (bstr v.s), .slice LA v.labels.length lc, .slice A v.l.length c, .pointer p]) (hg : VG R M D v) {g3 : Nat}
    (h1 : w.heap[g]? = some (boxM mb)) (h2 : w.heap[g + 1]? = some (boxW b)) (h3 : w.heap[g3]? = some (boxV v A c p LA lc)) :
    Calls Tryd.prog 55 #[.pointer (some ⟨g, 0, none⟩), .pointer (some ⟨g + 1, 0, none⟩), .pointer (some ⟨g3, 0, none⟩)] w fun e w' => e = .returned (.tuple #[]) ∧ WD wS.heap.size b (wrV refs f bs v) w' ∧ Below wS.heap.size w w' ∧ Keeps w w' := by
  have c1 : w.cell? ⟨g, 0, none⟩ = some (.pointer (some ⟨mb, 0, none⟩)) := by rw [Lib.cell_of_heap h1]; rfl
  have c2 : w.cell? ⟨g + 1, 0, none⟩ = some (.pointer (some ⟨b, 0, none⟩)) := by rw [Lib.cell_of_heap h2]; rfl
  obtain ⟨x0, x1, x2, x3, x4, x5⟩ := cells6 h3
  have HC := Lib.hid (hI bs w v A c p LA lc D hr h hB hv hg)
  clear hI hr h hB hv hg h1 h2 h3
  go_enter Tryd.func55, Tryd.ntmps55
  go_wp2_with (go_at_call 32; (with_reducible refine HC.out.mono ?_); rintro e1 w2 ⟨rfl, hp⟩; have HP := Lib.hid hp; clear hp)
  go_returns
  exact ⟨rfl, HP.out⟩
end
end Go.Proofs.YtjmgnohepoacbaaDoor

namespace Go.Proofs.YtjmgnohepoacbaaDoor
open Go Go.ChangeShapes Go.WideShapes Go.ChangeAt Go.RowKit Go.Sort
set_option linter.unusedVariables false
set_option linter.unusedSimpArgs false

section
variable {w0 wS w : World} {P : Nat → Prop} {R M b mb f : Nat} {refs : List Val} {bs : Str} {v : Val} {A : Option Addr} {c : Nat} {p : Option Addr} {LA : Option Addr} {lc : Nat} {D g : Nat}
set_option maxHeartbeats 4000000 in
set_option maxRecDepth 100000 in
theorem writeTag_any (hI : WrC w0 wS P R M b mb refs f) (hr : 2000 - bs.length < f + 1) (hq : ¬ bs.length = 2000) (hs : v.sort = 5) (h : WD wS.heap.size b bs w) (hB : Below wS.heap.size wS w) (hv : VR w0 wS P v [.int .i64 v.sort, .int .i64 v.n, .string (bstr v.s), .slice LA v.labels.length lc, .slice A v.l.length c, .pointer p]) (hg : VG R M D v) :
    Calls Tryd.prog 32 #[.agg #[.pointer (some ⟨mb, 0, none⟩)], .pointer (some ⟨b, 0, none⟩), .agg #[.int .i64 v.sort, .int .i64 v.n, .string (bstr v.s), .slice LA v.labels.length lc, .slice A v.l.length c, .pointer p]] w fun e w' => e = .returned (.tuple #[]) ∧ WD wS.heap.size b (partS (decide ((v.l[0]?.getD zV).sort = 5)) (fun c => wrV refs f c (v.l[0]?.getD zV)) (sayL bs [v.s, [32]])) w' ∧ Below wS.heap.size w w' ∧ Keeps w w' := by
  obtain ⟨q1, q2, q3, hb⟩ := three_newS w (boxM mb) (boxW b) (boxV v A c p LA lc)
  have hle := h.le
  have HB := Lib.hid hb
  have HBS := Lib.hid hB
  have hbS : Below wS.heap.size w (((w.alloc (boxM mb)).alloc (boxW b)).alloc (boxV v A c p LA lc)) := hb.mono hB.size
  have c1 : (((w.alloc (boxM mb)).alloc (boxW b)).alloc (boxV v A c p LA lc)).cell? ⟨w.heap.size + 1, 0, none⟩ = some (.pointer (some ⟨b, 0, none⟩)) := by rw [Lib.cell_of_heap q2]; rfl
  obtain ⟨x0, x1, x2, x3, x4, x5⟩ := cells6 q3
  have HF := Lib.hid (Full_any (h.below hb))
  rw [decide_eq_false hq] at HF
  have hl1 := hg.tag_ hs
  obtain ⟨y, hy⟩ : ∃ y, v.l[0]? = some y := ⟨_, List.getElem?_eq_getElem (by omega)⟩
  obtain ⟨csx, hvx, _, _⟩ := hv.vs
  obtain ⟨ab, ao, rfl⟩ := hvx.addr (by omega)
  obtain ⟨_, _, _, _, _, _, g0, _⟩ := hvx.six 0 hy ao (ao + 1) (ao + 2) (ao + 3) (ao + 4) (ao + 5) ⟨by omega, by omega, by omega, by omega, by omega, by omega⟩
  have HQ := Lib.hid (Say_new (h.below hb) (hB.trans hbS).size [v.s, [32]] 2 rfl #[.string (bstr v.s), .string ⟨#[32]⟩] rfl (by simp) (by intro y hy; simp at hy; rcases hy with rfl | rfl; exact hg.txt_; simp))
  have hroom : bs.length + 1 ≤ (sayL bs [v.s, [32]]).length := by
    show bs.length + 1 ≤ (say1 (say1 bs v.s) [32]).length
    rcases Nat.lt_or_ge (say1 bs v.s).length 2000 with q | q
    · have h1 := say1_ge bs v.s
      have : (say1 (say1 bs v.s) [32]).length = (say1 bs v.s).length + 1 := by
        rw [say1, List.length_append, List.length_take]; simp; omega
      omega
    · have := say1_ge (say1 bs v.s) [32]; omega
  have HG := Lib.hid (fun (w1 : World) (hb1 : Below wS.heap.size (((w.alloc (boxM mb)).alloc (boxW b)).alloc (boxV v (some ⟨ab, ao, none⟩) c p LA lc)) w1) => cell_below ((hB.trans hbS).trans hb1) g0)
  have HP0 := Lib.hid (fun (w1 : World) (hk1 : Keeps (((w.alloc (boxM mb)).alloc (boxW b)).alloc (boxV v (some ⟨ab, ao, none⟩) c p LA lc)) w1) => And.intro (hk1 _ _ _ _ q1 (by decide) (by decide)) (And.intro (hk1 _ _ _ _ q2 (by decide) (by decide)) (hk1 _ _ _ _ q3 (by decide) (by decide))))
  have HPT := Lib.hid (fun (w1 : World) (br : Bool) (hd1 : WD wS.heap.size b (sayL bs [v.s, [32]]) w1) (hb1 : Below wS.heap.size (((w.alloc (boxM mb)).alloc (boxW b)).alloc (boxV v (some ⟨ab, ao, none⟩) c p LA lc)) w1) (hk1 : Keeps (((w.alloc (boxM mb)).alloc (boxW b)).alloc (boxV v (some ⟨ab, ao, none⟩) c p LA lc)) w1) => Part2_any hd1 ((hB.trans hbS).trans hb1).size br (.pointer (some ⟨w.heap.size, 0, none⟩)) (.pointer (some ⟨w.heap.size + 1, 0, none⟩)) (.pointer (some ⟨w.heap.size + 1 + 1, 0, none⟩)) (fun c => wrV refs f c (v.l[0]?.getD zV))
    (fun bs1 w2 he hd2 hb2 hk2 => clo2_any hI (by rcases he with rfl | rfl; omega; have := say1_ge (sayL bs [v.s, [32]]) [40]; omega) hd2 (((hB.trans hbS).trans hb1).trans hb2) hv hg (hk2 _ _ _ _ (hk1 _ _ _ _ q1 (by decide) (by decide)) (by decide) (by decide)) (hk2 _ _ _ _ (hk1 _ _ _ _ q2 (by decide) (by decide)) (by decide) (by decide)) (hk2 _ _ _ _ (hk1 _ _ _ _ q3 (by decide) (by decide)) (by decide) (by decide)) hl1))
  rw [hs] at x0
  rw [hy, Option.getD_some] at HPT ⊢
  have hbb : ((y.sort : Int) == 5) = decide (y.sort = 5) := by by_cases q : y.sort = 5 <;> simp [q]
  have HBB := Lib.hid hbb
  have HL1 := Lib.hid hl1
  clear h hI hB hv hg q1 q2 q3 hb hbS hq hs hle hr hroom hvx hy g0 hbb hl1
  go_enter Tryd.func32, Tryd.ntmps32
  go_upto_region 12 with (go_at_call 46; (with_reducible refine HF.out.mono ?_); rintro e1 w1 ⟨rfl, rfl⟩)
  generalize hW1 : (((w.alloc (boxM mb)).alloc (boxW b)).alloc (boxV v (some ⟨ab, ao, none⟩) c p LA lc)) = W1 at *
  clear hW1
  go_upto_region 13 with (go_at_call 47; (with_reducible refine HQ.out.mono ?_); rintro e1 w1 ⟨rfl, hd, hb, hk⟩; have HP := Lib.hid (And.intro hd (And.intro hb hk)); clear hd hb hk)
  obtain ⟨e1, e2, e3⟩ := HP0.out _ HP.out.2.2
  have d1 : w1.cell? ⟨w.heap.size + 1, 0, none⟩ = some (.pointer (some ⟨b, 0, none⟩)) := by rw [Lib.cell_of_heap e2]; rfl
  obtain ⟨y0, y1, y2, y3, y4, y5⟩ := cells6 e3
  rw [HL1.out] at y4
  have y6 := HG.out _ HP.out.2.1
  have HPP := Lib.hid (fun (hb9 : Below w1.heap.size w1 w1.drew) => HPT.out w1.drew (decide (y.sort = 5)) (HP.out.1.below hb9) (HP.out.2.1.drew) (HP.out.2.2.trans (Keeps.of_below hb9)))
  rw [← HBB.out] at HPP
  clear e1 e2 e3 x0 x1 x2 x3 x4 x5 c1
  go_still_tail 8, (by kernel_rfl)
  change wpList _ _ _ _ _ _
  go_wp2_with (go_at_call 52; (with_reducible refine (HPP.out (below_drew1 _)).mono ?_); rintro e1 w2 ⟨rfl, hp⟩; have HP9 := Lib.hid hp; clear hp)
  all_goals
    go_wp2_with fail
    go_returns
    have h9 := HP9.out
    rw [HBB.out] at h9
    exact ⟨rfl, h9.1, (HB.out.mono HBS.out.size).trans (HP.out.2.1.drew.trans h9.2.1), (Keeps.of_below HB.out).trans ((HP.out.2.2.trans (Keeps.of_below (below_drew1 _))).trans h9.2.2)⟩
end
end Go.Proofs.YtjmgnohepoacbaaDoor
