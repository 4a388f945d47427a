/-
  Images as they lie in memory, and images that came in.
-/
import Derived.Test.YthdnnlelmelegaaCodeMath
import Derived.Test.YthdnnlelmelegaaOpen
import Derived.Deep.Strs
namespace Go.Proofs.Ythdnnlelmelegaa
open Go.ChangeShapes Go.WideShapes Go.ChangeAt Go.RowKit
set_option linter.unusedVariables false

/-- The cells of a list of integers. -/
def i64s (l : List Int) : List Value := l.map fun n => .int .i64 n
theorem i64s_length (l : List Int) : (i64s l).length = l.length := by simp [i64s]
theorem i64s_at (l : List Int) (k : Nat) (h : k < l.length) : (i64s l)[k]? = some (.int .i64 l[k]) := by simp [i64s, h]
theorem i64s_flat (l : List Int) : i64s l = l.flatMap fun n => [.int .i64 n] := by
  induction l with
  | nil => rfl
  | cons x r ih => simp [i64s] at ih ⊢; exact ih
theorem strs_flat (l : List Str) : strs l = l.flatMap fun b => [.string (bstr b)] := by
  induction l with
  | nil => rfl
  | cons x r ih => simp [strs] at ih ⊢; exact ih

abbrev inRange (n : Int) : Prop := -9223372036854775808 ≤ n ∧ n < 9223372036854775808

/-- An instruction, and where its numbers lie; a function, and where its instructions lie. -/
structure AIns where
  op : Int
  a : Int
  A : Option Addr
  n : Nat
  c : Nat
  l : List Int
structure AFnc where
  regs : Int
  caps : Int
  A : Option Addr
  n : Nat
  c : Nat
  code : List AIns
def AIns.cells (x : AIns) : List Value := [.int .i64 x.op, .int .i64 x.a, .slice x.A x.n x.c]
def AFnc.cells (x : AFnc) : List Value := [.int .i64 x.regs, .int .i64 x.caps, .slice x.A x.n x.c]
def AIns.ins (x : AIns) : Ins := ⟨x.op, x.a, x.l⟩
def AFnc.fnc (x : AFnc) : Fnc := ⟨x.regs, x.caps, x.code.map AIns.ins⟩

structure AIns.In (w : World) (x : AIns) : Prop where
  op : inRange x.op
  a : inRange x.a
  rd : Rd w 1 x.A x.n (i64s x.l)
  cap : x.n ≤ x.c ∧ x.c ≤ maxLen
  sz : x.n ≤ 140737488351232
  all : ∀ n ∈ x.l, inRange n
structure AFnc.In (w : World) (x : AFnc) : Prop where
  regs : inRange x.regs
  caps : inRange x.caps
  rd : Rd w 3 x.A x.n (x.code.flatMap AIns.cells)
  cap : x.n ≤ x.c ∧ x.c ≤ maxLen
  sz : x.n ≤ 140737488351232
  all : ∀ y ∈ x.code, y.In w
theorem AIns.In.below {w w' : World} {x : AIns} (h : x.In w) (hb : Below w.heap.size w w') : x.In w' := ⟨h.op, h.a, h.rd.below hb, h.cap, h.sz, h.all⟩
theorem AFnc.In.below {w w' : World} {x : AFnc} (h : x.In w) (hb : Below w.heap.size w w') : x.In w' := ⟨h.regs, h.caps, h.rd.below hb, h.cap, h.sz, fun y hy => (h.all y hy).below hb⟩

/-- An image, and where its lists lie. -/
structure AImg where
  iA : Option Addr
  iN : Nat
  iC : Nat
  ints : List Int
  tA : Option Addr
  tN : Nat
  tC : Nat
  texts : List Str
  fA : Option Addr
  fN : Nat
  fC : Nat
  funs : List AFnc
def AImg.value (m : AImg) : Value := .agg #[.slice m.iA m.iN m.iC, .slice m.tA m.tN m.tC, .slice m.fA m.fN m.fC]
def AImg.img (m : AImg) : Img := ⟨m.ints, m.texts, m.funs.map AFnc.fnc⟩
structure AImg.In (w : World) (m : AImg) : Prop where
  ints : Rd w 1 m.iA m.iN (i64s m.ints)
  icap : m.iN ≤ m.iC ∧ m.iC ≤ maxLen
  isz : m.iN ≤ 140737488351232
  iall : ∀ n ∈ m.ints, inRange n
  texts : Rd w 1 m.tA m.tN (strs m.texts)
  tcap : m.tN ≤ m.tC ∧ m.tC ≤ maxLen
  tsz : m.tN ≤ 140737488351232
  tall : ∀ s ∈ m.texts, s.length ≤ maxLen
  funs : Rd w 3 m.fA m.fN (m.funs.flatMap AFnc.cells)
  fcap : m.fN ≤ m.fC ∧ m.fC ≤ maxLen
  fsz : m.fN ≤ 140737488351232
  fall : ∀ f ∈ m.funs, f.In w
theorem AImg.In.below {w w' : World} {m : AImg} (h : m.In w) (hb : Below w.heap.size w w') : m.In w' :=
  ⟨h.ints.below hb, h.icap, h.isz, h.iall, h.texts.below hb, h.tcap, h.tsz, h.tall, h.funs.below hb, h.fcap, h.fsz, fun f hf => (h.fall f hf).below hb⟩

section
variable {H : Type} {enc : TypeId × Value → H} {W : World} {base : Nat} {sp : Nat → Bool} {held : Bool}

theorem wf_i64 {m : Int} (h : (Lit.int .i64 m).wf = true) : inRange m := by
  have hr : -9223372036854775808 ≤ m ∧ m ≤ 9223372036854775807 := by simpa [Lit.wf, IntKind.min, IntKind.max, IntKind.signed, IntKind.bits] using h
  exact ⟨hr.1, by have := hr.2; omega⟩

theorem open_i64s {t e : TypeId} {fuel : Nat} {cs : List Value} {x : DataW H × List MemPlace} (ht : Try.prog.underlying t = some (.slice e)) (he : Try.prog.underlying e = some (.int .i64)) (hC : Try.prog.cellsOf e = 1) (hz : Try.prog.bytesOf e = 8)
    (hf : DataW.trod enc Try.prog W base sp held fuel t cs = some x) (hB : ∀ q ∈ DataW.weights Try.prog t x.1, q ≤ 140737488351232) :
    ∃ (A : Option Addr) (n c : Nat) (l : List Int), cs = [.slice A n c] ∧ (n ≤ c ∧ c ≤ maxLen) ∧ n ≤ 140737488351232 ∧ Rd W 1 A n (i64s l) ∧ ∀ y ∈ l, inRange y := by
  obtain ⟨A, n, c, l, h1, h2, h3, h4, hs, h5, _, h6⟩ := open_rowZ 140737488351232 (α := Int) (cells := fun m => [.int .i64 m]) (good := inRange) ht hC (fun _ => rfl) (by omega)
    (fun n cs x hx _ => by
      obtain ⟨m, rfl, _, hm⟩ := DataW.trod_int he hx
      exact ⟨m, rfl, wf_i64 hm⟩) hf hB
  rw [hz] at hs
  exact ⟨A, n, c, l, h1, ⟨h2, h3⟩, by omega, by rw [i64s_flat]; exact h5, h6⟩

theorem open_ins {fuel : Nat} {cs : List Value} {x : DataW H × List MemPlace} (hf : DataW.trod enc Try.prog W base sp held fuel 47 cs = some x) (hB : ∀ q ∈ DataW.weights Try.prog 47 x.1, q ≤ 140737488351232) : ∃ y : AIns, y.cells = cs ∧ y.In W := by
  obtain ⟨y0, y1, y2, k, hx, hl, e0, e1, e2⟩ := Go.Deep.trod_struct3 Try.underlying47 hf
  have hC : Try.prog.cellsOf 47 = 3 := by kernel_rfl
  have hCi : Try.prog.cellsOf 3 = 1 := by kernel_rfl
  have hCs : Try.prog.cellsOf 45 = 1 := by kernel_rfl
  have hB2 : ∀ q ∈ DataW.weights Try.prog 45 y2.1, q ≤ 140737488351232 := fun q hq => hB q (by
    rw [hx]
    simp only [DataW.weights, Try.underlying47]
    show q ∈ DataW.weightsEach _ [_, _, _] [y0.1, y1.1, y2.1]
    simp only [DataW.weightsEach, List.mem_append]
    exact .inr (.inr (.inl hq)))
  rw [hC] at hl
  match cs, hl with
  | [c0, c1, c2], _ =>
    simp [hCi] at e0 e1
    simp [hCs] at e2
    obtain ⟨op, h0, _, w0⟩ := DataW.trod_int Try.underlying3 e0
    obtain ⟨a, h1, _, w1⟩ := DataW.trod_int Try.underlying3 e1
    obtain ⟨A, n, c, l, h2, hcap, hsz, hrd, hall⟩ := open_i64s Try.underlying45 Try.underlying3 hCi (by kernel_rfl) e2 hB2
    simp only [List.cons.injEq, and_true] at h0 h1 h2
    subst h0
    subst h1
    subst h2
    exact ⟨⟨op, a, A, n, c, l⟩, rfl, wf_i64 w0, wf_i64 w1, hrd, hcap, hsz, hall⟩

theorem open_fnc {fuel : Nat} {cs : List Value} {x : DataW H × List MemPlace} (hf : DataW.trod enc Try.prog W base sp held fuel 44 cs = some x) (hB : ∀ q ∈ DataW.weights Try.prog 44 x.1, q ≤ 140737488351232) : ∃ y : AFnc, y.cells = cs ∧ y.In W := by
  obtain ⟨y0, y1, y2, k, hx, hl, e0, e1, e2⟩ := Go.Deep.trod_struct3 Try.underlying44 hf
  have hC : Try.prog.cellsOf 44 = 3 := by kernel_rfl
  have hCi : Try.prog.cellsOf 3 = 1 := by kernel_rfl
  have hCs : Try.prog.cellsOf 42 = 1 := by kernel_rfl
  have hCx : Try.prog.cellsOf 47 = 3 := by kernel_rfl
  have hZx : Try.prog.bytesOf 47 = 40 := by kernel_rfl
  have hB2 : ∀ q ∈ DataW.weights Try.prog 42 y2.1, q ≤ 140737488351232 := fun q hq => hB q (by
    rw [hx]
    simp only [DataW.weights, Try.underlying44]
    show q ∈ DataW.weightsEach _ [_, _, _] [y0.1, y1.1, y2.1]
    simp only [DataW.weightsEach, List.mem_append]
    exact .inr (.inr (.inl hq)))
  rw [hC] at hl
  match cs, hl with
  | [c0, c1, c2], _ =>
    simp [hCi] at e0 e1
    simp [hCs] at e2
    obtain ⟨op, h0, _, w0⟩ := DataW.trod_int Try.underlying3 e0
    obtain ⟨a, h1, _, w1⟩ := DataW.trod_int Try.underlying3 e1
    obtain ⟨A, n, c, l, h2, hcap1, hcap2, hlen, hsz, hrd, _, hall⟩ := open_rowZ 140737488351232 (α := AIns) (cells := AIns.cells) (good := fun y => y.In W) Try.underlying42 hCx (fun _ => rfl) (by omega) (fun n cs x hx hb => open_ins hx hb) e2 hB2
    rw [hZx] at hsz
    simp only [List.cons.injEq, and_true] at h0 h1 h2
    subst h0
    subst h1
    subst h2
    exact ⟨⟨op, a, A, n, c, l⟩, rfl, wf_i64 w0, wf_i64 w1, hrd, ⟨hcap1, hcap2⟩, by show n ≤ _; omega, hall⟩

/-- An image that came in. -/
theorem open_img {b0 : Nat} {r : Reach} {v : Value} {d : DataW H} {ps : List MemPlace} (hv : Value.okWide Try.prog W r b0 26 v) (h : DataW.Trod enc Try.prog W base sp held 26 v d ps)
    (hB : ∀ q ∈ DataW.weights Try.prog 26 d, q ≤ 140737488351232) :
    ∃ m : AImg, v = m.value ∧ m.In W := by
  obtain ⟨v0, v1, v2, y0, y1, y2, k, rfl, rfl, _, e0, e1, e2⟩ := Joins.open_agg3 Try.underlying26 (by kernel_rfl) (by kernel_rfl) hv h
  have hCi : Try.prog.cellsOf 2 = 1 := by kernel_rfl
  have hCx : Try.prog.cellsOf 44 = 3 := by kernel_rfl
  have hCs : Try.prog.cellsOf 9 = 1 := by kernel_rfl
  have hZx : Try.prog.bytesOf 44 = 40 := by kernel_rfl
  have hZs : Try.prog.bytesOf 9 = 16 := by kernel_rfl
  have hBB : ∀ q ∈ DataW.weightsEach Try.prog [22, 23, 24] [y0.1, y1.1, y2.1], q ≤ 140737488351232 := fun q hq => hB q (by
    simp only [DataW.weights, Try.underlying26]
    exact hq)
  simp only [DataW.weightsEach, List.mem_append] at hBB
  obtain ⟨iA, iN, iC, ints, h0, icap, isz, ird, iall⟩ := open_i64s Try.underlying22 Try.underlying2 hCi (by kernel_rfl) e0 (fun q hq => hBB q (.inl hq))
  obtain ⟨tA, tN, tC, texts, h1, tcap1, tcap2, _, tsz, trd, _, tall⟩ := open_rowZ 140737488351232 (α := Str) (cells := fun b => [.string (bstr b)]) (good := fun s => s.length ≤ maxLen) Try.underlying23 hCs (fun _ => rfl) (by omega)
    (fun n cs x hx _ => by
      obtain ⟨s, rfl, _, hw⟩ := DataW.trod_string Try.underlying9 hx
      refine ⟨s.data.toList, by rw [bstr_of], ?_⟩
      have e : s.data.toList.length = s.size := by rw [Array.length_toList]; rfl
      rw [e]; exact hw) e1 (fun q hq => hBB q (.inr (.inl hq)))
  obtain ⟨fA, fN, fC, funs, h2, fcap1, fcap2, _, fsz, frd, _, fall⟩ := open_rowZ 140737488351232 (α := AFnc) (cells := AFnc.cells) (good := fun y => y.In W) Try.underlying24 hCx (fun _ => rfl) (by omega) (fun n cs x hx hb => open_fnc hx hb) e2 (fun q hq => hBB q (.inr (.inr (.inl hq))))
  rw [hZs] at tsz
  rw [hZx] at fsz
  simp only [List.cons.injEq, and_true] at h0 h1 h2
  subst h0
  subst h1
  subst h2
  exact ⟨⟨iA, iN, iC, ints, tA, tN, tC, texts, fA, fN, fC, funs⟩, rfl, ird, icap, isz, iall, by rw [strs_flat]; exact trd, ⟨tcap1, tcap2⟩, by show tN ≤ _; omega, tall, frd, ⟨fcap1, fcap2⟩, by show fN ≤ _; omega, fall⟩
end
end Go.Proofs.Ythdnnlelmelegaa
