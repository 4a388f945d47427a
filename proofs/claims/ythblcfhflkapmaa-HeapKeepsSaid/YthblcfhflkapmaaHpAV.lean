/-
  Deeds that came in.
-/
import Derived.Test.YthblcfhflkapmaaHpAS
import Derived.Test.YthblcfhflkapmaaOpen
namespace Go.Proofs.Ythblcfhflkapmaa
open Go Go.ChangeShapes Go.WideShapes Go.ChangeAt Go.RowKit Go.Sort
set_option linter.unusedVariables false
set_option linter.unusedSimpArgs false

section
variable {H : Type} {enc : TypeId × Value → H} {W : World} {base : Nat} {sp : Nat → Bool} {held : Bool}
theorem wf_I64 {m : Int} (h : (Lit.int .i64 m).wf = true) : I64 m := by
  simpa [I64, Lit.wf, IntKind.min, IntKind.max, IntKind.signed, IntKind.bits] using h
theorem wc_flat (l : List Wd) : l.flatMap (fun p => [Value.bool p.ptr, Value.int .i64 p.v]) = wcells l := by
  induction l with
  | nil => rfl
  | cons x r ih => simp only [List.flatMap_cons, ih]; rfl
theorem open_wds {fuel : Nat} {cs : List Value} {x : DataW H × List MemPlace} (hf : DataW.trod enc Try.prog W base sp held fuel 34 cs = some x) :
    ∃ (A : Option Addr) (c : Nat) (l : List Wd), cs = [.slice A l.length c] ∧ Rd W 2 A l.length (wcells l) ∧ ∀ u ∈ l, I64 u.v := by
  obtain ⟨A, n, c, l, h1, h2, h3, h4, h5, _, h6⟩ := open_row (α := Wd) (cells := fun p => [.bool p.ptr, .int .i64 p.v]) (good := fun p => I64 p.v) Try.underlying34 (by kernel_rfl : Try.prog.cellsOf 36 = 2) (fun _ => rfl) (by omega)
    (fun n cs x hx => by
      obtain ⟨y0, y1, k, _, hl, e0, e1⟩ := trod_struct2 Try.underlying36 hx
      have hC : Try.prog.cellsOf 36 = 2 := by kernel_rfl
      have hCb : Try.prog.cellsOf 4 = 1 := by kernel_rfl
      have hCi : Try.prog.cellsOf 2 = 1 := by kernel_rfl
      rw [hC] at hl
      match cs, hl with
      | [c0, c1], _ =>
        simp [hCb] at e0
        simp [hCi] at e1
        obtain ⟨b, hb, _⟩ := DataW.trod_bool Try.underlying4 e0
        obtain ⟨m, hm, _, hw⟩ := DataW.trod_int Try.underlying2 e1
        simp only [List.cons.injEq, and_true] at hb hm
        subst hb
        subst hm
        exact ⟨⟨b, m⟩, rfl, wf_I64 hw⟩) hf
  subst h4
  exact ⟨A, c, l, h1, by rw [← wc_flat]; exact h5, h6⟩
theorem open_wd {fuel : Nat} {cs : List Value} {x : DataW H × List MemPlace} (hx : DataW.trod enc Try.prog W base sp held fuel 36 cs = some x) : ∃ u : Wd, cs = [.bool u.ptr, .int .i64 u.v] := by
  obtain ⟨y0, y1, k, _, hl, e0, e1⟩ := trod_struct2 Try.underlying36 hx
  have hC : Try.prog.cellsOf 36 = 2 := by kernel_rfl
  have hCb : Try.prog.cellsOf 4 = 1 := by kernel_rfl
  have hCi : Try.prog.cellsOf 2 = 1 := by kernel_rfl
  rw [hC] at hl
  match cs, hl with
  | [c0, c1], _ =>
    simp [hCb] at e0
    simp [hCi] at e1
    obtain ⟨b, hb, _⟩ := DataW.trod_bool Try.underlying4 e0
    obtain ⟨m, hm, _, hw⟩ := DataW.trod_int Try.underlying2 e1
    simp only [List.cons.injEq, and_true] at hb hm
    subst hb
    subst hm
    exact ⟨⟨b, m⟩, rfl⟩
theorem open_ints {t e : TypeId} {fuel : Nat} {cs : List Value} {x : DataW H × List MemPlace} (ht : Try.prog.underlying t = some (.slice e)) (he : Try.prog.underlying e = some (.int .i64)) (hC : Try.prog.cellsOf e = 1)
    (hf : DataW.trod enc Try.prog W base sp held fuel t cs = some x) :
    ∃ (A : Option Addr) (c : Nat) (l : List Int), cs = [.slice A l.length c] ∧ Rd W 1 A l.length (icells l) ∧ ∀ y ∈ l, I64 y := by
  obtain ⟨A, n, c, l, h1, h2, h3, h4, h5, _, h6⟩ := open_row (α := Int) (cells := fun m => [.int .i64 m]) (good := I64) ht hC (fun _ => rfl) (by omega)
    (fun n cs x hx => by
      obtain ⟨m, rfl, _, hm⟩ := DataW.trod_int he hx
      exact ⟨m, rfl, wf_I64 hm⟩) hf
  subst h4
  refine ⟨A, c, l, h1, ?_, h6⟩
  have e : icells l = l.flatMap fun n => [.int .i64 n] := by
    clear h5 h6 h1 h2
    induction l with
    | nil => rfl
    | cons x r ih => simp [icells] at ih ⊢; exact ih
  rw [e]
  exact h5
set_option maxRecDepth 100000 in
theorem open_deed {fuel : Nat} {cs : List Value} {x : DataW H × List MemPlace} (h : DataW.trod enc Try.prog W base sp held fuel 38 cs = some x) :
    ∃ d : Dd, d.cells = cs ∧ Rd W 2 d.A d.l.length (wcells d.l) ∧ ∀ u ∈ d.l, I64 u.v := by
  obtain ⟨xs, n, _, hx, hl, hlen, hg⟩ := DataW.trod_struct Try.underlying38 h
  have hC : Try.prog.cellsOf 38 = 8 := by kernel_rfl
  have hCb : Try.prog.cellsOf 4 = 1 := by kernel_rfl
  have hCi : Try.prog.cellsOf 3 = 1 := by kernel_rfl
  have hCw : Try.prog.cellsOf 36 = 2 := by kernel_rfl
  have hCs : Try.prog.cellsOf 34 = 1 := by kernel_rfl
  rw [hC] at hl
  match cs, hl, xs, hlen with
  | [c0, c1, c2, c3, c4, c5, c6, c7], _, [y0, y1, y2, y3, y4, y5, y6], _ =>
    have e0 := hg 0 _ rfl
    have e1 := hg 1 _ rfl
    have e2 := hg 2 _ rfl
    have e3 := hg 3 _ rfl
    have e4 := hg 4 _ rfl
    have e5 := hg 5 _ rfl
    have e6 := hg 6 _ rfl
    simp [hCi] at e0 e1 e2 e3
    simp [hCb] at e4
    simp [hCw] at e5
    simp [hCs] at e6
    obtain ⟨a0, h0, _, _⟩ := DataW.trod_int Try.underlying3 e0
    obtain ⟨a1, h1, _, _⟩ := DataW.trod_int Try.underlying3 e1
    obtain ⟨a2, h2, _, _⟩ := DataW.trod_int Try.underlying3 e2
    obtain ⟨a3, h3, _, _⟩ := DataW.trod_int Try.underlying3 e3
    obtain ⟨a4, h4, _⟩ := DataW.trod_bool Try.underlying4 e4
    obtain ⟨u, h5⟩ := open_wd e5
    obtain ⟨A, c, l, h6, r1, r2⟩ := open_wds e6
    simp only [List.cons.injEq, and_true] at h0 h1 h2 h3 h4 h5 h6
    obtain ⟨rfl, rfl⟩ := h5
    subst h0 h1 h2 h3 h4 h6
    exact ⟨⟨a0, a1, a2, a3, a4, u, A, c, l⟩, rfl, r1, r2⟩
theorem dd_len (d : Dd) : d.cells.length = 8 := rfl
theorem open_deeds {fuel : Nat} {cs : List Value} {x : DataW H × List MemPlace} (hf : DataW.trod enc Try.prog W base sp held fuel 22 cs = some x) :
    ∃ (A : Option Addr) (c : Nat) (l : List Dd), cs = [.slice A l.length c] ∧ DR W A l := by
  obtain ⟨A, n, c, l, h1, h2, h3, h4, h5, _, h6⟩ := open_row (α := Dd) (cells := Dd.cells) (good := fun d => Rd W 2 d.A d.l.length (wcells d.l) ∧ ∀ u ∈ d.l, I64 u.v) Try.underlying22 (by kernel_rfl : Try.prog.cellsOf 38 = 8) dd_len (by omega)
    (fun n cs x hx => open_deed hx) hf
  subst h4
  exact ⟨A, c, l, h1, ⟨h5, fun d hd => (h6 d hd).1, fun d hd => (h6 d hd).2⟩⟩
end
end Go.Proofs.Ythblcfhflkapmaa
