/-
  Expressions that came in, opened.
-/
import Derived.Test.YtaglmmcjhlehjaaDoorExA
import Derived.Test.YtaglmmcjhlehjaaDoorStrOpen
import Derived.Test.YtaglmmcjhlehjaaDoorRows
import Derived.Deep.Slices
import Derived.Deep.Fields
import Derived.Lib.SmallJoins
namespace Go.Proofs.YtaglmmcjhlehjaaDoor
open Go.ChangeShapes Go.WideShapes Go.ChangeAt Go.RowKit Go.Sort Go.Maps Go.Deep
set_option linter.unusedVariables false
set_option linter.unusedSimpArgs false

theorem bulk_pos {H : Type} (d : DataW H) : 1 ≤ Rows.uptoBulk d := by
  cases d with
  | lit l => cases l <;> simp [Rows.uptoBulk]
  | _ => simp [Rows.uptoBulk]
theorem bulk_app {H : Type} (l r : List (DataW H)) : Rows.uptoBulkAll (l ++ r) = Rows.uptoBulkAll l + Rows.uptoBulkAll r := by
  induction l with
  | nil => simp [Rows.uptoBulkAll]
  | cons x l ih => simp only [List.cons_append, Rows.uptoBulkAll, ih]; omega
theorem bulk_mem {H : Type} {d : DataW H} : ∀ {l : List (DataW H)}, d ∈ l → Rows.uptoBulk d ≤ Rows.uptoBulkAll l
  | [], h => by cases h
  | x :: r, h => by
    simp only [Rows.uptoBulkAll]
    rcases List.mem_cons.1 h with rfl | h
    · omega
    · have := bulk_mem h; omega
theorem bulk_len {H : Type} : ∀ (l : List (DataW H)), l.length ≤ Rows.uptoBulkAll l
  | [] => by simp
  | x :: r => by have := bulk_pos x; have := bulk_len r; simp only [Rows.uptoBulkAll, List.length_cons]; omega

section
variable {H : Type} {enc : TypeId × Value → H} {P : Program} {W : World} {base : Nat} {sp : Nat → Bool} {held : Bool}

/-- A slice's elements under a bound on what is read; 'wt': what an element weighs. -/
theorem open_rowU {α : Type} {cells : α → List Value} {good : α → Prop} (wt : α → Nat) (B : Nat) {t e : TypeId} {size : Nat} (ht : P.underlying t = some (.slice e)) (hC : P.cellsOf e = size) (hsz : ∀ y, (cells y).length = size)
    (hel : ∀ (n : Nat) (cs : List Value) (x : DataW H × List MemPlace), DataW.trod enc P W base sp held n e cs = some x → Rows.uptoBulk x.1 ≤ B → ∃ y, cells y = cs ∧ good y ∧ wt y ≤ Rows.uptoBulk x.1)
    {fuel : Nat} {cs : List Value} {x : DataW H × List MemPlace} (hf : DataW.trod enc P W base sp held fuel t cs = some x) (hB : Rows.uptoBulk x.1 ≤ B + 1) :
    ∃ (A : Option Addr) (n c : Nat) (l : List α), cs = [.slice A n c] ∧ n ≤ c ∧ c ≤ maxLen ∧ l.length = n ∧ Rd W size A n (l.flatMap cells) ∧ (∀ y ∈ l, good y) ∧ n + 1 ≤ Rows.uptoBulk x.1 ∧ (l.map wt).sum + 1 ≤ Rows.uptoBulk x.1 := by
  rcases Go.Deep.open_slice ht hf with ⟨hcs, hx⟩ | ⟨a, n, c, m, k, D, Pl, hcs, _, hl, hm, hmm, hx, hi⟩
  · have := bulk_pos x.1
    exact ⟨none, 0, 0, [], hcs, Nat.le_refl _, by simp [maxLen], rfl, Rd.nil _ _ _, (fun y hy => by cases hy), by omega, by simpa using this⟩
  · rw [hC] at hi
    have hlm : n ≤ m := by rw [hmm]; split <;> omega
    have hbx : Rows.uptoBulkAll ((List.range n).map D) + 1 ≤ Rows.uptoBulk x.1 := by
      rw [hx]
      simp only [Rows.uptoBulk]
      omega
    have hD : ∀ i, i < n → Rows.uptoBulk (D i) ≤ B := fun i hi' => by
      have := bulk_mem (List.mem_map.2 ⟨i, List.mem_range.2 hi', rfl⟩ : D i ∈ (List.range n).map D)
      omega
    have key : ∀ q, q ≤ n → ∃ l : List α, l.length = q ∧ (∀ y ∈ l, good y) ∧ Held W a (l.flatMap cells) ∧ (l.map wt).sum ≤ Rows.uptoBulkAll ((List.range q).map D) := by
      intro q
      induction q with
      | zero => intro _; exact ⟨[], rfl, (fun y hy => by cases hy), (fun j u hu => by simp at hu), by simp⟩
      | succ q ih =>
        intro hq
        obtain ⟨l, hlen, hg, hh, hw⟩ := ih (by omega)
        obtain ⟨cs', hc, htr⟩ := hi q (by omega)
        obtain ⟨y, rfl, hy, hwy⟩ := hel _ _ _ htr (hD q (by omega))
        obtain ⟨_, hcl, hat⟩ := World.cells?_some hc
        have hfl : (l.flatMap cells).length = q * size := by rw [flat_len hsz, hlen]
        refine ⟨l ++ [y], by simp [hlen], ?_, ?_, ?_⟩
        · intro z hz
          rcases List.mem_append.1 hz with hz | hz
          · exact hg z hz
          · simp at hz; subst hz; exact hy
        · intro j u hu
          simp only [List.flatMap_append, List.flatMap_cons, List.flatMap_nil, List.append_nil] at hu
          rw [List.getElem?_append] at hu
          split at hu
          · exact hh j u hu
          · rename_i hj
            rw [hfl] at hu hj
            have hjs : j - q * size < size := by
              have := (List.getElem?_eq_some_iff.1 hu).1; rw [hsz] at this; omega
            have := hat _ hjs
            rw [Go.Proofs.YtaglmmcjhlehjaaDoor.add_add, show q * size + (j - q * size) = j from by omega] at this
            rw [this, hu]
        · simp only [List.range_succ, List.map_append, bulk_app, List.sum_append, List.map_cons, List.map_nil, List.sum_cons, List.sum_nil, Rows.uptoBulkAll]
          have h1 : wt y ≤ Rows.uptoBulk (D q) := hwy
          omega
    obtain ⟨l, hlen, hg, hh, hw⟩ := key n (Nat.le_refl _)
    have hln := bulk_len ((List.range n).map D)
    rw [List.length_map, List.length_range] at hln
    exact ⟨some a, n, c, l, hcs, hl, hm, hlen, ⟨by rw [flat_len hsz, hlen], fun _ => ⟨a, rfl, hh⟩⟩, hg, by omega, by omega⟩
end


section
variable {H : Type} {enc : TypeId × Value → H} {W : World} {base : Nat} {sp : Nat → Bool} {held : Bool}
theorem strs_of (l : List Str) : l.flatMap (fun b => [Value.string (bstr b)]) = strs l := by
  induction l with
  | nil => rfl
  | cons x r ih => simp only [List.flatMap_cons, ih]; rfl
theorem openB_strs {fuel : Nat} {cs : List Value} {x : DataW H × List MemPlace} (hf : DataW.trod enc Tryd.prog W base sp held fuel 22 cs = some x) :
    ∃ (A : Option Addr) (n c : Nat) (l : List Str), cs = [.slice A n c] ∧ n ≤ c ∧ c ≤ maxLen ∧ l.length = n ∧ Rd W 1 A n (strs l) ∧ ∀ y ∈ l, y.length ≤ maxLen := by
  obtain ⟨A, n, c, l, h1, h2, h3, h4, h5, hg, h6, _⟩ := open_rowU (α := Str) (cells := fun b => [.string (bstr b)]) (good := fun y => y.length ≤ maxLen) (fun _ => 0) (Rows.uptoBulk x.1) Tryd.underlying22 (by kernel_rfl : Tryd.prog.cellsOf 9 = 1) (fun _ => rfl)
    (fun n cs x hx _ => by
      obtain ⟨s, rfl, _, hw⟩ := DataW.trod_string Tryd.underlying9 hx
      exact ⟨s.data.toList, by rw [bstr_of], (by rw [Array.length_toList]; exact hw), Nat.zero_le _⟩) hf (by omega)
  exact ⟨A, n, c, l, h1, h2, h3, h4, by rw [← strs_of]; exact h5, hg⟩
set_option maxRecDepth 100000 in
theorem trod8 {t : TypeId} {f0 f1 f2 f3 f4 f5 f6 f7 : Field} {fuel : Nat} {cs : List Value} {x : DataW H × List MemPlace} (hs : Tryd.prog.underlying t = some (.struct #[f0, f1, f2, f3, f4, f5, f6, f7])) (hone : oneCellFields Tryd.prog #[f0, f1, f2, f3, f4, f5, f6, f7] = true) (hC : Tryd.prog.cellsOf t = 8) (h : DataW.trod enc Tryd.prog W base sp held fuel t cs = some x) :
    ∃ c0 c1 c2 c3 c4 c5 c6 c7 y0 y1 y2 y3 y4 y5 y6 y7 n, cs = [c0, c1, c2, c3, c4, c5, c6, c7] ∧ x.1 = .agg [y0.1, y1.1, y2.1, y3.1, y4.1, y5.1, y6.1, y7.1] ∧ DataW.trod enc Tryd.prog W base sp held n f0.type [c0] = some y0 ∧ DataW.trod enc Tryd.prog W base sp held n f1.type [c1] = some y1 ∧ DataW.trod enc Tryd.prog W base sp held n f2.type [c2] = some y2 ∧ DataW.trod enc Tryd.prog W base sp held n f3.type [c3] = some y3 ∧ DataW.trod enc Tryd.prog W base sp held n f4.type [c4] = some y4 ∧ DataW.trod enc Tryd.prog W base sp held n f5.type [c5] = some y5 ∧ DataW.trod enc Tryd.prog W base sp held n f6.type [c6] = some y6 ∧ DataW.trod enc Tryd.prog W base sp held n f7.type [c7] = some y7 := by
  obtain ⟨xs, n, _, hx, hl, hlen, hg⟩ := DataW.trod_struct hs h
  obtain ⟨o0, k0⟩ := hone_of hone 0 f0 rfl
  obtain ⟨o1, k1⟩ := hone_of hone 1 f1 rfl
  obtain ⟨o2, k2⟩ := hone_of hone 2 f2 rfl
  obtain ⟨o3, k3⟩ := hone_of hone 3 f3 rfl
  obtain ⟨o4, k4⟩ := hone_of hone 4 f4 rfl
  obtain ⟨o5, k5⟩ := hone_of hone 5 f5 rfl
  obtain ⟨o6, k6⟩ := hone_of hone 6 f6 rfl
  obtain ⟨o7, k7⟩ := hone_of hone 7 f7 rfl
  match cs, hl.trans hC, xs, hlen with
  | [c0, c1, c2, c3, c4, c5, c6, c7], _, [y0, y1, y2, y3, y4, y5, y6, y7], _ => exact ⟨c0, c1, c2, c3, c4, c5, c6, c7, y0, y1, y2, y3, y4, y5, y6, y7, n, rfl, by rw [hx]; rfl, by simpa [o0, k0] using hg 0 f0 rfl, by simpa [o1, k1] using hg 1 f1 rfl, by simpa [o2, k2] using hg 2 f2 rfl, by simpa [o3, k3] using hg 3 f3 rfl, by simpa [o4, k4] using hg 4 f4 rfl, by simpa [o5, k5] using hg 5 f5 rfl, by simpa [o6, k6] using hg 6 f6 rfl, by simpa [o7, k7] using hg 7 f7 rfl⟩

set_option maxRecDepth 100000 in
theorem openB_ex : ∀ (B : Nat) (fuel : Nat) (cs : List Value) (x : DataW H × List MemPlace), DataW.trod enc Tryd.prog W base sp held fuel 25 cs = some x → Rows.uptoBulk x.1 ≤ B →
    ∃ t : Ex, t.cells = cs ∧ t.In W
  | 0, fuel, cs, x, hx, hB => by have := bulk_pos x.1; omega
  | B + 1, fuel, cs, x, hx, hB => by
    obtain ⟨c0, c1, c2, c3, c4, c5, c6, c7, y0, y1, y2, y3, y4, y5, y6, y7, k, rfl, hxx, e0, e1, e2, e3, e4, e5, e6, e7⟩ := trod8 Tryd.underlying25 (by kernel_rfl) (by kernel_rfl) hx
    have p0 := bulk_pos y0.1
    rw [hxx] at hB
    simp only [Rows.uptoBulk, Rows.uptoBulkAll] at hB
    obtain ⟨kd, h0, _, _⟩ := DataW.trod_int Tryd.underlying3 e0
    obtain ⟨at_, h1, _, _⟩ := DataW.trod_int Tryd.underlying3 e1
    obtain ⟨n, h2, _, _⟩ := DataW.trod_int Tryd.underlying2 e2
    obtain ⟨s, h3, _, w3⟩ := DataW.trod_string Tryd.underlying9 e3
    obtain ⟨t, h4, _, w4⟩ := DataW.trod_string Tryd.underlying9 e4
    obtain ⟨lA, ln, lc, lb, h5, l1, l2, l3, l4, l5⟩ := openB_strs e5
    obtain ⟨nA, nn, nc, nb, h6, n1, n2, n3, n4, n5⟩ := openB_strs e6
    obtain ⟨pA, pn, pc, pl, h7, q1, q2, q3, q4, q5, _⟩ := open_rowU (α := Ex) (cells := Ex.cells) (good := fun t => t.In W) (fun _ => 0) B Tryd.underlying23 (by kernel_rfl : Tryd.prog.cellsOf 25 = 8) Ex.cells_len
      (fun n cs x hx hb => by obtain ⟨t, a, b⟩ := openB_ex B n cs x hx hb; exact ⟨t, a, b, Nat.zero_le _⟩) e7 (by omega)
    simp only [List.cons.injEq, and_true] at h0 h1 h2 h3 h4 h5 h6 h7
    subst h0
    subst h1
    subst h2
    subst h3
    subst h4
    subst h5
    subst h6
    subst h7
    have m : maxLen = 9223372036854775807 := rfl
    refine ⟨.mk ⟨kd, at_, n, s.data.toList, t.data.toList, lA, ln, lc, lb, nA, nn, nc, nb, pA, pn, pc⟩ pl, by simp only [Ex.cells, ExD.cells, Ex.d, bstr_of], .mk _ _ l4 n4 q4 ⟨⟨l1, l2, ?_⟩, ⟨n1, n2, ?_⟩, ⟨q1, q2, ?_⟩, ?_, ?_, ?_, ?_⟩ q5⟩
    · show ln ≤ _; omega
    · show nn ≤ _; omega
    · show pn ≤ _; omega
    · show s.data.toList.length ≤ _; rw [Array.length_toList]; exact w3
    · show t.data.toList.length ≤ _; rw [Array.length_toList]; exact w4
    · exact l5
    · exact n5
set_option maxRecDepth 100000 in
theorem open_ex {b0 : Nat} {r : Reach} {v : Value} {d : DataW H} {ps : List MemPlace}
    (hv : Value.okWide Tryd.prog W r b0 25 v) (h : DataW.Trod enc Tryd.prog W base sp held 25 v d ps) :
    ∃ (e : ExD) (l : List Ex), v = .agg e.arr ∧ (Ex.mk e l).In W := by
  obtain ⟨cs, rfl, hcs⟩ := okWide_struct Tryd.underlying25 hv
  obtain ⟨fuel, hf⟩ := h
  obtain ⟨⟨e, l⟩, htc, hI⟩ := openB_ex _ _ _ _ hf (Nat.le_refl _)
  refine ⟨e, l, ?_, hI⟩
  have : e.cells = cs.toList := htc
  rw [show cs = cs.toList.toArray from by simp, ← this]
  rfl
end
end Go.Proofs.YtaglmmcjhlehjaaDoor
