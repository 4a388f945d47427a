/-
  Arguments that came in, opened under the bound on all that they hold.
-/
import Derived.Test.YtlgmddnpmmggdaaDoorEtW
import Derived.Test.YtlgmddnpmmggdaaDoorStrOpen
import Derived.Test.YtlgmddnpmmggdaaDoorRows
import Derived.Deep.Slices
import Derived.Deep.Fields
import Derived.Lib.SmallJoins
namespace Go.Proofs.YtlgmddnpmmggdaaDoor
open Go.ChangeShapes Go.WideShapes Go.ChangeAt Go.RowKit Go.Sort Go.Maps Go.Deep
set_option linter.unusedVariables false
set_option linter.unusedSimpArgs false

theorem bulk_pos {H : Type} (d : DataW H) : 1 ≤ Rows.uptoBulk d := by
  cases d with
  | lit l => cases l <;> simp [Rows.uptoBulk]
  | _ => simp [Rows.uptoBulk]
theorem bulk_app {H : Type} (l r : List (DataW H)) : Rows.uptoBulkAll (l ++ r) = Rows.uptoBulkAll l + Rows.uptoBulkAll r := by
  induction l with
  | nil => simp [Rows.uptoBulkAll]
  | cons x l ih => simp only [List.cons_append, Rows.uptoBulkAll, ih]; omega
theorem bulk_mem {H : Type} {d : DataW H} : ∀ {l : List (DataW H)}, d ∈ l → Rows.uptoBulk d ≤ Rows.uptoBulkAll l
  | [], h => by cases h
  | x :: r, h => by
    simp only [Rows.uptoBulkAll]
    rcases List.mem_cons.1 h with rfl | h
    · omega
    · have := bulk_mem h; omega
theorem bulk_len {H : Type} : ∀ (l : List (DataW H)), l.length ≤ Rows.uptoBulkAll l
  | [] => by simp
  | x :: r => by have := bulk_pos x; have := bulk_len r; simp only [Rows.uptoBulkAll, List.length_cons]; omega
theorem nodes_sum : ∀ (l : List Ty), nodesL l = (l.map Ty.nodes).sum
  | [] => rfl
  | x :: r => by simp only [nodesL, List.map_cons, List.sum_cons]; rw [nodes_sum r]

section
variable {H : Type} {enc : TypeId × Value → H} {P : Program} {W : World} {base : Nat} {sp : Nat → Bool} {held : Bool}

/-- A slice's elements under a bound on what is read; 'wt': what an element weighs. -/
theorem open_rowU {α : Type} {cells : α → List Value} {good : α → Prop} (wt : α → Nat) (B : Nat) {t e : TypeId} {size : Nat} (ht : P.underlying t = some (.slice e)) (hC : P.cellsOf e = size) (hsz : ∀ y, (cells y).length = size)
    (hel : ∀ (n : Nat) (cs : List Value) (x : DataW H × List MemPlace), DataW.trod enc P W base sp held n e cs = some x → Rows.uptoBulk x.1 ≤ B → ∃ y, cells y = cs ∧ good y ∧ wt y ≤ Rows.uptoBulk x.1)
    {fuel : Nat} {cs : List Value} {x : DataW H × List MemPlace} (hf : DataW.trod enc P W base sp held fuel t cs = some x) (hB : Rows.uptoBulk x.1 ≤ B + 1) :
    ∃ (A : Option Addr) (n c : Nat) (l : List α), cs = [.slice A n c] ∧ n ≤ c ∧ c ≤ maxLen ∧ l.length = n ∧ Rd W size A n (l.flatMap cells) ∧ (∀ y ∈ l, good y) ∧ n + 1 ≤ Rows.uptoBulk x.1 ∧ (l.map wt).sum + 1 ≤ Rows.uptoBulk x.1 := by
  rcases Go.Deep.open_slice ht hf with ⟨hcs, hx⟩ | ⟨a, n, c, m, k, D, Pl, hcs, _, hl, hm, hmm, hx, hi⟩
  · have := bulk_pos x.1
    exact ⟨none, 0, 0, [], hcs, Nat.le_refl _, by simp [maxLen], rfl, Rd.nil _ _ _, (fun y hy => by cases hy), by omega, by simpa using this⟩
  · rw [hC] at hi
    have hlm : n ≤ m := by rw [hmm]; split <;> omega
    have hbx : Rows.uptoBulkAll ((List.range n).map D) + 1 ≤ Rows.uptoBulk x.1 := by
      rw [hx]
      simp only [Rows.uptoBulk]
      omega
    have hD : ∀ i, i < n → Rows.uptoBulk (D i) ≤ B := fun i hi' => by
      have := bulk_mem (List.mem_map.2 ⟨i, List.mem_range.2 hi', rfl⟩ : D i ∈ (List.range n).map D)
      omega
    have key : ∀ q, q ≤ n → ∃ l : List α, l.length = q ∧ (∀ y ∈ l, good y) ∧ Held W a (l.flatMap cells) ∧ (l.map wt).sum ≤ Rows.uptoBulkAll ((List.range q).map D) := by
      intro q
      induction q with
      | zero => intro _; exact ⟨[], rfl, (fun y hy => by cases hy), (fun j u hu => by simp at hu), by simp⟩
      | succ q ih =>
        intro hq
        obtain ⟨l, hlen, hg, hh, hw⟩ := ih (by omega)
        obtain ⟨cs', hc, htr⟩ := hi q (by omega)
        obtain ⟨y, rfl, hy, hwy⟩ := hel _ _ _ htr (hD q (by omega))
        obtain ⟨_, hcl, hat⟩ := World.cells?_some hc
        have hfl : (l.flatMap cells).length = q * size := by rw [flat_len hsz, hlen]
        refine ⟨l ++ [y], by simp [hlen], ?_, ?_, ?_⟩
        · intro z hz
          rcases List.mem_append.1 hz with hz | hz
          · exact hg z hz
          · simp at hz; subst hz; exact hy
        · intro j u hu
          simp only [List.flatMap_append, List.flatMap_cons, List.flatMap_nil, List.append_nil] at hu
          rw [List.getElem?_append] at hu
          split at hu
          · exact hh j u hu
          · rename_i hj
            rw [hfl] at hu hj
            have hjs : j - q * size < size := by
              have := (List.getElem?_eq_some_iff.1 hu).1; rw [hsz] at this; omega
            have := hat _ hjs
            rw [Go.Proofs.YtlgmddnpmmggdaaDoor.add_add, show q * size + (j - q * size) = j from by omega] at this
            rw [this, hu]
        · simp only [List.range_succ, List.map_append, bulk_app, List.sum_append, List.map_cons, List.map_nil, List.sum_cons, List.sum_nil, Rows.uptoBulkAll]
          have h1 : wt y ≤ Rows.uptoBulk (D q) := hwy
          omega
    obtain ⟨l, hlen, hg, hh, hw⟩ := key n (Nat.le_refl _)
    have hln := bulk_len ((List.range n).map D)
    rw [List.length_map, List.length_range] at hln
    exact ⟨some a, n, c, l, hcs, hl, hm, hlen, ⟨by rw [flat_len hsz, hlen], fun _ => ⟨a, rfl, hh⟩⟩, hg, by omega, by omega⟩
end

section
variable {H : Type} {enc : TypeId × Value → H} {W : World} {base : Nat} {sp : Nat → Bool} {held : Bool}
theorem strs_of (l : List Str) : l.flatMap (fun b => [Value.string (bstr b)]) = strs l := by
  induction l with
  | nil => rfl
  | cons x r ih => simp only [List.flatMap_cons, ih]; rfl
theorem i64s_of (l : List Int) : l.flatMap (fun n => [Value.int .i64 n]) = i64s l := by
  induction l with
  | nil => rfl
  | cons x r ih => simp only [List.flatMap_cons, ih]; rfl
theorem openU_strs (B : Nat) {fuel : Nat} {cs : List Value} {x : DataW H × List MemPlace} (hf : DataW.trod enc Tryd.prog W base sp held fuel 23 cs = some x) (hB : Rows.uptoBulk x.1 ≤ B + 1) :
    ∃ (A : Option Addr) (n c : Nat) (l : List Str), cs = [.slice A n c] ∧ n ≤ c ∧ c ≤ maxLen ∧ l.length = n ∧ Rd W 1 A n (strs l) ∧ n + 1 ≤ Rows.uptoBulk x.1 := by
  obtain ⟨A, n, c, l, h1, h2, h3, h4, h5, _, h6, _⟩ := open_rowU (α := Str) (cells := fun b => [.string (bstr b)]) (good := fun _ => True) (fun _ => 0) B Tryd.underlying23 (by kernel_rfl : Tryd.prog.cellsOf 9 = 1) (fun _ => rfl)
    (fun n cs x hx _ => by
      obtain ⟨s, rfl, _, hw⟩ := DataW.trod_string Tryd.underlying9 hx
      exact ⟨s.data.toList, by rw [bstr_of], trivial, Nat.zero_le _⟩) hf hB
  exact ⟨A, n, c, l, h1, h2, h3, h4, by rw [← strs_of]; exact h5, h6⟩
theorem openU_ints (B : Nat) {fuel : Nat} {cs : List Value} {x : DataW H × List MemPlace} (hf : DataW.trod enc Tryd.prog W base sp held fuel 29 cs = some x) (hB : Rows.uptoBulk x.1 ≤ B + 1) :
    ∃ (A : Option Addr) (n c : Nat) (l : List Int), cs = [.slice A n c] ∧ n ≤ c ∧ c ≤ maxLen ∧ l.length = n ∧ Rd W 1 A n (i64s l) ∧ (∀ y ∈ l, (Lit.int .i64 y).wf = true) ∧ n + 1 ≤ Rows.uptoBulk x.1 := by
  obtain ⟨A, n, c, l, h1, h2, h3, h4, h5, hg, h6, _⟩ := open_rowU (α := Int) (cells := fun b => [.int .i64 b]) (good := fun y => (Lit.int .i64 y).wf = true) (fun _ => 0) B Tryd.underlying29 (by kernel_rfl : Tryd.prog.cellsOf 3 = 1) (fun _ => rfl)
    (fun n cs x hx _ => by
      obtain ⟨m, rfl, _, hw⟩ := DataW.trod_int Tryd.underlying3 hx
      exact ⟨m, rfl, hw, Nat.zero_le _⟩) hf hB
  exact ⟨A, n, c, l, h1, h2, h3, h4, by rw [← i64s_of]; exact h5, hg, h6⟩
theorem lks_of (l : List Lk) : l.flatMap (fun k => [k.val]) = l.map Lk.val := by
  induction l with
  | nil => rfl
  | cons x r ih => rw [List.map_cons, List.flatMap_cons, ih]; rfl
theorem openU_lks (B : Nat) (hB4 : B ≤ 4000000) {fuel : Nat} {cs : List Value} {x : DataW H × List MemPlace} (hf : DataW.trod enc Tryd.prog W base sp held fuel 30 cs = some x) (hB : Rows.uptoBulk x.1 ≤ B + 1) :
    ∃ (A : Option Addr) (n c : Nat) (l : List Lk), cs = [.slice A n c] ∧ n ≤ c ∧ c ≤ maxLen ∧ l.length = n ∧ Rd W 1 A n (l.map Lk.val) ∧ (∀ k ∈ l, k.In W) ∧ n + 1 ≤ Rows.uptoBulk x.1 := by
  obtain ⟨A, n, c, l, h1, h2, h3, h4, h5, hg, h6, _⟩ := open_rowU (α := Lk) (cells := fun k => [k.val]) (good := fun k => k.In W) (fun _ => 0) B Tryd.underlying30 (by kernel_rfl : Tryd.prog.cellsOf 23 = 1) (fun _ => rfl)
    (fun n cs x hx hb => by
      obtain ⟨A, m, c, l, rfl, k1, k2, k3, k4, k5⟩ := openU_strs B hx (by omega)
      exact ⟨⟨A, m, c, l⟩, rfl, ⟨k4, k1, k2, show m ≤ 4000000 by omega⟩, Nat.zero_le _⟩) hf hB
  exact ⟨A, n, c, l, h1, h2, h3, h4, by rw [← lks_of]; exact h5, hg, h6⟩

set_option maxRecDepth 100000 in
/-- The fields of a struct of two, or five, cells. -/
theorem trod2 {t : TypeId} {f0 f1 : Field} {fuel : Nat} {cs : List Value} {x : DataW H × List MemPlace} (hs : Tryd.prog.underlying t = some (.struct #[f0, f1])) (hone : oneCellFields Tryd.prog #[f0, f1] = true) (hC : Tryd.prog.cellsOf t = 2) (h : DataW.trod enc Tryd.prog W base sp held fuel t cs = some x) :
    ∃ c0 c1 y0 y1 n, cs = [c0, c1] ∧ x.1 = .agg [y0.1, y1.1] ∧ DataW.trod enc Tryd.prog W base sp held n f0.type [c0] = some y0 ∧ DataW.trod enc Tryd.prog W base sp held n f1.type [c1] = some y1 := by
  obtain ⟨xs, n, _, hx, hl, hlen, hg⟩ := DataW.trod_struct hs h
  obtain ⟨o0, k0⟩ := hone_of hone 0 f0 rfl
  obtain ⟨o1, k1⟩ := hone_of hone 1 f1 rfl
  match cs, hl.trans hC, xs, hlen with
  | [c0, c1], _, [y0, y1], _ => exact ⟨c0, c1, y0, y1, n, rfl, by rw [hx]; rfl, by simpa [o0, k0] using hg 0 f0 rfl, by simpa [o1, k1] using hg 1 f1 rfl⟩
set_option maxRecDepth 100000 in
theorem trod5 {t : TypeId} {f0 f1 f2 f3 f4 : Field} {fuel : Nat} {cs : List Value} {x : DataW H × List MemPlace} (hs : Tryd.prog.underlying t = some (.struct #[f0, f1, f2, f3, f4])) (hone : oneCellFields Tryd.prog #[f0, f1, f2, f3, f4] = true) (hC : Tryd.prog.cellsOf t = 5) (h : DataW.trod enc Tryd.prog W base sp held fuel t cs = some x) :
    ∃ c0 c1 c2 c3 c4 y0 y1 y2 y3 y4 n, cs = [c0, c1, c2, c3, c4] ∧ x.1 = .agg [y0.1, y1.1, y2.1, y3.1, y4.1] ∧ DataW.trod enc Tryd.prog W base sp held n f0.type [c0] = some y0 ∧ DataW.trod enc Tryd.prog W base sp held n f1.type [c1] = some y1 ∧
      DataW.trod enc Tryd.prog W base sp held n f2.type [c2] = some y2 ∧ DataW.trod enc Tryd.prog W base sp held n f3.type [c3] = some y3 ∧ DataW.trod enc Tryd.prog W base sp held n f4.type [c4] = some y4 := by
  obtain ⟨xs, n, _, hx, hl, hlen, hg⟩ := DataW.trod_struct hs h
  obtain ⟨o0, k0⟩ := hone_of hone 0 f0 rfl
  obtain ⟨o1, k1⟩ := hone_of hone 1 f1 rfl
  obtain ⟨o2, k2⟩ := hone_of hone 2 f2 rfl
  obtain ⟨o3, k3⟩ := hone_of hone 3 f3 rfl
  obtain ⟨o4, k4⟩ := hone_of hone 4 f4 rfl
  match cs, hl.trans hC, xs, hlen with
  | [c0, c1, c2, c3, c4], _, [y0, y1, y2, y3, y4], _ => exact ⟨c0, c1, c2, c3, c4, y0, y1, y2, y3, y4, n, rfl, by rw [hx]; rfl, by simpa [o0, k0] using hg 0 f0 rfl, by simpa [o1, k1] using hg 1 f1 rfl, by simpa [o2, k2] using hg 2 f2 rfl, by simpa [o3, k3] using hg 3 f3 rfl, by simpa [o4, k4] using hg 4 f4 rfl⟩

set_option maxRecDepth 100000 in
theorem openU_needs (B : Nat) {fuel : Nat} {cs : List Value} {x : DataW H × List MemPlace} (hf : DataW.trod enc Tryd.prog W base sp held fuel 28 cs = some x) (hB : Rows.uptoBulk x.1 ≤ B + 1) :
    ∃ (A : Option Addr) (n c : Nat) (l : List (Int × Str)), cs = [.slice A n c] ∧ n ≤ c ∧ c ≤ maxLen ∧ l.length = n ∧ Rd W 2 A n (nds l) ∧ (∀ y ∈ l, (Lit.int .i64 y.1).wf = true ∧ y.2.length ≤ maxLen) ∧ n + 1 ≤ Rows.uptoBulk x.1 := by
  obtain ⟨A, n, c, l, h1, h2, h3, h4, h5, hg, h6, _⟩ := open_rowU (α := Int × Str) (cells := fun p => [.int .i64 p.1, .string (bstr p.2)]) (good := fun y => (Lit.int .i64 y.1).wf = true ∧ y.2.length ≤ maxLen) (fun _ => 0) B Tryd.underlying28 (by kernel_rfl : Tryd.prog.cellsOf 43 = 2) (fun _ => rfl)
    (fun n cs x hx _ => by
      obtain ⟨c0, c1, y0, y1, k, rfl, _, e0, e1⟩ := trod2 Tryd.underlying43 (by kernel_rfl) (by kernel_rfl) hx
      obtain ⟨m, h0, _, hw⟩ := DataW.trod_int Tryd.underlying3 e0
      obtain ⟨s, h1, _, hs⟩ := DataW.trod_string Tryd.underlying9 e1
      simp only [List.cons.injEq, and_true] at h0 h1
      subst h0
      subst h1
      exact ⟨(m, s.data.toList), by rw [bstr_of], ⟨hw, by rw [Array.length_toList]; exact hs⟩, Nat.zero_le _⟩) hf hB
  exact ⟨A, n, c, l, h1, h2, h3, h4, h5, hg, h6⟩

set_option maxRecDepth 100000 in
theorem openU_ty : ∀ (B : Nat), B ≤ 4000000 → ∀ (fuel : Nat) (cs : List Value) (x : DataW H × List MemPlace), DataW.trod enc Tryd.prog W base sp held fuel 25 cs = some x → Rows.uptoBulk x.1 ≤ B →
    ∃ t : Ty, t.cells = cs ∧ (t.In W ∧ t.Rg) ∧ t.nodes ≤ Rows.uptoBulk x.1
  | 0, _, fuel, cs, x, hx, hB => by have := bulk_pos x.1; omega
  | B + 1, hB4, fuel, cs, x, hx, hB => by
    obtain ⟨c0, c1, c2, c3, c4, y0, y1, y2, y3, y4, k, rfl, hxx, e0, e1, e2, e3, e4⟩ := trod5 Tryd.underlying25 (by kernel_rfl) (by kernel_rfl) hx
    have p0 := bulk_pos y0.1
    have p1 := bulk_pos y1.1
    have p4 := bulk_pos y4.1
    rw [hxx] at hB ⊢
    simp only [Rows.uptoBulk, Rows.uptoBulkAll] at hB ⊢
    obtain ⟨kd, h0, _, _⟩ := DataW.trod_int Tryd.underlying3 e0
    obtain ⟨n, h1, _, w1⟩ := DataW.trod_int Tryd.underlying3 e1
    obtain ⟨tl_, h4, _, w4⟩ := DataW.trod_int Tryd.underlying3 e4
    obtain ⟨lA, ln, lc, lb, h3, l1, l2, l3, l4, l5⟩ := openU_strs B e3 (by omega)
    obtain ⟨pA, pn, pc, pl, h2, q1, q2, q3, q4, q5, q6, q7⟩ := open_rowU (α := Ty) (cells := Ty.cells) (good := fun t => t.In W ∧ t.Rg) Ty.nodes B Tryd.underlying22 (by kernel_rfl : Tryd.prog.cellsOf 25 = 5) Ty.cells_len
      (fun n cs x hx hb => openU_ty B (by omega) n cs x hx hb) e2 (by omega)
    simp only [List.cons.injEq, and_true] at h0 h1 h2 h3 h4
    subst h0
    subst h1
    subst h2
    subst h3
    subst h4
    refine ⟨.mk ⟨kd, n, pA, pn, pc, lA, ln, lc, lb, tl_⟩ pl, rfl, ⟨.mk _ _ l4 q4 ⟨l1, l2, q1, q2, show ln ≤ 4000000 by omega, show pn ≤ 4000000 by omega⟩ (fun x hx => (q5 x hx).1), .mk _ _ w1 w4 (fun x hx => (q5 x hx).2)⟩, ?_⟩
    show 1 + nodesL pl ≤ _
    rw [nodes_sum]
    omega
end
end Go.Proofs.YtlgmddnpmmggdaaDoor
