/-
  Small lemmas on worlds that every text of this seat uses. Plain, about no program.
  What a slice holds: 'Rd w size A n cs': the slice with address A and length n holds the cells cs (size cells an element); and how that lasts.
  Strings and lists of strings: how they lie, and how two are held against each other. About no program.
  Sets of labels, as lists in order: what sorting, adding and choosing make of them. About no program.
  Contracts of the functions that read a list of labels, the code's and the document's.
  Two lists held against each other; the search for a label in a set.
  Errors that are numbers of one type, held against each other.
  Types as they lie in memory; whether a type's own fields may be.
  Whether a type may be, by the code.
  A region that draws its order: what its guards leave out.
-/
import Derived.Test.YtklandpagieapaaDoorRows
import Derived.WalkKit
import Derived.ProofKit
import Derived.OpenShut
import Derived.Handy
import Derived.Lib.Hide
import Derived.Deep.QuietTactic
import Derived.Deep.Draws
import Derived.BigQuiet
import Derived.Maps.AppendAt
import Derived.Deep.AppendLies
import Derived.Laws.Cover1
import Derived.Lib.SlicesCompact
import Derived.LaidEql
import Derived.Lib.QuietBelow
namespace Go.Proofs.YtklandpagieapaaDoor
open Go.ChangeShapes Go.WideShapes Go.ChangeAt Go.RowKit
set_option linter.unusedVariables false

theorem below_drewN {B : Nat} {a w : World} (h : Below B a w) (n : Nat) : Below B a (w.drewN n) := ⟨h.os, h.tape, h.output, h.size, h.block⟩
/-- What turned nothing that was there, and then again. -/
theorem below_then {a b c : World} (h : Below a.heap.size a b) (k : Below b.heap.size b c) : Below a.heap.size a c := h.trans (k.mono h.size)
theorem below_cells {W w1 : World} (hb : Below W.heap.size W w1) : (∀ b o, b < W.heap.size → w1.cell? ⟨b, o, none⟩ = W.cell? ⟨b, o, none⟩) ∧ (∀ b o, b < W.heap.size → w1.frozen? ⟨b, o, none⟩ = W.frozen? ⟨b, o, none⟩) :=
  ⟨fun b o h => hb.cell (p := ⟨b, o, none⟩) h, fun b o h => hb.frozen (p := ⟨b, o, none⟩) h⟩
theorem ret_eq {u v : Value} (h : u = v) : Ending.returned u = .returned v := by rw [h]
theorem cell_below {w w' : World} {p : Addr} {v : Value} (hb : Below w.heap.size w w') (h : w.cell? p = some v) : w'.cell? p = some v := (hb.cell (World.block_lt_of_cell? w p h)).trans h
theorem cell_alloc {w : World} {p : Addr} {v : Value} {o : Obj} (h : w.cell? p = some v) : (w.alloc o).cell? p = some v := by rw [World.cell?_alloc_lt w o p (World.block_lt_of_cell? w p h)]; exact h
theorem cell_new (w : World) (C : Array Value) (t : TypeId) (j : Nat) {v : Value} (h : C[j]? = some v) {fr : Nat × Nat} : (w.alloc (.cells C t fr)).cell? ⟨w.heap.size, j, none⟩ = some v := by rw [World.cell?_alloc_mark]; exact h

end Go.Proofs.YtklandpagieapaaDoor

namespace Go.Proofs.YtklandpagieapaaDoor
open Go.ChangeShapes Go.WideShapes Go.ChangeAt Go.RowKit
set_option linter.unusedVariables false

@[go_sem] theorem add_block (a : Addr) (n : Nat) : (a.add n).block = a.block := by unfold Addr.add; split <;> rfl
theorem add_add (a : Addr) (i j : Nat) : (a.add i).add j = a.add (i + j) := by
  unfold Addr.add
  by_cases hi : i = 0
  · subst hi; simp
  · by_cases hj : j = 0
    · subst hj; simp [hi]
    · simp [hi, hj, Nat.add_assoc]
theorem add_zero (a : Addr) : a.add 0 = a := by simp [Addr.add]

/-- The cells from an address on. -/
def Held (w : World) (a : Addr) (cs : List Value) : Prop := ∀ j u, cs[j]? = some u → w.cell? (a.add j) = some u

/-- What a slice holds. -/
def Rd (w : World) (size : Nat) (A : Option Addr) (n : Nat) (cs : List Value) : Prop :=
  cs.length = n * size ∧ (0 < cs.length → ∃ a, A = some a ∧ Held w a cs)

section
variable {w w' : World} {size n : Nat} {A : Option Addr} {cs : List Value}
theorem Held.block {a : Addr} (h : Held w a cs) (h0 : 0 < cs.length) : a.block < w.heap.size := by
  have h1 := h 0 cs[0] (List.getElem?_eq_getElem h0)
  rw [add_zero] at h1
  exact World.block_lt_of_cell? w a h1
theorem Held.keep {a : Addr} (h : Held w a cs) (h0 : 0 < cs.length) (hk : ∀ p : Addr, p.block < w.heap.size → w'.cell? p = w.cell? p) : Held w' a cs :=
  fun j u hu => (hk _ (by rw [add_block]; exact h.block h0)).trans (h j u hu)
theorem Rd.nil (w : World) (size : Nat) (A : Option Addr) : Rd w size A 0 [] := ⟨by simp, fun h => absurd h (by simp)⟩
theorem Rd.len (h : Rd w size A n cs) : cs.length = n * size := h.1
theorem Rd.keep (h : Rd w size A n cs) (hk : ∀ p : Addr, p.block < w.heap.size → w'.cell? p = w.cell? p) : Rd w' size A n cs :=
  ⟨h.1, fun hn => let ⟨a, e, hc⟩ := h.2 hn; ⟨a, e, hc.keep hn hk⟩⟩
theorem Rd.below (h : Rd w size A n cs) (hb : Below w.heap.size w w') : Rd w' size A n cs := h.keep fun _ hp => hb.cell hp
theorem Rd.drewN (h : Rd w size A n cs) (k : Nat) : Rd (w.drewN k) size A n cs := h
theorem Rd.drew (h : Rd w size A n cs) : Rd w.drew size A n cs := h
theorem Rd.alloc (h : Rd w size A n cs) (o : Obj) : Rd (w.alloc o) size A n cs := h.keep fun p hp => World.cell?_alloc_lt w o p (by omega)
theorem Rd.at_ (h : Rd w size A n cs) {k : Nat} (hk : k < cs.length) : ∃ a u, A = some a ∧ cs[k]? = some u ∧ w.cell? (a.add k) = some u := by
  obtain ⟨a, e, hc⟩ := h.2 (by omega)
  exact ⟨a, cs[k], e, List.getElem?_eq_getElem hk, hc k _ (List.getElem?_eq_getElem hk)⟩
theorem Rd.addr (h : Rd w size A n cs) (h0 : 0 < cs.length) : ∃ a, A = some a ∧ a.block < w.heap.size ∧ Held w a cs := by
  obtain ⟨a, e, hc⟩ := h.2 h0
  exact ⟨a, e, hc.block h0, hc⟩
theorem Rd.of_own {base : Nat} {e : TypeId} {c : Nat} (h : w.ownsRow base e size (.slice A n c) n cs) : Rd w size A n cs := by
  refine ⟨h.1, fun hn => ?_⟩
  rcases h.2 with ⟨hv, h0⟩ | ⟨g, cap, cur, hv, hb, hg, hnc, hcm, hcs, ht⟩
  · have := h.1; rw [h0] at this; omega
  · have hA : A = some ⟨g, 0, none⟩ := by injection hv
    subst hA
    exact ⟨_, rfl, h.cells (g := g) rfl⟩
end
/-- What the walk wants to know of a slice's type: t is the slice's number, e its element's, z the element's zero. -/
structure ElemTy (P : Program) (t e : TypeId) (z : Value) (size bytes : Nat) : Prop where
  under : P.underlying t = some (.slice e)
  info : (P.info? e).map (fun i => (i.zero, i.size, i.bytes)) = some (some z, size, bytes)
  zs : z.cells.size = size
  pos : 0 < size
  posb : 0 < bytes

/-- A literal's row, just made. -/
theorem Rd.lit (w : World) (cs : Array Value) (e : TypeId) {size n : Nat} (h : cs.size = n * size) {fr : Nat × Nat} : Rd (w.alloc (.cells cs e fr)) size (some ⟨w.heap.size, 0, none⟩) n cs.toList := by
  refine ⟨by simpa using h, fun _ => ⟨_, rfl, fun j u hu => ?_⟩⟩
  rw [Addr.add_lit, Nat.zero_add]
  rw [World.cell?_alloc_mark]
  simpa using hu

theorem own_below {base : Nat} {e : TypeId} {size n : Nat} {v : Value} {xs : List Value} {w w' : World} (h : w.ownsRow base e size v n xs) (hb : Below w.heap.size w w') : w'.ownsRow base e size v n xs := by
  refine ⟨h.1, ?_⟩
  rcases h.2 with hn | ⟨g, cap, cur, rfl, hb', hgg, rest⟩
  · exact .inl hn
  · exact .inr ⟨g, cap, cur, rfl, hb', (hb.block g (Array.getElem?_eq_some_iff.1 hgg).1).trans hgg, rest⟩

theorem own_cap {base : Nat} {e : TypeId} {size n : Nat} {v : Value} {xs : List Value} {w : World} (h : w.ownsRow base e size v n xs) : ∃ A c, v = .slice A n c ∧ n ≤ c ∧ c ≤ maxLen ∧ (A = none → c = 0) := by
  rcases h.2 with ⟨rfl, rfl⟩ | ⟨g, cap, cur, rfl, hb', hgg, h1, h2, _⟩
  · exact ⟨none, 0, rfl, Nat.le_refl _, by simp [maxLen], fun _ => rfl⟩
  · exact ⟨_, cap, rfl, h1, h2, fun h => by cases h⟩

/-- 'append' onto a row of the call's own, of a slice that is nil, empty, or not. -/
theorem run_app {P : Program} {t e : TypeId} {z : Value} {size bytes : Nat} (T : ElemTy P t e z size bytes) (w : World) (ty : TypeId) (base : Nat)
    (v : Value) (n : Nat) (xs : List Value) (hown : w.ownsRow base e size v n xs) (A : Option Addr) (m c : Nat) (news : List Value) (hr : Rd w size A m news) (h1 : ∀ u ∈ news, u.oneCell' = true)
    (hbytes : (n + m) * bytes ≤ 140737488355328) (hbase : base ≤ w.heap.size) :
    ∃ v' w', (Builtin.append_ #[t, t] ty #[v, .slice A m c]).run P w = .ok v' w' ∧ w'.ownsRow base e size v' (n + m) (xs ++ news) ∧ w.grownBy w' v.ownBlock ∧ (v'.ownBlock = v.ownBlock ∨ v'.ownBlock = some w.heap.size) := by
  obtain ⟨i, hi, hz, hs, hb⟩ := info_parts T.info
  have h63 : n + m ≤ maxLen := by
    have := Nat.le_mul_of_pos_right (n + m) T.posb
    simp only [maxLen]; omega
  rcases Nat.eq_zero_or_pos m with h0 | h0
  · subst h0
    have hn : news = [] := List.eq_nil_of_length_eq_zero (by have := hr.1; omega)
    subst hn
    have hrun : (Builtin.append_ #[t, t] ty #[v, .slice A 0 c]).run P w = .ok v w := by
      rcases hown.2 with ⟨rfl, rfl⟩ | ⟨g, cap, cur, rfl, _, _, hnc, _⟩
      · cases A with
        | none => simp [Builtin.append_, run_underlying T.under, sizeOf, typeInfo, hi, Builtin.lenOf, Builtin.firstCells]
        | some a => simp [Builtin.append_, run_underlying T.under, sizeOf, typeInfo, hi, Builtin.lenOf, Builtin.firstCells, loadCells, loadCellsFrom]
      · cases A with
        | none => simp [Builtin.append_, run_underlying T.under, sizeOf, typeInfo, hi, Builtin.lenOf, Builtin.firstCells, hnc, storeCells]
        | some a => simp [Builtin.append_, run_underlying T.under, sizeOf, typeInfo, hi, Builtin.lenOf, Builtin.firstCells, hnc, storeCells, loadCells, loadCellsFrom]
    exact ⟨v, w, hrun, by simpa using hown, World.grownBy.refl w _, .inl rfl⟩
  · have hl : 0 < news.length := by rw [hr.1]; exact Nat.mul_pos h0 T.pos
    obtain ⟨a, rfl, hh⟩ := hr.2 hl
    obtain ⟨v', w', h2, h3, h4, _, h5⟩ := run_append_own_at (P := P) w base t ty e i z size bytes T.under hi hz hs hb T.zs T.pos v n xs hown a m c news hr.1 hh h1 h63 hbytes hbase
    exact ⟨v', w', h2, h3, h4, h5⟩

theorem wpList_app {P : Program} {t e : TypeId} {z : Value} {size bytes : Nat} (T : ElemTy P t e z size bytes) (w : World) {ops : Array Oper} {rest : List Oper} {o : Oper} {a : Act} {Q : Exit → Act → World → Prop} (hgd : o.guard = none) (s x : Operand)
    (ho : o.op = .call { callee := .builtin .append, args := #[s, x], argTypes := #[t, t] }) (base : Nat)
    (v : Value) (n : Nat) (xs : List Value) (hs : a.eval s = v) (hown : w.ownsRow base e size v n xs) (A : Option Addr) (m c : Nat) (news : List Value) (hx : a.eval x = .slice A m c) (hr : Rd w size A m news) (h1 : ∀ u ∈ news, u.oneCell' = true)
    (hbytes : (n + m) * bytes ≤ 140737488355328) (hbase : base ≤ w.heap.size)
    (h : ∀ v' w', w'.ownsRow base e size v' (n + m) (xs ++ news) → Below base w w' → w.grownBy w' v.ownBlock → (v'.ownBlock = v.ownBlock ∨ v'.ownBlock = some w.heap.size) → wpList P ops Q rest (a.put o.dst v') w') : wpList P ops Q (o :: rest) a w :=
  wpList_plain hgd fun _ hK => by
    obtain ⟨v', w', hrun, h2, h3, h4⟩ := run_app T w o.type base v n xs hown A m c news hr h1 hbytes hbase
    unfold Oper.wp execOp
    simp only [ho, resolve, invoke, builtin, Sem.run_bind, Sem.run_pure, Result.andThen_ok, List.map_toArray, List.map_cons, List.map_nil, hs, hx, hrun]
    exact hK _ _ (h v' w' h2 ((Below.refl _ _).grown h3 hbase (fun k hk => (hown.lt k hk).1)) h3 h4)
/-- n zeros, as cells. -/
def zeros (z : Value) : Nat → List Value
  | 0 => []
  | n + 1 => z.cells.toList ++ zeros z n
theorem zeros_length (z : Value) : ∀ n, (zeros z n).length = n * z.cells.size
  | 0 => by simp [zeros]
  | n + 1 => by simp only [zeros, List.length_append, zeros_length z n, Nat.add_mul]; simp; omega
theorem zeros_at (z : Value) : ∀ (n j : Nat), j < n * z.cells.size → (zeros z n)[j]? = z.cells[j % z.cells.size]?
  | 0, j, h => by omega
  | n + 1, j, h => by
    rw [Nat.add_mul] at h
    simp only [zeros, List.getElem?_append]
    by_cases hj : j < z.cells.size
    · rw [if_pos (by simpa using hj), Nat.mod_eq_of_lt hj]; simp
    · rw [if_neg (by simpa using hj)]
      have hlen : z.cells.toList.length = z.cells.size := by simp
      rw [hlen, zeros_at z n (j - z.cells.size) (by omega)]
      congr 1
      rw [Nat.mod_eq_sub_mod (by omega : j ≥ z.cells.size)]
theorem madeCells_zeros (z : Value) (n : Nat) (h : 0 < z.cells.size) : (madeCells z.cells (n * z.cells.size)).toList = zeros z n := by
  apply List.ext_getElem?
  intro j
  by_cases hj : j < n * z.cells.size
  · rw [zeros_at z n j hj]
    have hm : j % z.cells.size < z.cells.size := Nat.mod_lt _ h
    simp [madeCells, hj, hm]
  · rw [List.getElem?_eq_none (by simpa [madeCells] using hj), List.getElem?_eq_none (by rw [zeros_length]; omega)]

theorem below_of_grown {w w' : World} {row : Option Nat} {B : Nat} (hg : w.grownBy w' row) (hB : B ≤ w.heap.size) (hr : ∀ k, row = some k → B ≤ k) : Below B w w' :=
  (Below.refl B w).grown hg hB hr

/-- 'make([]T, n, m)', n and m variables. -/
theorem wpList_mk {P : Program} {t e : TypeId} {z : Value} {size bytes : Nat} (T : ElemTy P t e z size bytes) (w : World) {ops : Array Oper} {rest : List Oper} {o : Oper} {a : Act} {Q : Exit → Act → World → Prop} (hgd : o.guard = none) (l c : Operand)
    (hop : o.op = Op.makeSlice t l c) (base : Nat) (kl kc : IntKind) (L C : Int) (n m : Nat) (hl : a.eval l = .int kl L) (hc : a.eval c = .int kc C) (hL : L = (n : Int)) (hC : C = (m : Int)) (hnm : n ≤ m) (hbytes : bytes * m ≤ 281474976710656) (hbase : base ≤ w.heap.size)
    (hK : ∀ w', w'.ownsRow base e size (.slice (some ⟨w.heap.size, 0, none⟩) n m) n (zeros z n) → Below w.heap.size w w' → w.heap.size < w'.heap.size → wpList P ops Q rest (a.put o.dst (.slice (some ⟨w.heap.size, 0, none⟩) n m)) w') :
    wpList P ops Q (o :: rest) a w := by
  obtain ⟨i, hi, hz, hs, hb⟩ := info_parts T.info
  have hpos := T.pos
  have hposb := T.posb
  have hzs := T.zs
  have hmm : m ≤ 281474976710656 := Nat.le_trans (by have := Nat.le_mul_of_pos_left m hposb; omega) hbytes
  have hbb : (bytes : Int) * (m : Int) ≤ 281474976710656 := by
    have h : ((bytes * m : Nat) : Int) ≤ 281474976710656 := by omega
    rwa [Int.natCast_mul] at h
  refine wpList_plain hgd fun K hK' => ?_
  subst hL
  subst hC
  have hrun := run_make (P := P) w t e i z T.under hi hz kl kc (n : Int) (m : Int) (by omega) (by omega) (by rw [hb]; exact hbb) (by omega)
  rw [hs] at hrun
  simp only [Int.toNat_natCast] at hrun
  unfold Oper.wp
  simp [execOp, hop, hl, hc, hrun, Result.andThen]
  refine hK' _ _ (hK _ ⟨by rw [zeros_length, hzs], .inr ⟨w.heap.size, m, _, rfl, hbase, heap_alloc_new w _, hnm, by simp only [maxLen]; omega, size_madeCells _ _, ?_⟩⟩ ((Below.refl _ _).alloc (Nat.le_refl _) _) (by simp))
  have e1 := madeCells_zeros z m (by omega)
  rw [hzs] at e1
  rw [e1]
  obtain ⟨d, rfl⟩ : ∃ d, m = n + d := ⟨m - n, by omega⟩
  clear hrun e1 hbytes hnm hmm hK hl hc hbb
  induction n with
  | zero => simp [zeros]
  | succ n ih =>
    rw [show n + 1 + d = (n + d) + 1 from by omega]
    simp only [zeros, Nat.add_mul]
    rw [show n * size + 1 * size = z.cells.toList.length + n * size from by simp [hzs]; omega, List.take_length_add_append, ih]

/-- A part of a slice. -/
theorem Rd.cut {w : World} {size n : Nat} {A : Option Addr} {cs : List Value} (h : Rd w size A n cs) {lo hi k : Nat} (h1 : lo ≤ hi) (h2 : hi ≤ n) (hk : k = lo * size) : Rd w size (A.map (fun x => x.add k)) (hi - lo) ((cs.drop (lo * size)).take ((hi - lo) * size)) := by
  subst hk
  have e1 : (hi - lo) * size ≤ n * size - lo * size := by rw [← Nat.sub_mul]; exact Nat.mul_le_mul_right _ (by omega)
  refine ⟨by rw [List.length_take, List.length_drop, h.1]; omega, fun h0 => ?_⟩
  obtain ⟨a, rfl, hh⟩ := h.2 (by rw [List.length_take, List.length_drop] at h0; omega)
  refine ⟨_, rfl, fun j u hu => ?_⟩
  rw [add_add]
  refine hh _ u ?_
  rw [List.getElem?_take] at hu
  split at hu
  · rwa [List.getElem?_drop] at hu
  · cases hu
/-- 's[lo:]', as the model has it. -/
theorem Rd.from_ {w : World} {size n c : Nat} {A : Option Addr} {cs : List Value} (h : Rd w size A n cs) {lo k : Nat} (h1 : lo ≤ n) (hc : n ≤ c) (hk : k = lo * size) : Rd w size (if c = lo then A else A.map (fun x => x.add k)) (n - lo) (cs.drop (lo * size)) := by
  have h2 := h.cut (lo := lo) (hi := n) h1 (Nat.le_refl _) hk
  have e : (cs.drop (lo * size)).take ((n - lo) * size) = cs.drop (lo * size) := by
    apply List.take_of_length_le
    rw [List.length_drop, h.1, Nat.sub_mul]; exact Nat.le_refl _
  rw [e] at h2
  split
  · obtain rfl : n = lo := by omega
    refine ⟨h2.1, fun h0 => ?_⟩
    have := h2.1
    simp only [Nat.sub_self, Nat.zero_mul] at this
    omega
  · exact h2
/-- A slice that holds something: its address written out. -/
theorem Rd.base {w : World} {size n : Nat} {A : Option Addr} {cs : List Value} (h : Rd w size A n cs) (h0 : 0 < cs.length) : ∃ b o, A = some ⟨b, o, none⟩ ∧ b < w.heap.size ∧ ∀ j u, cs[j]? = some u → w.cell? ⟨b, o + j, none⟩ = some u := by
  obtain ⟨⟨b, o, s⟩, rfl, hb, hh⟩ := h.addr h0
  have h1 := hh 0 cs[0] (List.getElem?_eq_getElem h0)
  rw [add_zero] at h1
  have hs : s = none := by simpa using World.cell?_spot h1
  subst hs
  refine ⟨b, o, rfl, hb, fun j u hu => ?_⟩
  have := hh j u hu
  rwa [Addr.add_lit] at this
end Go.Proofs.YtklandpagieapaaDoor

namespace Go.Proofs.YtklandpagieapaaDoor
open Go.RowKit
set_option linter.unusedVariables false

abbrev Str := List UInt8
def bstr (l : Str) : ByteArray := ⟨l.toArray⟩
theorem bstr_toList (l : Str) : (bstr l).toList = l := by rw [ByteArray.toList_eq]; simp [bstr]
theorem bstr_data (l : Str) : (bstr l).data.toList = l := by simp [bstr]
theorem bstr_size (l : Str) : (bstr l).size = l.length := by simp [bstr, ByteArray.size]
theorem bstr_inj {a b : Str} (h : bstr a = bstr b) : a = b := by have := congrArg ByteArray.toList h; rwa [bstr_toList, bstr_toList] at this
theorem bstr_of (s : ByteArray) : bstr s.data.toList = s := by simp [bstr]

/-- The cells of a list of strings. -/
def strs (l : List Str) : List Value := l.map fun s => .string (bstr s)
theorem strs_length (l : List Str) : (strs l).length = l.length := by simp [strs]
theorem strs_append (a b : List Str) : strs (a ++ b) = strs a ++ strs b := by simp [strs]
theorem strs_one (l : List Str) : ∀ u ∈ strs l, u.oneCell' = true := by
  intro u hu; obtain ⟨_, _, rfl⟩ := List.mem_map.1 hu; rfl
theorem strs_at (l : List Str) (k : Nat) (h : k < l.length) : (strs l)[k]? = some (.string (bstr l[k])) := by simp [strs, h]
theorem strs_cut (l : List Str) (lo n : Nat) : ((strs l).drop (lo * 1)).take (n * 1) = strs ((l.drop lo).take n) := by simp [strs, List.map_take, List.map_drop]
theorem strs_drop (l : List Str) (lo : Nat) : (strs l).drop (lo * 1) = strs (l.drop lo) := by simp [strs, List.map_drop]
theorem strs_take (l : List Str) (n : Nat) : (strs l).take (n * 1) = strs (l.take n) := by simp [strs, List.map_take]

/-- The first string's bytes come before the second's. -/
def slt (a b : Str) : Bool := Op.bytesLess a b
theorem bytesLess_bstr (a b : Str) : Op.bytesLess (bstr a).toList (bstr b).toList = slt a b := by rw [bstr_toList, bstr_toList]; rfl
theorem beq_bstr (a b : Str) : ((bstr a).toList == (bstr b).toList) = decide (a = b) := by
  rw [bstr_toList, bstr_toList, Bool.eq_iff_iff, beq_iff_eq, decide_eq_true_eq]

theorem slt_eq : ∀ a b : Str, slt a b = decide (a < b)
  | [], [] => by simp [slt, Op.bytesLess]
  | _ :: _, [] => by simp [slt, Op.bytesLess]
  | [], _ :: _ => by simp [slt, Op.bytesLess]
  | x :: a, y :: b => by
    have ih := slt_eq a b
    unfold slt at ih ⊢
    rw [Op.bytesLess, ih, Bool.eq_iff_iff]
    simp [List.cons_lt_cons_iff]

theorem slt_irrefl (a : Str) : slt a a = false := by rw [slt_eq, decide_eq_false_iff_not]; exact List.lt_irrefl a
theorem slt_trans {a b c : Str} (h : slt a b = true) (k : slt b c = true) : slt a c = true := by
  rw [slt_eq, decide_eq_true_eq] at *; exact List.lt_trans h k
theorem slt_tri {a b : Str} (h : slt a b = false) (k : slt b a = false) : a = b := by
  rw [slt_eq, decide_eq_false_iff_not] at *
  exact List.le_antisymm (List.not_lt.1 k) (List.not_lt.1 h)
theorem slt_asymm {a b : Str} (h : slt a b = true) : slt b a = false := by
  cases k : slt b a with
  | false => rfl
  | true => have := slt_trans h k; rw [slt_irrefl] at this; cases this
theorem slt_ne {a b : Str} (h : slt a b = true) : a ≠ b := by rintro rfl; rw [slt_irrefl] at h; cases h
end Go.Proofs.YtklandpagieapaaDoor

namespace Go.Proofs.YtklandpagieapaaDoor
open Go.RowKit
set_option linter.unusedVariables false

/-- In order, none twice. -/
def inOrder (l : List Str) : Prop := l.Pairwise (fun a b => slt a b = true)

theorem inOrder_nil : inOrder [] := List.Pairwise.nil
theorem inOrder_ext : ∀ {a b : List Str}, inOrder a → inOrder b → (∀ x, x ∈ a ↔ x ∈ b) → a = b
  | [], [], _, _, _ => rfl
  | [], y :: b, _, _, h => by have := (h y).2 (by simp); cases this
  | x :: a, [], _, _, h => by have := (h x).1 (by simp); cases this
  | x :: a, y :: b, ha, hb, h => by
    have ha' := List.pairwise_cons.1 ha
    have hb' := List.pairwise_cons.1 hb
    have hxy : x = y := by
      rcases List.mem_cons.1 ((h x).1 (by simp)) with h1 | h1
      · exact h1
      · rcases List.mem_cons.1 ((h y).2 (by simp)) with h2 | h2
        · exact h2.symm
        · have h3 := hb'.1 x h1
          have h4 := ha'.1 y h2
          rw [slt_asymm h3] at h4
          cases h4
    subst hxy
    rw [inOrder_ext ha'.2 hb'.2 (fun z => ?_)]
    constructor
    · intro hz
      rcases List.mem_cons.1 ((h z).1 (by simp [hz])) with h1 | h1
      · subst h1; have := ha'.1 z hz; rw [slt_irrefl] at this; cases this
      · exact h1
    · intro hz
      rcases List.mem_cons.1 ((h z).2 (by simp [hz])) with h1 | h1
      · subst h1; have := hb'.1 z hz; rw [slt_irrefl] at this; cases this
      · exact h1

theorem inOrder_nodup {l : List Str} (h : inOrder l) : l.Nodup := h.imp fun hab => slt_ne hab
theorem inOrder_filter {l : List Str} (h : inOrder l) (p : Str → Bool) : inOrder (l.filter p) := List.Pairwise.filter p h

/-- What sort and compact make of labels. -/
def setOf (l : List Str) : List Str := Lib.compact (l.mergeSort fun x y => decide (x ≤ y))

theorem le_slt (a b : Str) : decide (a ≤ b) = !slt b a := by
  rw [slt_eq, Bool.eq_iff_iff]; simp

theorem sorted_ms (l : List Str) : (l.mergeSort fun x y => decide (x ≤ y)).Pairwise (fun a b => slt b a = false) := by
  have h := List.pairwise_mergeSort (le := fun x y : Str => decide (x ≤ y))
    (fun a b c h1 h2 => by simp only [decide_eq_true_eq] at *; exact List.le_trans h1 h2)
    (fun a b => by simp only [Bool.or_eq_true, decide_eq_true_eq]; exact List.le_total a b) l
  refine h.imp fun {a b} hab => ?_
  rw [le_slt] at hab
  simpa using hab

theorem compact_set (d : List Str) (hd : d.Pairwise (fun a b => slt b a = false)) :
    ∀ m, m ≤ d.length → inOrder (Lib.compactUpTo d.toArray m) ∧ ∀ x, x ∈ Lib.compactUpTo d.toArray m ↔ x ∈ d.take m
  | 0, _ => ⟨by simp [Lib.compactUpTo, inOrder], by simp [Lib.compactUpTo]⟩
  | m + 1, hm => by
    obtain ⟨h1, h2⟩ := compact_set d hd m (by omega)
    have hget : d.toArray[m]! = d[m] := by simp [getElem!_pos, show m < d.length by omega]
    rw [Lib.compactUpTo_succ, List.take_succ_eq_append_getElem (by omega), hget]
    rcases Nat.eq_zero_or_pos m with h0 | h0
    · subst h0
      have : Lib.compactUpTo d.toArray 0 = [] := by simp [Lib.compactUpTo]
      simp [this, Lib.keeps, inOrder]
    · have hget' : d.toArray[m - 1]! = d[m - 1] := by
        have : m - 1 < d.length := by omega
        simp [getElem!_pos, this]
      by_cases he : d[m] = d[m - 1]
      · have hk : Lib.keeps d.toArray m = false := Lib.keeps_neg h0 (by rw [hget, hget', he])
        rw [hk]
        simp only [Bool.false_eq_true, if_false, List.append_nil]
        refine ⟨h1, fun x => ?_⟩
        rw [h2 x, List.mem_append, List.mem_singleton]
        constructor
        · exact Or.inl
        · rintro (h | h)
          · exact h
          · subst h
            rw [he]
            exact List.mem_take_iff_getElem.2 ⟨m - 1, by omega, rfl⟩
      · have hk : Lib.keeps d.toArray m = true := Lib.keeps_pos (by rw [hget, hget']; exact he)
        rw [hk]
        simp only [if_true]
        have hlast : slt d[m - 1] d[m] = true := by
          cases hc : slt d[m - 1] d[m] with
          | true => rfl
          | false =>
            have h3 := List.pairwise_iff_getElem.1 hd (m - 1) m (by omega) (by omega) (by omega)
            exact absurd (slt_tri h3 hc) he
        refine ⟨?_, fun x => by rw [List.mem_append, List.mem_append, h2 x]⟩
        unfold inOrder
        rw [List.pairwise_append]
        refine ⟨h1, by simp, ?_⟩
        intro a ha b hb
        simp at hb
        subst hb
        obtain ⟨j, hj, rfl⟩ := List.mem_take_iff_getElem.1 ((h2 a).1 ha)
        rcases Nat.lt_or_ge j (m - 1) with hjm | hjm
        · have h3 := List.pairwise_iff_getElem.1 hd j (m - 1) (by omega) (by omega) hjm
          cases h4 : slt d[j] d[m - 1] with
          | true => exact slt_trans h4 hlast
          | false => rw [slt_tri h4 h3]; exact hlast
        · obtain rfl : j = m - 1 := by omega
          exact hlast

theorem setOf_order (l : List Str) : inOrder (setOf l) := (compact_set _ (sorted_ms l) _ (Nat.le_refl _)).1
theorem setOf_mem (l : List Str) (x : Str) : x ∈ setOf l ↔ x ∈ l := by
  have h := (compact_set _ (sorted_ms l) _ (Nat.le_refl _)).2 x
  rw [List.take_length] at h
  exact h.trans List.mem_mergeSort
theorem setOf_length_le (l : List Str) : (setOf l).length ≤ l.length := by
  unfold setOf Lib.compact Lib.compactUpTo
  rw [List.length_map]
  refine Nat.le_trans (List.length_filter_le _ _) ?_
  simp
theorem setOf_self {l : List Str} (h : inOrder l) : setOf l = l := inOrder_ext (setOf_order l) h (setOf_mem l)

/-- How many come before a label. -/
def offs (l : List Str) (s : Str) : Nat := l.countP (fun x => slt x s)
theorem offs_le (l : List Str) (s : Str) : offs l s ≤ l.length := List.countP_le_length
theorem offs_split : ∀ (l : List Str) (s : Str), inOrder l → (∀ x ∈ l.take (offs l s), slt x s = true) ∧ (∀ x ∈ l.drop (offs l s), slt x s = false)
  | [], s, _ => by simp [offs]
  | y :: l, s, h => by
    have h' := List.pairwise_cons.1 h
    obtain ⟨h1, h2⟩ := offs_split l s h'.2
    cases hy : slt y s with
    | true =>
      have e : offs (y :: l) s = offs l s + 1 := by simp [offs, hy]
      rw [e, List.take_succ_cons, List.drop_succ_cons]
      refine ⟨fun x hx => ?_, h2⟩
      rcases List.mem_cons.1 hx with rfl | hx
      · exact hy
      · exact h1 x hx
    | false =>
      have hall : ∀ x ∈ l, slt x s = false := by
        intro x hx
        cases hc : slt x s with
        | false => rfl
        | true => have := slt_trans (h'.1 x hx) hc; rw [hy] at this; cases this
      have e : offs (y :: l) s = 0 := by
        simp only [offs, List.countP_eq_zero]
        intro x hx
        rcases List.mem_cons.1 hx with rfl | hx
        · rw [hy]; simp
        · rw [hall x hx]; simp
      rw [e]
      refine ⟨by simp, fun x hx => ?_⟩
      rcases List.mem_cons.1 hx with rfl | hx
      · exact hy
      · exact hall x hx
/-- The place is told by what lies before it and behind. -/
theorem offs_unique (l : List Str) (s : Str) (i : Nat) (hi : i ≤ l.length) (h1 : ∀ k (h : k < i), slt (l[k]'(by omega)) s = true) (h2 : ∀ k (h : k < l.length), i ≤ k → slt l[k] s = false) : offs l s = i := by
  have e : l = l.take i ++ l.drop i := (List.take_append_drop i l).symm
  unfold offs
  rw [e, List.countP_append]
  have e1 : (l.take i).countP (fun x => slt x s) = (l.take i).length := by
    rw [List.countP_eq_length]
    intro x hx
    obtain ⟨k, hk, rfl⟩ := List.mem_take_iff_getElem.1 hx
    exact h1 k (by omega)
  have e2 : (l.drop i).countP (fun x => slt x s) = 0 := by
    rw [List.countP_eq_zero]
    intro x hx
    obtain ⟨k, hk, rfl⟩ := List.mem_drop_iff_getElem.1 hx
    rw [h2 (i + k) (by omega) (by omega)]
    simp
  rw [e1, e2, List.length_take]
  omega

/-- One comes where it stands. -/
def addL (l : List Str) (s : Str) : List Str := if s ∈ l then l else l.take (offs l s) ++ [s] ++ l.drop (offs l s)
theorem insert_order {l : List Str} {s : Str} (h : inOrder l) (hs : s ∉ l) : inOrder (l.take (offs l s) ++ [s] ++ l.drop (offs l s)) := by
  obtain ⟨h1, h2⟩ := offs_split l s h
  have e : l = l.take (offs l s) ++ l.drop (offs l s) := (List.take_append_drop _ l).symm
  have h0 := h
  rw [e] at h0
  obtain ⟨ha, hb, hab⟩ := List.pairwise_append.1 h0
  have h2' : ∀ x ∈ l.drop (offs l s), slt s x = true := by
    intro x hx
    cases hc : slt s x with
    | true => rfl
    | false =>
      have := slt_tri (h2 x hx) hc
      subst this
      exact absurd (List.mem_of_mem_drop hx) hs
  unfold inOrder
  rw [List.append_assoc, List.pairwise_append]
  refine ⟨ha, List.pairwise_cons.2 ⟨h2', hb⟩, fun a ha' b hb' => ?_⟩
  rcases List.mem_append.1 hb' with hb' | hb'
  · simp at hb'; subst hb'; exact h1 a ha'
  · exact hab a ha' b hb'
theorem addL_order {l : List Str} {s : Str} (h : inOrder l) : inOrder (addL l s) := by
  unfold addL
  split
  · exact h
  · rename_i hs; exact insert_order h hs
theorem addL_mem (l : List Str) (s x : Str) : x ∈ addL l s ↔ x ∈ l ∨ x = s := by
  unfold addL
  split
  · rename_i hs
    constructor
    · exact Or.inl
    · rintro (h | h)
      · exact h
      · subst h; exact hs
  · have e : x ∈ l ↔ x ∈ l.take (offs l s) ∨ x ∈ l.drop (offs l s) := by
      rw [← List.mem_append, List.take_append_drop]
    rw [List.mem_append, List.mem_append, List.mem_singleton, e]
    constructor
    · rintro ((h | h) | h)
      · exact .inl (.inl h)
      · exact .inr h
      · exact .inl (.inr h)
    · rintro ((h | h) | h)
      · exact .inl (.inl h)
      · exact .inr h
      · exact .inl (.inr h)
def ofTo (l : List Str) (k : Nat) : List Str := (l.take k).foldl addL []
theorem ofTo_succ (l : List Str) (k : Nat) (h : k < l.length) : ofTo l (k + 1) = addL (ofTo l k) l[k] := by
  unfold ofTo
  rw [List.take_succ_eq_append_getElem h, List.foldl_append]
  rfl
theorem ofTo_spec (l : List Str) : ∀ k, k ≤ l.length → inOrder (ofTo l k) ∧ ∀ x, x ∈ ofTo l k ↔ x ∈ l.take k
  | 0, _ => by simp [ofTo, inOrder]
  | k + 1, h => by
    obtain ⟨h1, h2⟩ := ofTo_spec l k (by omega)
    rw [ofTo_succ l k (by omega)]
    refine ⟨addL_order h1, fun x => ?_⟩
    rw [addL_mem, h2, List.take_succ_eq_append_getElem (by omega), List.mem_append, List.mem_singleton]
theorem ofTo_all (l : List Str) : ofTo l l.length = setOf l := by
  obtain ⟨h1, h2⟩ := ofTo_spec l l.length (Nat.le_refl _)
  rw [List.take_length] at h2
  exact inOrder_ext h1 (setOf_order l) fun x => (h2 x).trans (setOf_mem l x).symm
theorem addL_length (l : List Str) (s : Str) : (addL l s).length ≤ l.length + 1 := by
  unfold addL
  split
  · omega
  · simp only [List.length_append, List.length_take, List.length_drop, List.length_cons, List.length_nil]; omega
theorem ofTo_length (l : List Str) : ∀ k, k ≤ l.length → (ofTo l k).length ≤ k
  | 0, _ => by simp [ofTo]
  | k + 1, h => by
    rw [ofTo_succ l k (by omega)]
    have := addL_length (ofTo l k) l[k]
    have := ofTo_length l k (by omega)
    omega

/-- Those of the one that the other one hasn't; those of both. -/
def lessL (a b : List Str) : List Str := a.filter fun x => !decide (x ∈ b)
def meetL (a b : List Str) : List Str := a.filter fun x => decide (x ∈ b)
theorem less_less (a b : List Str) : lessL a (lessL a b) = meetL a b := by
  unfold lessL meetL
  apply List.filter_congr
  intro x hx
  by_cases h : x ∈ b <;> simp [hx, h]
theorem less_meet_length (a b : List Str) : a.length = (lessL a b).length + (meetL a b).length := by
  unfold lessL meetL
  induction a with
  | nil => rfl
  | cons x r ih =>
    by_cases h : x ∈ b <;> simp [h] <;> omega
theorem join_length {a b : List Str} (ha : inOrder a) (hb : inOrder b) : (setOf (a ++ b)).length = a.length + (lessL b a).length := by
  have hp : (setOf (a ++ b)).Perm (a ++ lessL b a) := by
    rw [List.perm_ext_iff_of_nodup (inOrder_nodup (setOf_order _))]
    · intro x
      rw [setOf_mem, List.mem_append, List.mem_append, lessL, List.mem_filter]
      by_cases h : x ∈ a <;> simp [h]
    · refine List.nodup_append.2 ⟨inOrder_nodup ha, inOrder_nodup (inOrder_filter hb _), ?_⟩
      intro x hx y hy hxy
      subst hxy
      rw [lessL, List.mem_filter] at hy
      simp [hx] at hy
  rw [hp.length_eq, List.length_append]

/-- Are labels in order, none twice? -/
def isB (l : List Str) : Bool := (List.range (l.length - 1)).all fun i => slt (l.getD i []) (l.getD (i + 1) [])
theorem isB_iff (l : List Str) : isB l = true ↔ ∀ i (h : i + 1 < l.length), slt l[i] l[i + 1] = true := by
  unfold isB
  rw [List.all_eq_true]
  constructor
  · intro h i hi
    have := h i (List.mem_range.2 (by omega))
    simpa [List.getD, hi, show i < l.length by omega] using this
  · intro h i hi
    have hi' := List.mem_range.1 hi
    have := h i (by omega)
    simpa [List.getD, show i < l.length by omega, show i + 1 < l.length by omega] using this
theorem isB_order (l : List Str) : isB l = true ↔ inOrder l := by
  rw [isB_iff]
  constructor
  · intro h
    unfold inOrder
    rw [List.pairwise_iff_getElem]
    intro i j hi hj hij
    induction j with
    | zero => omega
    | succ j ih =>
      rcases Nat.lt_or_ge i j with h1 | h1
      · exact slt_trans (ih (by omega) h1) (h j hj)
      · obtain rfl : i = j := by omega
        exact h i hj
  · intro h i hi
    exact List.pairwise_iff_getElem.1 h i (i + 1) (by omega) hi (by omega)
theorem isB_false {l : List Str} {i : Nat} (h : i + 1 < l.length) (hs : slt l[i] l[i + 1] = false) : isB l = false := by
  cases hb : isB l with
  | false => rfl
  | true => rw [(isB_iff l).1 hb i h] at hs; cases hs
end Go.Proofs.YtklandpagieapaaDoor

namespace Go.Proofs.YtklandpagieapaaDoor
open Go.ChangeShapes Go.WideShapes Go.ChangeAt Go.RowKit
set_option linter.unusedVariables false

theorem elStr : ElemTy Tryd.prog 23 9 (.string ByteArray.empty) 1 16 :=
  ⟨Tryd.underlying23, by kernel_rfl, rfl, by omega, by omega⟩

/-- The cell of a label that lies in a list. -/
theorem Rd.str {w : World} {A : Option Addr} {n : Nat} {l : List Str} (h : Rd w 1 A n (strs l)) {k : Nat} (hk : k < l.length) : ∃ b o, A = some ⟨b, o, none⟩ ∧ ∀ j (hj : j < l.length), w.cell? ⟨b, o + j, none⟩ = some (.string (bstr l[j])) := by
  obtain ⟨b, o, rfl, hb, hh⟩ := h.base (by rw [strs_length]; omega)
  exact ⟨b, o, rfl, fun j hj => hh j _ (strs_at l j hj)⟩
theorem rd_len {w : World} {A : Option Addr} {n : Nat} {l : List Str} (h : Rd w 1 A n (strs l)) : l.length = n := by have := h.1; rw [strs_length] at this; omega

theorem isNaN_any (s : ByteArray) (w : World) : Calls Tryd.prog 68 #[.string s] w fun e w' => e = .returned (.bool false) ∧ w' = w := by
  go_enter Tryd.func68, Tryd.ntmps68
  have h : (s.toList == s.toList) = true := by simp
  go_wp2
  go_returns
  exact ⟨rfl, rfl⟩

theorem is_any (A : Option Addr) (l : List Str) (n c : Nat) (w : World) (hr : Rd w 1 A n (strs l)) (hm : n ≤ maxLen) :
    Calls Tryd.prog 42 #[.slice A n c] w fun e w' => e = .returned (.bool (isB l)) ∧ Below w.heap.size w w' := by
  have hl := rd_len hr
  subst hl
  unfold maxLen at hm
  go_enter Tryd.func42, Tryd.ntmps42
  go_wp2
  go_loopw [3] (fun i wr => ∃ k : Nat, i = .int .i64 ((k : Int) + 1) ∧ (k = 0 ∨ k < l.length) ∧ (∀ j (h : j + 1 < l.length), j < k → slt l[j] l[j + 1] = true) ∧ Below w.heap.size w wr) (fun i _ => l.length - (intOf i).toNat)
  case atStart => exact ⟨0, rfl, .inl rfl, by intro j _ h; omega, by go_grown⟩
  case round =>
    obtain ⟨k, rfl, hk, hs, hb⟩ := hrel
    by_cases hlt : k + 1 < l.length
    · obtain ⟨b, o, rfl, hc⟩ := (hr.below hb).str (k := k) (by omega)
      have h1 := hc k (by omega)
      have h2 := hc (k + 1) (by omega)
      clear hc hr
      have hge := bytesLess_bstr l[k] l[k+1]
      cases hc : slt l[k] l[k + 1]
      · rw [hc] at hge
        go_wp2
        have i1 : (k : Int) < (l.length : Int) := by omega
        have i2 : (k : Int) + 1 < (l.length : Int) := by omega
        have i3 : (0 : Int) ≤ (k : Int) + 1 := by omega
        have i4 : ((k : Int) + 1).toNat = k + 1 := by omega
        have hwr : IntKind.i64.wrap (k : Int) = (k : Int) := by rw [IntKind.wrap_i64]; omega
        go_quiet (fail)
        clear i1 i2 i3 i4 hwr
        go_wp2
        go_returns
        exact ⟨by rw [isB_false hlt hc]; rfl, below_drewN hb _⟩
      · rw [hc] at hge
        go_wp2
        have i1 : (k : Int) < (l.length : Int) := by omega
        have i2 : (k : Int) + 1 < (l.length : Int) := by omega
        have i3 : (0 : Int) ≤ (k : Int) + 1 := by omega
        have i4 : ((k : Int) + 1).toNat = k + 1 := by omega
        have hwr : IntKind.i64.wrap (k : Int) = (k : Int) := by rw [IntKind.wrap_i64]; omega
        go_quiet (fail)
        clear i1 i2 i3 i4 hwr
        go_wp2
        go_roundw
        case rel => exact ⟨k + 1, by go_num, .inr (by omega), by intro j hj hjk; rcases Nat.lt_succ_iff_lt_or_eq.1 hjk with h | h; exact hs j hj h; subst h; exact hc, below_drewN hb _⟩
        case measure => simp [intOf] <;> omega
    · go_wp2
      go_returns
      exact ⟨by rw [(isB_iff l).2 (fun i hi => hs i hi (by omega))]; rfl, hb⟩

end Go.Proofs.YtklandpagieapaaDoor

namespace Go.Proofs.YtklandpagieapaaDoor
open Go.ChangeShapes Go.WideShapes Go.ChangeAt Go.RowKit
set_option linter.unusedVariables false

theorem cmpLess_any (a b : Str) (w : World) : Calls Tryd.prog 58 #[.string (bstr a), .string (bstr b)] w fun e w' => e = .returned (.bool (slt a b)) ∧ w' = w := by
  go_enter Tryd.func58, Tryd.ntmps58
  go_wp2_with fail
  refine (isNaN_any _ _).mono ?_
  rintro e w' ⟨rfl, rfl⟩
  have hge := bytesLess_bstr a b
  go_wp2_with fail
  go_returns
  exact ⟨rfl, rfl⟩

theorem slIsNaN_any (s : ByteArray) (w : World) : Calls Tryd.prog 59 #[.string s] w fun e w' => e = .returned (.bool false) ∧ w' = w := by
  go_enter Tryd.func59, Tryd.ntmps59
  have h : (s.toList == s.toList) = true := by simp
  go_wp2
  go_returns
  exact ⟨rfl, rfl⟩

theorem has_at {l : List Str} {s : Str} (h : inOrder l) (hlt : offs l s < l.length) : s ∈ l ↔ l[offs l s] = s := by
  obtain ⟨h1, h2⟩ := offs_split l s h
  constructor
  · intro hm
    obtain ⟨j, hj, e⟩ := List.getElem_of_mem hm
    rcases Nat.lt_trichotomy j (offs l s) with hx | hx | hx
    · have := h1 l[j] (by rw [List.mem_take_iff_getElem]; exact ⟨j, by omega, rfl⟩)
      rw [e, slt_irrefl] at this; cases this
    · subst hx; exact e
    · have h3 := List.pairwise_iff_getElem.1 h _ _ hlt hj hx
      rw [e] at h3
      have h4 := h2 l[offs l s] (by rw [List.mem_drop_iff_getElem]; exact ⟨0, by omega, by simp⟩)
      rw [h4] at h3; cases h3
  · intro e
    rw [← e]
    exact List.getElem_mem hlt
theorem has_end {l : List Str} {s : Str} (h : inOrder l) (hge : ¬ offs l s < l.length) : ¬ s ∈ l := by
  obtain ⟨h1, h2⟩ := offs_split l s h
  intro hm
  have := h1 s (by rw [List.take_of_length_le (by omega)]; exact hm)
  rw [slt_irrefl] at this; cases this

theorem search_any (A : Option Addr) (l : List Str) (s : Str) (n c : Nat) (w : World) (hr : Rd w 1 A n (strs l)) (hm : n ≤ 4000000) (ho : inOrder l) :
    Calls Tryd.prog 52 #[.slice A n c, .string (bstr s)] w fun e w' => e = .returned (.tuple #[.int .i64 (offs l s), .bool (decide (s ∈ l))]) ∧ Below w.heap.size w w' := by
  have hl := rd_len hr
  subst hl
  go_enter Tryd.func52, Tryd.ntmps52
  go_wp2_with fail
  go_loopw [7, 8] (fun u v wr => ∃ i j : Nat, u = .int .i64 i ∧ v = .int .i64 j ∧ i ≤ j ∧ j ≤ l.length ∧ (∀ k (h : k < l.length), k < i → slt l[k] s = true) ∧ (∀ k (h : k < l.length), j ≤ k → slt l[k] s = false) ∧ Below w.heap.size w wr) (fun u v _ => (intOf v - intOf u).toNat)
  case atStart => exact ⟨0, l.length, rfl, rfl, by omega, by omega, by intro j _ h; omega, by intro j _ h; omega, by go_grown⟩
  case round =>
    obtain ⟨i, j, rfl, rfl, hij, hj, hs1, hs2, hb⟩ := hrel
    by_cases hlt : i < j
    · obtain ⟨h, e1, hh1, hh2⟩ : ∃ h : Nat, ((i : Int) + (j : Int)) / 2 = (h : Int) ∧ i ≤ h ∧ h < j := ⟨(i + j) / 2, by omega, by omega, by omega⟩
      obtain ⟨b, o, rfl, hc⟩ := (hr.below hb).str (k := h) (by omega)
      have hc1 := hc h (by omega)
      clear hc hr
      have i1 : (h : Int) < (l.length : Int) := by omega
      go_wp2_with fail
      refine (cmpLess_any _ _ _).mono ?_
      rintro e w' ⟨rfl, rfl⟩
      cases hd : slt l[h] s
      · go_wp2_with fail
        go_roundw
        case rel => exact ⟨i, h, rfl, rfl, hh1, by omega, hs1, by
          intro k hk hhk
          rcases Nat.lt_or_eq_of_le hhk with hx | hx
          · cases hks : slt l[k] s with
            | false => rfl
            | true => rw [slt_trans (List.pairwise_iff_getElem.1 ho _ _ (by omega) hk hx) hks] at hd; cases hd
          · subst hx; exact hd, hb⟩
        case measure => simp [intOf] <;> omega
      · go_wp2_with fail
        go_roundw
        case rel => exact ⟨h + 1, j, by go_num, rfl, by omega, hj, by
          intro k hk hhk
          rcases Nat.lt_succ_iff_lt_or_eq.1 hhk with hx | hx
          · exact slt_trans (List.pairwise_iff_getElem.1 ho _ _ hk (by omega) hx) hd
          · subst hx; exact hd, hs2, hb⟩
        case measure => simp [intOf] <;> omega
    · obtain rfl : i = j := by omega
      have ei : offs l s = i := offs_unique l s i hj (fun k hk => hs1 k (by omega) hk) (fun k hk hik => hs2 k hk hik)
      by_cases hi : i < l.length
      · obtain ⟨b, o, rfl, hc⟩ := (hr.below hb).str (k := i) hi
        have hc1 := hc i hi
        have hh := has_at (l := l) (s := s) ho (by omega)
        simp only [ei] at hh
        clear hc hr
        by_cases hq0 : l[i] = s
        · have hq : ((bstr l[i]).toList == (bstr s).toList) = true := by rw [beq_bstr]; simpa using hq0
          go_wp2_with fail
          go_returns
          exact ⟨by rw [ei, decide_eq_true (hh.2 hq0)]; rfl, hb⟩
        · have hq : ((bstr l[i]).toList == (bstr s).toList) = false := by rw [beq_bstr]; simpa using hq0
          go_wp2_with fail
          refine (slIsNaN_any _ _).mono ?_
          rintro e w' ⟨rfl, rfl⟩
          go_wp2_with fail
          go_returns
          exact ⟨by rw [ei, decide_eq_false (fun h => hq0 (hh.1 h))]; rfl, hb⟩
      · go_wp2_with fail
        go_returns
        exact ⟨by rw [ei, decide_eq_false (has_end ho (by omega))]; rfl, hb⟩

theorem has_any (A : Option Addr) (l : List Str) (s : Str) (n c : Nat) (w : World) (hr : Rd w 1 A n (strs l)) (hm : n ≤ 4000000) (ho : inOrder l) :
    Calls Tryd.prog 43 #[.slice A n c, .string (bstr s)] w fun e w' => e = .returned (.bool (decide (s ∈ l))) ∧ Below w.heap.size w w' := by
  go_enter Tryd.func43, Tryd.ntmps43
  go_wp2_with fail
  refine (search_any A l s n c _ hr hm ho).mono ?_
  rintro e w' ⟨rfl, hb⟩
  go_wp2_with fail
  go_returns
  exact ⟨rfl, hb⟩

theorem offset_any (A : Option Addr) (l : List Str) (s : Str) (n c : Nat) (w : World) (hr : Rd w 1 A n (strs l)) (hm : n ≤ 4000000) (ho : inOrder l) :
    Calls Tryd.prog 48 #[.slice A n c, .string (bstr s)] w fun e w' => e = .returned (.int .i64 (offs l s)) ∧ Below w.heap.size w w' := by
  go_enter Tryd.func48, Tryd.ntmps48
  go_wp2_with fail
  refine (search_any A l s n c _ hr hm ho).mono ?_
  rintro e w' ⟨rfl, hb⟩
  go_wp2_with fail
  go_returns
  exact ⟨rfl, hb⟩
end Go.Proofs.YtklandpagieapaaDoor

namespace Go.Proofs.YtklandpagieapaaDoor
open Go.ChangeShapes Go.WideShapes Go.ChangeAt Go.RowKit
set_option linter.unusedVariables false

/- Two errors that are numbers of one integer type: equal where the numbers are. -/
theorem equal_codes {P : Program} {ti tn : TypeId} {ms : Array (String × TypeId)} {i : TypeInfo} {k : IntKind} (hi : P.underlying ti = some (.interface ms)) (hn : P.underlying tn = some (.int k)) (hinfo : P.info? tn = some i) (hcomp : i.comparable = true) (a b : Int) (w : World) :
    (Op.equal ti (.iface tn (.int k a)) (.iface tn (.int k b))).run P w = .ok (a == b) w := by
  have h : ∀ d : Nat, (Op.equalIn (d + 2) ti (.iface tn (.int k a)) (.iface tn (.int k b))).run P w = .ok (a == b) w := fun d => by
    simp [Op.equalIn, run_underlying hi, run_underlying hn, typeInfo, hinfo, hcomp]
  simp only [Op.equal, Op.maxDepth]
  exact h 9998
theorem codeInfo : ∃ i, Tryd.prog.info? 51 = some i ∧ i.comparable = true := by
  have h : (Tryd.prog.info? 51).map (·.comparable) = some true := by kernel_rfl
  obtain ⟨i, hi, hc⟩ := Option.map_eq_some_iff.1 h
  exact ⟨i, hi, hc⟩
@[go_sem] theorem eql_codes (a b : Int) (w : World) : (binOp .eql 30 (.iface 51 (.int .i64 a)) (.iface 51 (.int .i64 b))).run Tryd.prog w = .ok (.bool (a == b)) w := by
  obtain ⟨i, hi, hc⟩ := codeInfo
  have h := equal_codes (P := Tryd.prog) Tryd.underlying30 Tryd.underlying51 hi hc a b w
  simp only [binOp]
  simp [h]
@[go_sem] theorem neq_codes (a b : Int) (w : World) : (binOp .neq 30 (.iface 51 (.int .i64 a)) (.iface 51 (.int .i64 b))).run Tryd.prog w = .ok (.bool (a != b)) w := by
  obtain ⟨i, hi, hc⟩ := codeInfo
  have h := equal_codes (P := Tryd.prog) Tryd.underlying30 Tryd.underlying51 hi hc a b w
  simp only [binOp]
  simp [h, bne]
end Go.Proofs.YtklandpagieapaaDoor

namespace Go.Proofs.YtklandpagieapaaDoor
open Go.ChangeShapes Go.WideShapes Go.ChangeAt Go.RowKit Go.Sort
set_option linter.unusedVariables false
set_option linter.unusedSimpArgs false

/-- A type's own fields, and where its lists lie. -/
structure TyD where
  kind : Int
  n : Int
  pA : Option Addr
  pn : Nat
  pc : Nat
  lA : Option Addr
  ln : Nat
  lc : Nat
  labels : List Str
  tail : Int
inductive Ty where
  | mk (d : TyD) (l : List Ty)
def Ty.d : Ty → TyD
  | .mk d _ => d
def Ty.l : Ty → List Ty
  | .mk _ l => l
def TyD.cells (d : TyD) : List Value := [.int .i64 d.kind, .int .i64 d.n, .slice d.pA d.pn d.pc, .slice d.lA d.ln d.lc, .int .i64 d.tail]
def Ty.cells (t : Ty) : List Value := t.d.cells
abbrev TyD.arr (d : TyD) : Array Value := #[.int .i64 d.kind, .int .i64 d.n, .slice d.pA d.pn d.pc, .slice d.lA d.ln d.lc, .int .i64 d.tail]
theorem Ty.cells_len (t : Ty) : t.cells.length = 5 := rfl

inductive Ty.In (w : World) : Ty → Prop
  | mk (d : TyD) (l : List Ty) (lab : Rd w 1 d.lA d.ln (strs d.labels)) (par : Rd w 5 d.pA d.pn (l.flatMap Ty.cells)) (cap : d.ln ≤ d.lc ∧ d.lc ≤ maxLen ∧ d.pn ≤ d.pc ∧ d.pc ≤ maxLen ∧ d.ln ≤ 4000000 ∧ d.pn ≤ 4000000) (sub : ∀ x ∈ l, Ty.In w x) : Ty.In w (.mk d l)
theorem Ty.In.lab {w : World} {t : Ty} (h : t.In w) : Rd w 1 t.d.lA t.d.ln (strs t.d.labels) := by cases h; assumption
theorem Ty.In.par {w : World} {t : Ty} (h : t.In w) : Rd w 5 t.d.pA t.d.pn (t.l.flatMap Ty.cells) := by cases h; assumption
theorem Ty.In.cap {w : World} {t : Ty} (h : t.In w) : t.d.ln ≤ t.d.lc ∧ t.d.lc ≤ maxLen ∧ t.d.pn ≤ t.d.pc ∧ t.d.pc ≤ maxLen ∧ t.d.ln ≤ 4000000 ∧ t.d.pn ≤ 4000000 := by cases h; assumption
theorem Ty.In.sub {w : World} {t : Ty} (h : t.In w) : ∀ x ∈ t.l, Ty.In w x := by cases h; assumption
theorem Ty.In.lower {w w' : World} {t : Ty} (h : t.In w) (hb : Below w.heap.size w w') : t.In w' := by
  induction h with
  | mk d l lab par cap sub ih => exact .mk d l (lab.below hb) (par.below hb) cap ih

theorem flat_at {α : Type} {f : α → List Value} {q : Nat} (hq : ∀ y, (f y).length = q) : ∀ (l : List α) (k i : Nat) (hk : k < l.length), i < q → (l.flatMap f)[k * q + i]? = (f l[k])[i]?
  | [], k, i, hk, hi => by simp at hk
  | x :: l, 0, i, hk, hi => by
    rw [List.flatMap_cons, Nat.zero_mul, Nat.zero_add, List.getElem?_append_left (by rw [hq]; exact hi)]; rfl
  | x :: l, k + 1, i, hk, hi => by
    rw [List.flatMap_cons, List.getElem?_append_right (by rw [hq, Nat.add_mul]; omega), hq, show (k + 1) * q + i - q = k * q + i from by rw [Nat.add_mul]; omega]
    rw [flat_at hq l k i (by simpa using hk) hi]; rfl
theorem flat_len {α : Type} {f : α → List Value} {q : Nat} (hq : ∀ y, (f y).length = q) (l : List α) : (l.flatMap f).length = l.length * q := by
  induction l with
  | nil => simp
  | cons x l ih => rw [List.flatMap_cons, List.length_append, hq, ih, List.length_cons, Nat.add_mul]; omega
theorem Ty.In.len {w : World} {t : Ty} (h : t.In w) : t.l.length = t.d.pn := by have := h.par.1; rw [flat_len Ty.cells_len] at this; omega
theorem Ty.In.labLen {w : World} {t : Ty} (h : t.In w) : t.d.labels.length = t.d.ln := by have := h.lab.1; rw [strs_length] at this; omega

/-- A type's own fields lie at a place. -/
structure TyD.At (d : TyD) (w : World) (b o : Nat) : Prop where
  c0 : w.cell? ⟨b, o, none⟩ = some (.int .i64 d.kind)
  c1 : w.cell? ⟨b, o + 1, none⟩ = some (.int .i64 d.n)
  c2 : w.cell? ⟨b, o + 2, none⟩ = some (.slice d.pA d.pn d.pc)
  c3 : w.cell? ⟨b, o + 3, none⟩ = some (.slice d.lA d.ln d.lc)
  c4 : w.cell? ⟨b, o + 4, none⟩ = some (.int .i64 d.tail)
theorem TyD.At.lower {d : TyD} {w w' : World} {b o : Nat} (h : d.At w b o) (hb : Below w.heap.size w w') : d.At w' b o :=
  ⟨cell_below hb h.c0, cell_below hb h.c1, cell_below hb h.c2, cell_below hb h.c3, cell_below hb h.c4⟩
theorem TyD.At.lt {d : TyD} {w : World} {b o : Nat} (h : d.At w b o) : b < w.heap.size := World.block_lt_of_cell? w _ h.c0
/-- The parts, each where it lies. -/
theorem Ty.In.part {w : World} {t : Ty} (h : t.In w) {k : Nat} (hk : k < t.l.length) : ∃ b o, t.d.pA = some ⟨b, o, none⟩ ∧ ∀ j (hj : j < t.l.length), (t.l[j]).d.At w b (o + j * 5) := by
  obtain ⟨b, o, e, hb, hh⟩ := h.par.base (by rw [flat_len Ty.cells_len]; omega)
  refine ⟨b, o, e, fun j hj => ⟨?_, ?_, ?_, ?_, ?_⟩⟩
  · exact hh (j * 5 + 0) _ (flat_at Ty.cells_len t.l j 0 hj (by omega))
  · exact hh (j * 5 + 1) _ (flat_at Ty.cells_len t.l j 1 hj (by omega))
  · exact hh (j * 5 + 2) _ (flat_at Ty.cells_len t.l j 2 hj (by omega))
  · exact hh (j * 5 + 3) _ (flat_at Ty.cells_len t.l j 3 hj (by omega))
  · exact hh (j * 5 + 4) _ (flat_at Ty.cells_len t.l j 4 hj (by omega))

/-! ### A type's own fields -/
def TyD.bareB (d : TyD) (m : Int) : Bool := decide ((d.pn : Int) = m) && decide (d.ln = 0) && decide (d.tail = -1)
def TyD.fieldsB (d : TyD) : Bool :=
  if d.kind = 4 ∨ d.kind = 5 then decide (d.n = 0) && decide (-1 ≤ d.tail) && decide (d.pn = d.ln) && isB d.labels && !decide (([] : Str) ∈ d.labels)
  else if d.kind = 7 then decide (0 ≤ d.n) && d.bareB 0
  else if d.kind = 3 then decide (d.n = 0) && d.bareB 2
  else if d.kind = 6 then decide (d.n = 0) && d.bareB 1
  else if d.kind = 1 ∨ d.kind = 2 then decide (d.n = 0) && d.bareB 0
  else false

theorem isBare_any (d : TyD) (b o : Nat) (m : Int) (w : World) (h : d.At w b o) : Calls Tryd.prog 44 #[.pointer (some ⟨b, o, none⟩), .int .i64 m] w fun e w' => e = .returned (.bool (d.bareB m)) ∧ w' = w := by
  obtain ⟨c0, c1, c2, c3, c4⟩ := h
  unfold TyD.bareB
  by_cases h1 : (d.pn : Int) = m
  · have q1 : ((d.pn : Int) == m) = true := by simpa using h1
    by_cases h2 : d.ln = 0
    · have q2 : ((d.ln : Int) == 0) = true := by simpa using h2
      go_enter Tryd.func44, Tryd.ntmps44
      go_wp2_with fail
      go_returns
      exact ⟨by simp [h1, h2]; rfl, rfl⟩
    · have q2 : ((d.ln : Int) == 0) = false := by simpa using h2
      go_enter Tryd.func44, Tryd.ntmps44
      go_wp2_with fail
      go_returns
      exact ⟨by simp [h2], rfl⟩
  · have q1 : ((d.pn : Int) == m) = false := by simpa using h1
    go_enter Tryd.func44, Tryd.ntmps44
    go_wp2_with fail
    go_returns
    exact ⟨by simp [h1], rfl⟩
end Go.Proofs.YtklandpagieapaaDoor

namespace Go.Proofs.YtklandpagieapaaDoor
open Go.ChangeShapes Go.WideShapes Go.ChangeAt Go.RowKit Go.Sort
set_option linter.unusedVariables false
set_option linter.unusedSimpArgs false

set_option maxHeartbeats 1000000 in
theorem fieldsMay_plain (d : TyD) (b o : Nat) (w : World) (h : d.At w b o) (h45 : ¬ (d.kind = 4 ∨ d.kind = 5)) :
    Calls Tryd.prog 30 #[.pointer (some ⟨b, o, none⟩)] w fun e w' => e = .returned (.bool d.fieldsB) ∧ w' = w := by
  have hB := fun m => isBare_any d b o m w h
  obtain ⟨c0, c1, c2, c3, c4⟩ := h
  have k4 : (d.kind == 4) = false := by simpa using fun e => h45 (.inl e)
  have k5 : (d.kind == 5) = false := by simpa using fun e => h45 (.inr e)
  have HB := Lib.hid hB
  clear hB
  unfold TyD.fieldsB
  rw [if_neg h45]
  by_cases h7 : d.kind = 7
  · rw [if_pos h7]
    rw [h7] at c0 k4 k5
    by_cases hn : 0 ≤ d.n
    · have hn' : ¬ d.n < 0 := by omega
      go_enter Tryd.func30, Tryd.ntmps30
      go_wp2_with fail
      refine (HB.out 0).mono ?_
      rintro e w' ⟨rfl, rfl⟩
      go_wp2_with fail
      go_returns
      exact ⟨by simp [hn], rfl⟩
    · have e : (decide (0 ≤ d.n) && d.bareB 0) = false := by rw [decide_eq_false hn]; rfl
      rw [e]
      go_enter Tryd.func30, Tryd.ntmps30
      go_wp2_with fail
      go_returns
      exact ⟨rfl, rfl⟩
  rw [if_neg h7]
  have k7 : (d.kind == 7) = false := by simpa using h7
  by_cases hn : d.n = 0
  · have q : (d.n == 0) = true := by simpa using hn
    by_cases h3 : d.kind = 3
    · rw [if_pos h3]
      rw [h3] at c0 k4 k5 k7
      go_enter Tryd.func30, Tryd.ntmps30
      go_wp2_with fail
      refine (HB.out 2).mono ?_
      rintro e w' ⟨rfl, rfl⟩
      go_wp2_with fail
      go_returns
      exact ⟨by simp [hn], rfl⟩
    rw [if_neg h3]
    have k3 : (d.kind == 3) = false := by simpa using h3
    by_cases h6 : d.kind = 6
    · rw [if_pos h6]
      rw [h6] at c0 k4 k5 k7 k3
      go_enter Tryd.func30, Tryd.ntmps30
      go_wp2_with fail
      refine (HB.out 1).mono ?_
      rintro e w' ⟨rfl, rfl⟩
      go_wp2_with fail
      go_returns
      exact ⟨by simp [hn], rfl⟩
    rw [if_neg h6]
    have k6 : (d.kind == 6) = false := by simpa using h6
    by_cases h1 : d.kind = 1
    · rw [if_pos (.inl h1)]
      rw [h1] at c0 k4 k5 k7 k3 k6
      go_enter Tryd.func30, Tryd.ntmps30
      go_wp2_with fail
      refine (HB.out 0).mono ?_
      rintro e w' ⟨rfl, rfl⟩
      go_wp2_with fail
      go_returns
      exact ⟨by simp [hn], rfl⟩
    have k1 : (d.kind == 1) = false := by simpa using h1
    by_cases h2 : d.kind = 2
    · rw [if_pos (.inr h2)]
      rw [h2] at c0 k4 k5 k7 k3 k6 k1
      go_enter Tryd.func30, Tryd.ntmps30
      go_wp2_with fail
      refine (HB.out 0).mono ?_
      rintro e w' ⟨rfl, rfl⟩
      go_wp2_with fail
      go_returns
      exact ⟨by simp [hn], rfl⟩
    rw [if_neg (by rintro (e | e); exact h1 e; exact h2 e)]
    have k2 : (d.kind == 2) = false := by simpa using h2
    go_enter Tryd.func30, Tryd.ntmps30
    go_wp2_with fail
    go_returns
    exact ⟨rfl, rfl⟩
  · have q : (d.n == 0) = false := by simpa using hn
    have e : (if d.kind = 3 then decide (d.n = 0) && d.bareB 2 else if d.kind = 6 then decide (d.n = 0) && d.bareB 1 else if d.kind = 1 ∨ d.kind = 2 then decide (d.n = 0) && d.bareB 0 else false) = false := by
      rw [decide_eq_false hn]; simp
    rw [e]
    have HK := Lib.hid (And.intro k4 (And.intro k5 k7))
    by_cases hk : d.kind = 3 ∨ d.kind = 6 ∨ d.kind = 1 ∨ d.kind = 2
    · clear k4 k5 k7
      rcases hk with h3 | h6 | h1 | h2
      · rw [h3] at c0
        go_enter Tryd.func30, Tryd.ntmps30
        go_wp2_with fail
        go_returns
        exact ⟨rfl, rfl⟩
      · rw [h6] at c0
        go_enter Tryd.func30, Tryd.ntmps30
        go_wp2_with fail
        go_returns
        exact ⟨rfl, rfl⟩
      · rw [h1] at c0
        go_enter Tryd.func30, Tryd.ntmps30
        go_wp2_with fail
        go_returns
        exact ⟨rfl, rfl⟩
      · rw [h2] at c0
        go_enter Tryd.func30, Tryd.ntmps30
        go_wp2_with fail
        go_returns
        exact ⟨rfl, rfl⟩
    · have k3 : (d.kind == 3) = false := by simpa using fun e => hk (.inl e)
      have k6 : (d.kind == 6) = false := by simpa using fun e => hk (.inr (.inl e))
      have k1 : (d.kind == 1) = false := by simpa using fun e => hk (.inr (.inr (.inl e)))
      have k2 : (d.kind == 2) = false := by simpa using fun e => hk (.inr (.inr (.inr e)))
      go_enter Tryd.func30, Tryd.ntmps30
      go_wp2_with fail
      go_returns
      exact ⟨rfl, rfl⟩
end Go.Proofs.YtklandpagieapaaDoor

namespace Go.Proofs.YtklandpagieapaaDoor
open Go.ChangeShapes Go.WideShapes Go.ChangeAt Go.RowKit

/-- An operation that its guard leaves out, its slot empty already. -/
theorem wpQuiet_skip {P : Program} {ops : Array Oper} {C : World → Prop} {Q : Act → Prop} {a : Act} {o : Oper} {rest : List Oper} (h1 : Region.wanted o (yielded ops a.tmps) = false) (h2 : a.put o.dst undef = a) (h : wpQuiet P ops C Q rest a) : wpQuiet P ops C Q (o :: rest) a := by
  unfold wpQuiet
  rw [if_neg (by rw [h1]; simp), h2]
  exact h
end Go.Proofs.YtklandpagieapaaDoor
