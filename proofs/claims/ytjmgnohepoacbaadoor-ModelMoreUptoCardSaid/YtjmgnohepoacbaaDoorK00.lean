/-
  Small lemmas on worlds that every text of this seat uses. Plain, about no program.
  What a slice holds: 'Rd w size A n cs': the slice with address A and length n holds the cells cs (size cells an element); and how that lasts.
  Strings and lists of strings: how they lie, and how two are held against each other. About no program.
  Expressions as they lie in memory: their own fields, their parts.
  How many nodes expressions have. About no program.
  Values of the machine, about no memory; how they lie in memory.
  The machine's state, and how it lies in memory.
  The machine's own small steps.
  The machine: what is begun next, names that are bound, functions.
  The machine: a value is told.
  The machine: a name's value.
  The machine: an expression that waits.
  The machine: the last expression that waits has ended.
  The machine: a value is told, or a fault.
-/
import Derived.Test.YtjmgnohepoacbaaDoorRows
import Derived.WalkKit
import Derived.ProofKit
import Derived.OpenShut
import Derived.Handy
import Derived.Lib.Hide
import Derived.Deep.QuietTactic
import Derived.Deep.Draws
import Derived.BigQuiet
import Derived.Maps.AppendAt
import Derived.Deep.AppendLies
import Derived.Laws.Cover1
import Derived.Sort.OwnSorted
import Derived.Lib.QuietBelow
import Derived.Lib.Builder
import Derived.Deep.RegionLaw
import Derived.Deep.Cut
namespace Go.Proofs.YtjmgnohepoacbaaDoor
open Go.ChangeShapes Go.WideShapes Go.ChangeAt Go.RowKit
set_option linter.unusedVariables false

theorem below_drewN {B : Nat} {a w : World} (h : Below B a w) (n : Nat) : Below B a (w.drewN n) := ⟨h.os, h.tape, h.output, h.size, h.block⟩
/-- What turned nothing that was there, and then again. -/
theorem below_then {a b c : World} (h : Below a.heap.size a b) (k : Below b.heap.size b c) : Below a.heap.size a c := h.trans (k.mono h.size)
theorem below_cells {W w1 : World} (hb : Below W.heap.size W w1) : (∀ b o, b < W.heap.size → w1.cell? ⟨b, o, none⟩ = W.cell? ⟨b, o, none⟩) ∧ (∀ b o, b < W.heap.size → w1.frozen? ⟨b, o, none⟩ = W.frozen? ⟨b, o, none⟩) :=
  ⟨fun b o h => hb.cell (p := ⟨b, o, none⟩) h, fun b o h => hb.frozen (p := ⟨b, o, none⟩) h⟩
theorem ret_eq {u v : Value} (h : u = v) : Ending.returned u = .returned v := by rw [h]
theorem cell_below {w w' : World} {p : Addr} {v : Value} (hb : Below w.heap.size w w') (h : w.cell? p = some v) : w'.cell? p = some v := (hb.cell (World.block_lt_of_cell? w p h)).trans h
theorem cell_alloc {w : World} {p : Addr} {v : Value} {o : Obj} (h : w.cell? p = some v) : (w.alloc o).cell? p = some v := by rw [World.cell?_alloc_lt w o p (World.block_lt_of_cell? w p h)]; exact h
theorem cell_new (w : World) (C : Array Value) (t : TypeId) (j : Nat) {v : Value} (h : C[j]? = some v) {fr : Nat × Nat} : (w.alloc (.cells C t fr)).cell? ⟨w.heap.size, j, none⟩ = some v := by rw [World.cell?_alloc_mark]; exact h

end Go.Proofs.YtjmgnohepoacbaaDoor

namespace Go.Proofs.YtjmgnohepoacbaaDoor
open Go.ChangeShapes Go.WideShapes Go.ChangeAt Go.RowKit
set_option linter.unusedVariables false

@[go_sem] theorem add_block (a : Addr) (n : Nat) : (a.add n).block = a.block := by unfold Addr.add; split <;> rfl
theorem add_add (a : Addr) (i j : Nat) : (a.add i).add j = a.add (i + j) := by
  unfold Addr.add
  by_cases hi : i = 0
  · subst hi; simp
  · by_cases hj : j = 0
    · subst hj; simp [hi]
    · simp [hi, hj, Nat.add_assoc]
theorem add_zero (a : Addr) : a.add 0 = a := by simp [Addr.add]

/-- The cells from an address on. -/
def Held (w : World) (a : Addr) (cs : List Value) : Prop := ∀ j u, cs[j]? = some u → w.cell? (a.add j) = some u

/-- What a slice holds. -/
def Rd (w : World) (size : Nat) (A : Option Addr) (n : Nat) (cs : List Value) : Prop :=
  cs.length = n * size ∧ (0 < cs.length → ∃ a, A = some a ∧ Held w a cs)

section
variable {w w' : World} {size n : Nat} {A : Option Addr} {cs : List Value}
theorem Held.block {a : Addr} (h : Held w a cs) (h0 : 0 < cs.length) : a.block < w.heap.size := by
  have h1 := h 0 cs[0] (List.getElem?_eq_getElem h0)
  rw [add_zero] at h1
  exact World.block_lt_of_cell? w a h1
theorem Held.keep {a : Addr} (h : Held w a cs) (h0 : 0 < cs.length) (hk : ∀ p : Addr, p.block < w.heap.size → w'.cell? p = w.cell? p) : Held w' a cs :=
  fun j u hu => (hk _ (by rw [add_block]; exact h.block h0)).trans (h j u hu)
theorem Rd.nil (w : World) (size : Nat) (A : Option Addr) : Rd w size A 0 [] := ⟨by simp, fun h => absurd h (by simp)⟩
theorem Rd.len (h : Rd w size A n cs) : cs.length = n * size := h.1
theorem Rd.keep (h : Rd w size A n cs) (hk : ∀ p : Addr, p.block < w.heap.size → w'.cell? p = w.cell? p) : Rd w' size A n cs :=
  ⟨h.1, fun hn => let ⟨a, e, hc⟩ := h.2 hn; ⟨a, e, hc.keep hn hk⟩⟩
theorem Rd.below (h : Rd w size A n cs) (hb : Below w.heap.size w w') : Rd w' size A n cs := h.keep fun _ hp => hb.cell hp
theorem Rd.drewN (h : Rd w size A n cs) (k : Nat) : Rd (w.drewN k) size A n cs := h
theorem Rd.drew (h : Rd w size A n cs) : Rd w.drew size A n cs := h
theorem Rd.alloc (h : Rd w size A n cs) (o : Obj) : Rd (w.alloc o) size A n cs := h.keep fun p hp => World.cell?_alloc_lt w o p (by omega)
theorem Rd.at_ (h : Rd w size A n cs) {k : Nat} (hk : k < cs.length) : ∃ a u, A = some a ∧ cs[k]? = some u ∧ w.cell? (a.add k) = some u := by
  obtain ⟨a, e, hc⟩ := h.2 (by omega)
  exact ⟨a, cs[k], e, List.getElem?_eq_getElem hk, hc k _ (List.getElem?_eq_getElem hk)⟩
theorem Rd.addr (h : Rd w size A n cs) (h0 : 0 < cs.length) : ∃ a, A = some a ∧ a.block < w.heap.size ∧ Held w a cs := by
  obtain ⟨a, e, hc⟩ := h.2 h0
  exact ⟨a, e, hc.block h0, hc⟩
theorem Rd.of_own {base : Nat} {e : TypeId} {c : Nat} (h : w.ownsRow base e size (.slice A n c) n cs) : Rd w size A n cs := by
  refine ⟨h.1, fun hn => ?_⟩
  rcases h.2 with ⟨hv, h0⟩ | ⟨g, cap, cur, hv, hb, hg, hnc, hcm, hcs, ht⟩
  · have := h.1; rw [h0] at this; omega
  · have hA : A = some ⟨g, 0, none⟩ := by injection hv
    subst hA
    exact ⟨_, rfl, h.cells (g := g) rfl⟩
end
/-- What the walk wants to know of a slice's type: t is the slice's number, e its element's, z the element's zero. -/
structure ElemTy (P : Program) (t e : TypeId) (z : Value) (size bytes : Nat) : Prop where
  under : P.underlying t = some (.slice e)
  info : (P.info? e).map (fun i => (i.zero, i.size, i.bytes)) = some (some z, size, bytes)
  zs : z.cells.size = size
  pos : 0 < size
  posb : 0 < bytes

/-- A literal's row, just made. -/
theorem Rd.lit (w : World) (cs : Array Value) (e : TypeId) {size n : Nat} (h : cs.size = n * size) {fr : Nat × Nat} : Rd (w.alloc (.cells cs e fr)) size (some ⟨w.heap.size, 0, none⟩) n cs.toList := by
  refine ⟨by simpa using h, fun _ => ⟨_, rfl, fun j u hu => ?_⟩⟩
  rw [Addr.add_lit, Nat.zero_add]
  rw [World.cell?_alloc_mark]
  simpa using hu

theorem own_below {base : Nat} {e : TypeId} {size n : Nat} {v : Value} {xs : List Value} {w w' : World} (h : w.ownsRow base e size v n xs) (hb : Below w.heap.size w w') : w'.ownsRow base e size v n xs := by
  refine ⟨h.1, ?_⟩
  rcases h.2 with hn | ⟨g, cap, cur, rfl, hb', hgg, rest⟩
  · exact .inl hn
  · exact .inr ⟨g, cap, cur, rfl, hb', (hb.block g (Array.getElem?_eq_some_iff.1 hgg).1).trans hgg, rest⟩

theorem own_cap {base : Nat} {e : TypeId} {size n : Nat} {v : Value} {xs : List Value} {w : World} (h : w.ownsRow base e size v n xs) : ∃ A c, v = .slice A n c ∧ n ≤ c ∧ c ≤ maxLen ∧ (A = none → c = 0) := by
  rcases h.2 with ⟨rfl, rfl⟩ | ⟨g, cap, cur, rfl, hb', hgg, h1, h2, _⟩
  · exact ⟨none, 0, rfl, Nat.le_refl _, by simp [maxLen], fun _ => rfl⟩
  · exact ⟨_, cap, rfl, h1, h2, fun h => by cases h⟩

/-- 'append' onto a row of the call's own, of a slice that is nil, empty, or not. -/
theorem run_app {P : Program} {t e : TypeId} {z : Value} {size bytes : Nat} (T : ElemTy P t e z size bytes) (w : World) (ty : TypeId) (base : Nat)
    (v : Value) (n : Nat) (xs : List Value) (hown : w.ownsRow base e size v n xs) (A : Option Addr) (m c : Nat) (news : List Value) (hr : Rd w size A m news) (h1 : ∀ u ∈ news, u.oneCell' = true)
    (hbytes : (n + m) * bytes ≤ 140737488355328) (hbase : base ≤ w.heap.size) :
    ∃ v' w', (Builtin.append_ #[t, t] ty #[v, .slice A m c]).run P w = .ok v' w' ∧ w'.ownsRow base e size v' (n + m) (xs ++ news) ∧ w.grownBy w' v.ownBlock ∧ (v'.ownBlock = v.ownBlock ∨ v'.ownBlock = some w.heap.size) := by
  obtain ⟨i, hi, hz, hs, hb⟩ := info_parts T.info
  have h63 : n + m ≤ maxLen := by
    have := Nat.le_mul_of_pos_right (n + m) T.posb
    simp only [maxLen]; omega
  rcases Nat.eq_zero_or_pos m with h0 | h0
  · subst h0
    have hn : news = [] := List.eq_nil_of_length_eq_zero (by have := hr.1; omega)
    subst hn
    have hrun : (Builtin.append_ #[t, t] ty #[v, .slice A 0 c]).run P w = .ok v w := by
      rcases hown.2 with ⟨rfl, rfl⟩ | ⟨g, cap, cur, rfl, _, _, hnc, _⟩
      · cases A with
        | none => simp [Builtin.append_, run_underlying T.under, sizeOf, typeInfo, hi, Builtin.lenOf, Builtin.firstCells]
        | some a => simp [Builtin.append_, run_underlying T.under, sizeOf, typeInfo, hi, Builtin.lenOf, Builtin.firstCells, loadCells, loadCellsFrom]
      · cases A with
        | none => simp [Builtin.append_, run_underlying T.under, sizeOf, typeInfo, hi, Builtin.lenOf, Builtin.firstCells, hnc, storeCells]
        | some a => simp [Builtin.append_, run_underlying T.under, sizeOf, typeInfo, hi, Builtin.lenOf, Builtin.firstCells, hnc, storeCells, loadCells, loadCellsFrom]
    exact ⟨v, w, hrun, by simpa using hown, World.grownBy.refl w _, .inl rfl⟩
  · have hl : 0 < news.length := by rw [hr.1]; exact Nat.mul_pos h0 T.pos
    obtain ⟨a, rfl, hh⟩ := hr.2 hl
    obtain ⟨v', w', h2, h3, h4, _, h5⟩ := run_append_own_at (P := P) w base t ty e i z size bytes T.under hi hz hs hb T.zs T.pos v n xs hown a m c news hr.1 hh h1 h63 hbytes hbase
    exact ⟨v', w', h2, h3, h4, h5⟩

theorem wpList_app {P : Program} {t e : TypeId} {z : Value} {size bytes : Nat} (T : ElemTy P t e z size bytes) (w : World) {ops : Array Oper} {rest : List Oper} {o : Oper} {a : Act} {Q : Exit → Act → World → Prop} (hgd : o.guard = none) (s x : Operand)
    (ho : o.op = .call { callee := .builtin .append, args := #[s, x], argTypes := #[t, t] }) (base : Nat)
    (v : Value) (n : Nat) (xs : List Value) (hs : a.eval s = v) (hown : w.ownsRow base e size v n xs) (A : Option Addr) (m c : Nat) (news : List Value) (hx : a.eval x = .slice A m c) (hr : Rd w size A m news) (h1 : ∀ u ∈ news, u.oneCell' = true)
    (hbytes : (n + m) * bytes ≤ 140737488355328) (hbase : base ≤ w.heap.size)
    (h : ∀ v' w', w'.ownsRow base e size v' (n + m) (xs ++ news) → Below base w w' → w.grownBy w' v.ownBlock → (v'.ownBlock = v.ownBlock ∨ v'.ownBlock = some w.heap.size) → wpList P ops Q rest (a.put o.dst v') w') : wpList P ops Q (o :: rest) a w :=
  wpList_plain hgd fun _ hK => by
    obtain ⟨v', w', hrun, h2, h3, h4⟩ := run_app T w o.type base v n xs hown A m c news hr h1 hbytes hbase
    unfold Oper.wp execOp
    simp only [ho, resolve, invoke, builtin, Sem.run_bind, Sem.run_pure, Result.andThen_ok, List.map_toArray, List.map_cons, List.map_nil, hs, hx, hrun]
    exact hK _ _ (h v' w' h2 ((Below.refl _ _).grown h3 hbase (fun k hk => (hown.lt k hk).1)) h3 h4)
/-- n zeros, as cells. -/
def zeros (z : Value) : Nat → List Value
  | 0 => []
  | n + 1 => z.cells.toList ++ zeros z n
theorem zeros_length (z : Value) : ∀ n, (zeros z n).length = n * z.cells.size
  | 0 => by simp [zeros]
  | n + 1 => by simp only [zeros, List.length_append, zeros_length z n, Nat.add_mul]; simp; omega
theorem zeros_at (z : Value) : ∀ (n j : Nat), j < n * z.cells.size → (zeros z n)[j]? = z.cells[j % z.cells.size]?
  | 0, j, h => by omega
  | n + 1, j, h => by
    rw [Nat.add_mul] at h
    simp only [zeros, List.getElem?_append]
    by_cases hj : j < z.cells.size
    · rw [if_pos (by simpa using hj), Nat.mod_eq_of_lt hj]; simp
    · rw [if_neg (by simpa using hj)]
      have hlen : z.cells.toList.length = z.cells.size := by simp
      rw [hlen, zeros_at z n (j - z.cells.size) (by omega)]
      congr 1
      rw [Nat.mod_eq_sub_mod (by omega : j ≥ z.cells.size)]
theorem madeCells_zeros (z : Value) (n : Nat) (h : 0 < z.cells.size) : (madeCells z.cells (n * z.cells.size)).toList = zeros z n := by
  apply List.ext_getElem?
  intro j
  by_cases hj : j < n * z.cells.size
  · rw [zeros_at z n j hj]
    have hm : j % z.cells.size < z.cells.size := Nat.mod_lt _ h
    simp [madeCells, hj, hm]
  · rw [List.getElem?_eq_none (by simpa [madeCells] using hj), List.getElem?_eq_none (by rw [zeros_length]; omega)]

theorem below_of_grown {w w' : World} {row : Option Nat} {B : Nat} (hg : w.grownBy w' row) (hB : B ≤ w.heap.size) (hr : ∀ k, row = some k → B ≤ k) : Below B w w' :=
  (Below.refl B w).grown hg hB hr

/-- 'make([]T, n, m)', n and m variables. -/
theorem wpList_mk {P : Program} {t e : TypeId} {z : Value} {size bytes : Nat} (T : ElemTy P t e z size bytes) (w : World) {ops : Array Oper} {rest : List Oper} {o : Oper} {a : Act} {Q : Exit → Act → World → Prop} (hgd : o.guard = none) (l c : Operand)
    (hop : o.op = Op.makeSlice t l c) (base : Nat) (kl kc : IntKind) (L C : Int) (n m : Nat) (hl : a.eval l = .int kl L) (hc : a.eval c = .int kc C) (hL : L = (n : Int)) (hC : C = (m : Int)) (hnm : n ≤ m) (hbytes : bytes * m ≤ 281474976710656) (hbase : base ≤ w.heap.size)
    (hK : ∀ w', w'.ownsRow base e size (.slice (some ⟨w.heap.size, 0, none⟩) n m) n (zeros z n) → Below w.heap.size w w' → w.heap.size < w'.heap.size → wpList P ops Q rest (a.put o.dst (.slice (some ⟨w.heap.size, 0, none⟩) n m)) w') :
    wpList P ops Q (o :: rest) a w := by
  obtain ⟨i, hi, hz, hs, hb⟩ := info_parts T.info
  have hpos := T.pos
  have hposb := T.posb
  have hzs := T.zs
  have hmm : m ≤ 281474976710656 := Nat.le_trans (by have := Nat.le_mul_of_pos_left m hposb; omega) hbytes
  have hbb : (bytes : Int) * (m : Int) ≤ 281474976710656 := by
    have h : ((bytes * m : Nat) : Int) ≤ 281474976710656 := by omega
    rwa [Int.natCast_mul] at h
  refine wpList_plain hgd fun K hK' => ?_
  subst hL
  subst hC
  have hrun := run_make (P := P) w t e i z T.under hi hz kl kc (n : Int) (m : Int) (by omega) (by omega) (by rw [hb]; exact hbb) (by omega)
  rw [hs] at hrun
  simp only [Int.toNat_natCast] at hrun
  unfold Oper.wp
  simp [execOp, hop, hl, hc, hrun, Result.andThen]
  refine hK' _ _ (hK _ ⟨by rw [zeros_length, hzs], .inr ⟨w.heap.size, m, _, rfl, hbase, heap_alloc_new w _, hnm, by simp only [maxLen]; omega, size_madeCells _ _, ?_⟩⟩ ((Below.refl _ _).alloc (Nat.le_refl _) _) (by simp))
  have e1 := madeCells_zeros z m (by omega)
  rw [hzs] at e1
  rw [e1]
  obtain ⟨d, rfl⟩ : ∃ d, m = n + d := ⟨m - n, by omega⟩
  clear hrun e1 hbytes hnm hmm hK hl hc hbb
  induction n with
  | zero => simp [zeros]
  | succ n ih =>
    rw [show n + 1 + d = (n + d) + 1 from by omega]
    simp only [zeros, Nat.add_mul]
    rw [show n * size + 1 * size = z.cells.toList.length + n * size from by simp [hzs]; omega, List.take_length_add_append, ih]

/-- A part of a slice. -/
theorem Rd.cut {w : World} {size n : Nat} {A : Option Addr} {cs : List Value} (h : Rd w size A n cs) {lo hi k : Nat} (h1 : lo ≤ hi) (h2 : hi ≤ n) (hk : k = lo * size) : Rd w size (A.map (fun x => x.add k)) (hi - lo) ((cs.drop (lo * size)).take ((hi - lo) * size)) := by
  subst hk
  have e1 : (hi - lo) * size ≤ n * size - lo * size := by rw [← Nat.sub_mul]; exact Nat.mul_le_mul_right _ (by omega)
  refine ⟨by rw [List.length_take, List.length_drop, h.1]; omega, fun h0 => ?_⟩
  obtain ⟨a, rfl, hh⟩ := h.2 (by rw [List.length_take, List.length_drop] at h0; omega)
  refine ⟨_, rfl, fun j u hu => ?_⟩
  rw [add_add]
  refine hh _ u ?_
  rw [List.getElem?_take] at hu
  split at hu
  · rwa [List.getElem?_drop] at hu
  · cases hu
/-- 's[lo:]', as the model has it. -/
theorem Rd.from_ {w : World} {size n c : Nat} {A : Option Addr} {cs : List Value} (h : Rd w size A n cs) {lo k : Nat} (h1 : lo ≤ n) (hc : n ≤ c) (hk : k = lo * size) : Rd w size (if c = lo then A else A.map (fun x => x.add k)) (n - lo) (cs.drop (lo * size)) := by
  have h2 := h.cut (lo := lo) (hi := n) h1 (Nat.le_refl _) hk
  have e : (cs.drop (lo * size)).take ((n - lo) * size) = cs.drop (lo * size) := by
    apply List.take_of_length_le
    rw [List.length_drop, h.1, Nat.sub_mul]; exact Nat.le_refl _
  rw [e] at h2
  split
  · obtain rfl : n = lo := by omega
    refine ⟨h2.1, fun h0 => ?_⟩
    have := h2.1
    simp only [Nat.sub_self, Nat.zero_mul] at this
    omega
  · exact h2
/-- A slice that holds something: its address written out. -/
theorem Rd.base {w : World} {size n : Nat} {A : Option Addr} {cs : List Value} (h : Rd w size A n cs) (h0 : 0 < cs.length) : ∃ b o, A = some ⟨b, o, none⟩ ∧ b < w.heap.size ∧ ∀ j u, cs[j]? = some u → w.cell? ⟨b, o + j, none⟩ = some u := by
  obtain ⟨⟨b, o, s⟩, rfl, hb, hh⟩ := h.addr h0
  have h1 := hh 0 cs[0] (List.getElem?_eq_getElem h0)
  rw [add_zero] at h1
  have hs : s = none := by simpa using World.cell?_spot h1
  subst hs
  refine ⟨b, o, rfl, hb, fun j u hu => ?_⟩
  have := hh j u hu
  rwa [Addr.add_lit] at this
end Go.Proofs.YtjmgnohepoacbaaDoor

namespace Go.Proofs.YtjmgnohepoacbaaDoor
open Go.RowKit
set_option linter.unusedVariables false

abbrev Str := List UInt8
def bstr (l : Str) : ByteArray := ⟨l.toArray⟩
theorem bstr_toList (l : Str) : (bstr l).toList = l := by rw [ByteArray.toList_eq]; simp [bstr]
theorem bstr_data (l : Str) : (bstr l).data.toList = l := by simp [bstr]
theorem bstr_size (l : Str) : (bstr l).size = l.length := by simp [bstr, ByteArray.size]
theorem bstr_inj {a b : Str} (h : bstr a = bstr b) : a = b := by have := congrArg ByteArray.toList h; rwa [bstr_toList, bstr_toList] at this
theorem bstr_of (s : ByteArray) : bstr s.data.toList = s := by simp [bstr]

/-- The cells of a list of strings. -/
def strs (l : List Str) : List Value := l.map fun s => .string (bstr s)
theorem strs_length (l : List Str) : (strs l).length = l.length := by simp [strs]
theorem strs_append (a b : List Str) : strs (a ++ b) = strs a ++ strs b := by simp [strs]
theorem strs_one (l : List Str) : ∀ u ∈ strs l, u.oneCell' = true := by
  intro u hu; obtain ⟨_, _, rfl⟩ := List.mem_map.1 hu; rfl
theorem strs_at (l : List Str) (k : Nat) (h : k < l.length) : (strs l)[k]? = some (.string (bstr l[k])) := by simp [strs, h]
theorem strs_cut (l : List Str) (lo n : Nat) : ((strs l).drop (lo * 1)).take (n * 1) = strs ((l.drop lo).take n) := by simp [strs, List.map_take, List.map_drop]
theorem strs_drop (l : List Str) (lo : Nat) : (strs l).drop (lo * 1) = strs (l.drop lo) := by simp [strs, List.map_drop]
theorem strs_take (l : List Str) (n : Nat) : (strs l).take (n * 1) = strs (l.take n) := by simp [strs, List.map_take]

/-- The first string's bytes come before the second's. -/
def slt (a b : Str) : Bool := Op.bytesLess a b
theorem bytesLess_bstr (a b : Str) : Op.bytesLess (bstr a).toList (bstr b).toList = slt a b := by rw [bstr_toList, bstr_toList]; rfl
theorem beq_bstr (a b : Str) : ((bstr a).toList == (bstr b).toList) = decide (a = b) := by
  rw [bstr_toList, bstr_toList, Bool.eq_iff_iff, beq_iff_eq, decide_eq_true_eq]

theorem slt_eq : ∀ a b : Str, slt a b = decide (a < b)
  | [], [] => by simp [slt, Op.bytesLess]
  | _ :: _, [] => by simp [slt, Op.bytesLess]
  | [], _ :: _ => by simp [slt, Op.bytesLess]
  | x :: a, y :: b => by
    have ih := slt_eq a b
    unfold slt at ih ⊢
    rw [Op.bytesLess, ih, Bool.eq_iff_iff]
    simp [List.cons_lt_cons_iff]

theorem slt_irrefl (a : Str) : slt a a = false := by rw [slt_eq, decide_eq_false_iff_not]; exact List.lt_irrefl a
theorem slt_trans {a b c : Str} (h : slt a b = true) (k : slt b c = true) : slt a c = true := by
  rw [slt_eq, decide_eq_true_eq] at *; exact List.lt_trans h k
theorem slt_tri {a b : Str} (h : slt a b = false) (k : slt b a = false) : a = b := by
  rw [slt_eq, decide_eq_false_iff_not] at *
  exact List.le_antisymm (List.not_lt.1 k) (List.not_lt.1 h)
theorem slt_asymm {a b : Str} (h : slt a b = true) : slt b a = false := by
  cases k : slt b a with
  | false => rfl
  | true => have := slt_trans h k; rw [slt_irrefl] at this; cases this
theorem slt_ne {a b : Str} (h : slt a b = true) : a ≠ b := by rintro rfl; rw [slt_irrefl] at h; cases h
end Go.Proofs.YtjmgnohepoacbaaDoor

namespace Go.Proofs.YtjmgnohepoacbaaDoor
open Go.ChangeShapes Go.WideShapes Go.ChangeAt Go.RowKit
set_option linter.unusedVariables false
set_option linter.unusedSimpArgs false

/-- An expression's own fields, and where its lists lie. -/
structure ExD where
  kind : Int
  at_ : Int
  n : Int
  s : Str
  t : Str
  lA : Option Addr
  ln : Nat
  lc : Nat
  labels : List Str
  nA : Option Addr
  nn : Nat
  nc : Nat
  names : List Str
  pA : Option Addr
  pn : Nat
  pc : Nat
inductive Ex where
  | mk (d : ExD) (l : List Ex)
def Ex.d : Ex → ExD
  | .mk d _ => d
def Ex.l : Ex → List Ex
  | .mk _ l => l
def ExD.cells (d : ExD) : List Value := [.int .i64 d.kind, .int .i64 d.at_, .int .i64 d.n, .string (bstr d.s), .string (bstr d.t), .slice d.lA d.ln d.lc, .slice d.nA d.nn d.nc, .slice d.pA d.pn d.pc]
def Ex.cells (e : Ex) : List Value := e.d.cells
abbrev ExD.arr (d : ExD) : Array Value := #[.int .i64 d.kind, .int .i64 d.at_, .int .i64 d.n, .string (bstr d.s), .string (bstr d.t), .slice d.lA d.ln d.lc, .slice d.nA d.nn d.nc, .slice d.pA d.pn d.pc]
theorem Ex.cells_len (e : Ex) : e.cells.length = 8 := rfl

inductive Ex.In (w : World) : Ex → Prop
  | mk (d : ExD) (l : List Ex) (lab : Rd w 1 d.lA d.ln (strs d.labels)) (nam : Rd w 1 d.nA d.nn (strs d.names)) (par : Rd w 8 d.pA d.pn (l.flatMap Ex.cells))
      (cap : (d.ln ≤ d.lc ∧ d.lc ≤ maxLen ∧ d.ln ≤ 4000000) ∧ (d.nn ≤ d.nc ∧ d.nc ≤ maxLen ∧ d.nn ≤ 4000000) ∧ (d.pn ≤ d.pc ∧ d.pc ≤ maxLen ∧ d.pn ≤ 4000000) ∧ d.s.length ≤ 4000000 ∧ d.t.length ≤ 4000000 ∧ (∀ s ∈ d.labels, s.length ≤ 4000000) ∧ (∀ s ∈ d.names, s.length ≤ 4000000))
      (sub : ∀ x ∈ l, Ex.In w x) : Ex.In w (.mk d l)
theorem Ex.In.lab {w : World} {e : Ex} (h : e.In w) : Rd w 1 e.d.lA e.d.ln (strs e.d.labels) := by cases h; assumption
theorem Ex.In.nam {w : World} {e : Ex} (h : e.In w) : Rd w 1 e.d.nA e.d.nn (strs e.d.names) := by cases h; assumption
theorem Ex.In.par {w : World} {e : Ex} (h : e.In w) : Rd w 8 e.d.pA e.d.pn (e.l.flatMap Ex.cells) := by cases h; assumption
theorem Ex.In.cap {w : World} {e : Ex} (h : e.In w) : (e.d.ln ≤ e.d.lc ∧ e.d.lc ≤ maxLen ∧ e.d.ln ≤ 4000000) ∧ (e.d.nn ≤ e.d.nc ∧ e.d.nc ≤ maxLen ∧ e.d.nn ≤ 4000000) ∧ (e.d.pn ≤ e.d.pc ∧ e.d.pc ≤ maxLen ∧ e.d.pn ≤ 4000000) ∧ e.d.s.length ≤ 4000000 ∧ e.d.t.length ≤ 4000000 ∧ (∀ s ∈ e.d.labels, s.length ≤ 4000000) ∧ (∀ s ∈ e.d.names, s.length ≤ 4000000) := by cases h; assumption
theorem Ex.In.sub {w : World} {e : Ex} (h : e.In w) : ∀ x ∈ e.l, Ex.In w x := by cases h; assumption
theorem Ex.In.lower {w w' : World} {e : Ex} (h : e.In w) (hb : RowKit.Below w.heap.size w w') : e.In w' := by
  induction h with
  | mk d l lab nam par cap sub ih => exact .mk d l (lab.below hb) (nam.below hb) (par.below hb) cap ih

theorem flat_at {α : Type} {f : α → List Value} {q : Nat} (hq : ∀ y, (f y).length = q) : ∀ (l : List α) (k i : Nat) (hk : k < l.length), i < q → (l.flatMap f)[k * q + i]? = (f l[k])[i]?
  | [], k, i, hk, hi => by simp at hk
  | x :: l, 0, i, hk, hi => by
    rw [List.flatMap_cons, Nat.zero_mul, Nat.zero_add, List.getElem?_append_left (by rw [hq]; exact hi)]; rfl
  | x :: l, k + 1, i, hk, hi => by
    rw [List.flatMap_cons, List.getElem?_append_right (by rw [hq, Nat.add_mul]; omega), hq, show (k + 1) * q + i - q = k * q + i from by rw [Nat.add_mul]; omega]
    rw [flat_at hq l k i (by simpa using hk) hi]; rfl
theorem flat_len {α : Type} {f : α → List Value} {q : Nat} (hq : ∀ y, (f y).length = q) (l : List α) : (l.flatMap f).length = l.length * q := by
  induction l with
  | nil => simp
  | cons x l ih => rw [List.flatMap_cons, List.length_append, hq, ih, List.length_cons, Nat.add_mul]; omega
theorem Ex.In.len {w : World} {e : Ex} (h : e.In w) : e.l.length = e.d.pn := by have := h.par.1; rw [flat_len Ex.cells_len] at this; omega
theorem Ex.In.labLen {w : World} {e : Ex} (h : e.In w) : e.d.labels.length = e.d.ln := by have := h.lab.1; rw [strs_length] at this; omega
theorem Ex.In.namLen {w : World} {e : Ex} (h : e.In w) : e.d.names.length = e.d.nn := by have := h.nam.1; rw [strs_length] at this; omega

theorem Rd.str {w : World} {A : Option Addr} {n : Nat} {l : List Str} (h : Rd w 1 A n (strs l)) {k : Nat} (hk : k < l.length) : ∃ b o, A = some ⟨b, o, none⟩ ∧ ∀ j (hj : j < l.length), w.cell? ⟨b, o + j, none⟩ = some (.string (bstr l[j])) := by
  obtain ⟨b, o, rfl, hb, hh⟩ := h.base (by rw [strs_length]; omega)
  exact ⟨b, o, rfl, fun j hj => hh j _ (by simp [strs, hj])⟩
theorem rd_len {w : World} {A : Option Addr} {n : Nat} {l : List Str} (h : Rd w 1 A n (strs l)) : l.length = n := by have := h.1; rw [strs_length] at this; omega

/-- An expression's own fields lie at a place. -/
structure ExD.At (d : ExD) (w : World) (b o : Nat) : Prop where
  c0 : w.cell? ⟨b, o, none⟩ = some (.int .i64 d.kind)
  c1 : w.cell? ⟨b, o + 1, none⟩ = some (.int .i64 d.at_)
  c2 : w.cell? ⟨b, o + 2, none⟩ = some (.int .i64 d.n)
  c3 : w.cell? ⟨b, o + 3, none⟩ = some (.string (bstr d.s))
  c4 : w.cell? ⟨b, o + 4, none⟩ = some (.string (bstr d.t))
  c5 : w.cell? ⟨b, o + 5, none⟩ = some (.slice d.lA d.ln d.lc)
  c6 : w.cell? ⟨b, o + 6, none⟩ = some (.slice d.nA d.nn d.nc)
  c7 : w.cell? ⟨b, o + 7, none⟩ = some (.slice d.pA d.pn d.pc)
theorem ExD.At.lower {d : ExD} {w w' : World} {b o : Nat} (h : d.At w b o) (hb : RowKit.Below w.heap.size w w') : d.At w' b o :=
  ⟨cell_below hb h.c0, cell_below hb h.c1, cell_below hb h.c2, cell_below hb h.c3, cell_below hb h.c4, cell_below hb h.c5, cell_below hb h.c6, cell_below hb h.c7⟩
theorem ExD.At.lt {d : ExD} {w : World} {b o : Nat} (h : d.At w b o) : b < w.heap.size := World.block_lt_of_cell? w _ h.c0
/-- The parts, each where it lies. -/
theorem Ex.In.part {w : World} {e : Ex} (h : e.In w) {k : Nat} (hk : k < e.l.length) : ∃ b o, e.d.pA = some ⟨b, o, none⟩ ∧ ∀ j (hj : j < e.l.length), (e.l[j]).d.At w b (o + j * 8) := by
  obtain ⟨b, o, ee, hb, hh⟩ := h.par.base (by rw [flat_len Ex.cells_len]; omega)
  refine ⟨b, o, ee, fun j hj => ⟨?_, ?_, ?_, ?_, ?_, ?_, ?_, ?_⟩⟩
  · exact hh (j * 8 + 0) _ (flat_at Ex.cells_len e.l j 0 hj (by omega))
  · exact hh (j * 8 + 1) _ (flat_at Ex.cells_len e.l j 1 hj (by omega))
  · exact hh (j * 8 + 2) _ (flat_at Ex.cells_len e.l j 2 hj (by omega))
  · exact hh (j * 8 + 3) _ (flat_at Ex.cells_len e.l j 3 hj (by omega))
  · exact hh (j * 8 + 4) _ (flat_at Ex.cells_len e.l j 4 hj (by omega))
  · exact hh (j * 8 + 5) _ (flat_at Ex.cells_len e.l j 5 hj (by omega))
  · exact hh (j * 8 + 6) _ (flat_at Ex.cells_len e.l j 6 hj (by omega))
  · exact hh (j * 8 + 7) _ (flat_at Ex.cells_len e.l j 7 hj (by omega))
/-- A value that was put into a new block. -/
theorem ex_box (w : World) (d : ExD) : d.At (w.alloc (.cells d.arr 25)) w.heap.size 0 := ⟨cell_new w _ _ 0 rfl, cell_new w _ _ 1 rfl, cell_new w _ _ 2 rfl, cell_new w _ _ 3 rfl, cell_new w _ _ 4 rfl, cell_new w _ _ 5 rfl, cell_new w _ _ 6 rfl, cell_new w _ _ 7 rfl⟩
end Go.Proofs.YtjmgnohepoacbaaDoor

namespace Go.Proofs.YtjmgnohepoacbaaDoor
open Go.ChangeShapes Go.WideShapes Go.ChangeAt Go.RowKit
set_option linter.unusedVariables false
set_option linter.unusedSimpArgs false

mutual
def Ex.nodes : Ex → Nat
  | .mk _ l => 1 + enodesL l
def enodesL : List Ex → Nat
  | [] => 0
  | x :: l => x.nodes + enodesL l
end
theorem enodesL_snoc : ∀ (l : List Ex) (x : Ex), enodesL (l ++ [x]) = enodesL l + x.nodes
  | [], x => by simp [enodesL]
  | y :: l, x => by simp only [List.cons_append, enodesL, enodesL_snoc l x]; omega
theorem enodesL_mem : ∀ (l : List Ex) (x : Ex), x ∈ l → x.nodes ≤ enodesL l
  | [], x, h => by cases h
  | y :: l, x, h => by
    simp only [enodesL]
    rcases List.mem_cons.1 h with rfl | h
    · omega
    · have := enodesL_mem l x h; omega
theorem enodesL_take (l : List Ex) (k : Nat) : enodesL (l.take k) ≤ enodesL l := by
  have h : ∀ a b : List Ex, enodesL (a ++ b) = enodesL a + enodesL b := by
    intro a b
    induction a with
    | nil => simp [enodesL]
    | cons x a ih => simp only [List.cons_append, enodesL, ih]; omega
  have := h (l.take k) (l.drop k)
  rw [List.take_append_drop] at this
  omega
theorem Ex.nodes_pos (e : Ex) : 1 ≤ e.nodes := by cases e; simp only [Ex.nodes]; omega
end Go.Proofs.YtjmgnohepoacbaaDoor

namespace Go.Proofs.YtjmgnohepoacbaaDoor
open Go.ChangeShapes Go.WideShapes Go.ChangeAt Go.RowKit Go.Sort
set_option linter.unusedVariables false
set_option linter.unusedSimpArgs false
theorem own_off {w : World} {base : Nat} {e : TypeId} {size n c m : Nat} {A : Option Addr} {xs : List Value} (h : w.ownsRow base e size (.slice A n c) m xs) : ∀ a, A = some a → a.off = 0 := by
  intro a ha
  rcases h.2 with ⟨h1, _⟩ | ⟨g, cap, cur, h1, _⟩
  · injection h1 with h1; rw [ha] at h1; cases h1
  · injection h1 with h1; rw [ha] at h1; cases h1; rfl

/-! ### Values -/
mutual
inductive Val where
  | mk (sort n : Int) (s : Str) (labels : List Str) (l : List Val) (f : Option Fnc)
/-- A function: its own name, whether it has one, its argument's, its part, what its names have. -/
inductive Fnc where
  | mk (self : Str) (isRec : Bool) (arg : Str) (part : Ex) (env : List (Str × Val))
end
abbrev Env := List (Str × Val)
def Val.sort : Val → Int
  | .mk a _ _ _ _ _ => a
def Val.n : Val → Int
  | .mk _ a _ _ _ _ => a
def Val.s : Val → Str
  | .mk _ _ a _ _ _ => a
def Val.labels : Val → List Str
  | .mk _ _ _ a _ _ => a
def Val.l : Val → List Val
  | .mk _ _ _ _ a _ => a
def Val.f : Val → Option Fnc
  | .mk _ _ _ _ _ a => a

theorem lt_of_heap {w : World} {k : Nat} {o : Obj} (h : w.heap[k]? = some o) : k < w.heap.size := (Array.getElem?_eq_some_iff.1 h).1
theorem below_drew1 (w : World) : Below w.heap.size w w.drew := Below.drew (Below.refl _ _)
theorem rd_keepP {w w' : World} {size n : Nat} {A : Option Addr} {cs : List Value} {P : Nat → Prop} (h : Rd w size A n cs) (hP : 0 < n → ∀ a, A = some a → P a.block) (hk : ∀ b, P b → b < w.heap.size → w'.heap[b]? = w.heap[b]?) : Rd w' size A n cs := by
  refine ⟨h.1, fun h0 => ?_⟩
  obtain ⟨a, e, hb, hh⟩ := h.addr h0
  have hn : 0 < n := by
    rcases Nat.eq_zero_or_pos n with q | q
    · have := h.1; rw [q] at this; omega
    · exact q
  refine ⟨a, e, fun j u hu => ?_⟩
  rw [← hh j u hu]
  exact World.cell?_of_block (by rw [add_block]; exact hk _ (hP hn a e) hb)
theorem Rd.lt6 {w : World} {size n : Nat} {A : Option Addr} {cs : List Value} (h : Rd w (size + 1) A n cs) (h0 : 0 < n) {a : Addr} (ha : A = some a) : a.block < w.heap.size := by
  obtain ⟨a', e, hb, _⟩ := h.addr (by rw [h.1, Nat.mul_add]; omega)
  rw [ha] at e; cases e
  exact hb
theorem own_keep {w w' : World} {base n : Nat} {e : TypeId} {size : Nat} {v : Value} {xs : List Value} (h : w.ownsRow base e size v n xs) (hk : ∀ g, v.ownBlock = some g → g < w.heap.size → w'.heap[g]? = w.heap[g]?) : w'.ownsRow base e size v n xs := by
  refine ⟨h.1, ?_⟩
  rcases h.2 with q | ⟨g, cap, cur, hv, hg, hh, r⟩
  · exact .inl q
  · subst hv
    exact .inr ⟨g, cap, cur, rfl, hg, (hk g rfl (lt_of_heap hh)).trans hh, r⟩
theorem own_some {w : World} {base n : Nat} {e : TypeId} {size : Nat} {v : Value} {xs : List Value} (h : w.ownsRow base e size v (n + 1) xs) : ∃ q cap, v = .slice (some ⟨q, 0, none⟩) (n + 1) cap := by
  rcases h.2 with ⟨_, e⟩ | ⟨g, cap, cur, hv, _⟩
  · omega
  · exact ⟨g, cap, hv⟩
/-- A cell of an own row. -/
theorem own_cell {w : World} {base n q cap : Nat} {e : TypeId} {size : Nat} {xs : List Value} (h : w.ownsRow base e size (.slice (some ⟨q, 0, none⟩) n cap) n xs) {i : Nat} {u : Value} (hi : xs[i]? = some u) : w.cell? ⟨q, i, none⟩ = some u ∧ w.frozen? ⟨q, i, none⟩ = false := by
  have hl : i < n * size := by rw [← h.1]; exact (List.getElem?_eq_some_iff.1 hi).1
  rcases h.2 with ⟨e, _⟩ | ⟨q', cap', cur, hv, hg, hh, h1, h2, h3, h4⟩
  · cases e
  · injection hv with e1 _ _
    injection e1 with e1
    injection e1 with e1
    subst e1
    refine ⟨?_, Lib.frozen_of_heap hh _⟩
    rw [Lib.cell_of_heap hh, ← Array.getElem?_toList]
    rw [← h4, List.getElem?_take_of_lt hl] at hi
    exact hi
theorem own_set {w : World} {base n g cap : Nat} {e : TypeId} {size : Nat} {xs : List Value} (h : w.ownsRow base e size (.slice (some ⟨g, 0, none⟩) n cap) n xs) (i : Nat) (hi : i < n * size) (u : Value) :
    (w.setCell ⟨g, i, none⟩ u).ownsRow base e size (.slice (some ⟨g, 0, none⟩) n cap) n (xs.set i u) := by
  refine ⟨by rw [List.length_set]; exact h.1, .inr ?_⟩
  rcases h.2 with ⟨q, _⟩ | ⟨g', cap', cur, hv, hg, hh, h1, h2, h3, h4⟩
  · cases q
  · injection hv with e1 _ e2
    injection e1 with e1
    injection e1 with e1
    subst e1 e2
    refine ⟨g, cap, cur.setIfInBounds i u, rfl, hg, ?_, h1, h2, by simpa using h3, ?_⟩
    · simp [World.setCell, Array.getElem?_modify, hh]
    · rw [Array.toList_setIfInBounds, List.take_set, h4]
/-- A row that is cut. -/
theorem own_cut {w : World} {base n g cap : Nat} {e : TypeId} {size : Nat} {xs : List Value} (h : w.ownsRow base e size (.slice (some ⟨g, 0, none⟩) n cap) n xs) (m : Nat) (hm : m ≤ n) :
    w.ownsRow base e size (.slice (some ⟨g, 0, none⟩) m cap) m (xs.take (m * size)) := by
  have hms : m * size ≤ n * size := Nat.mul_le_mul_right size hm
  refine ⟨by rw [List.length_take, h.1]; exact Nat.min_eq_left hms, .inr ?_⟩
  rcases h.2 with ⟨q, _⟩ | ⟨g', cap', cur, hv, hg, hh, h1, h2, h3, h4⟩
  · cases q
  · injection hv with e1 _ e2
    injection e1 with e1
    injection e1 with e1
    subst e1 e2
    refine ⟨g, cap, cur, rfl, hg, hh, by omega, h2, h3, ?_⟩
    rw [← h4, List.take_take, Nat.min_eq_left hms]

/-! ### How they lie in memory. w0: where the program lies; P: in which blocks values may lie -/
mutual
inductive VR (w0 w : World) (P : Nat → Prop) : Val → List Value → Prop
  | mk (sort n : Int) (s : Str) (labels : List Str) (l : List Val) (f : Option Fnc) (LA : Option Addr) (lc : Nat) (A : Option Addr) (c : Nat) (css : List (List Value)) (u : Value)
      (lrd : Rd w 1 LA labels.length (strs labels)) (lbl : 0 < labels.length → ∀ a, LA = some a → P a.block ∧ a.off = 0) (lcap : labels.length ≤ lc ∧ lc ≤ maxLen)
      (len : css.length = l.length) (rd : Rd w 6 A l.length css.flatten) (bl : 0 < l.length → ∀ a, A = some a → P a.block) (cap : l.length ≤ c ∧ c ≤ maxLen)
      (sub : ∀ (i : Nat) (v : Val) (cs : List Value), l[i]? = some v → css[i]? = some cs → VR w0 w P v cs) (fn : FR w0 w P f u) :
      VR w0 w P (.mk sort n s labels l f) [.int .i64 sort, .int .i64 n, .string (bstr s), .slice LA labels.length lc, .slice A l.length c, u]
inductive FR (w0 w : World) (P : Nat → Prop) : Option Fnc → Value → Prop
  | none : FR w0 w P none (.pointer none)
  | some (self : Str) (isRec : Bool) (arg : Str) (part : Ex) (pb po : Nat) (env : List (Str × Val)) (b : Nat) (u : Value)
      (hb : w.heap[b]? = some (.cells #[.string (bstr self), .bool isRec, .string (bstr arg), .pointer (some ⟨pb, po, none⟩), u] 75)) (bl : P b)
      (part_ : part.In w0 ∧ part.d.At w0 pb po) (env_ : ER w0 w P env u) : FR w0 w P (some (.mk self isRec arg part env)) (.pointer (some ⟨b, 0, none⟩))
inductive ER (w0 w : World) (P : Nat → Prop) : List (Str × Val) → Value → Prop
  | nil : ER w0 w P [] (.pointer none)
  | cons (x : Str) (v : Val) (env : List (Str × Val)) (b : Nat) (c0 c1 c2 c3 c4 c5 u : Value)
      (hb : w.heap[b]? = some (.cells #[.string (bstr x), c0, c1, c2, c3, c4, c5, u] 73)) (bl : P b)
      (val : VR w0 w P v [c0, c1, c2, c3, c4, c5]) (env_ : ER w0 w P env u) : ER w0 w P ((x, v) :: env) (.pointer (some ⟨b, 0, none⟩))
end
section
variable {w0 w w' : World} {P Q : Nat → Prop}
theorem VR.keep (hk : ∀ b, P b → b < w.heap.size → Q b ∧ w'.heap[b]? = w.heap[b]?) {v : Val} {c : List Value} (h : VR w0 w P v c) : VR w0 w' Q v c :=
  VR.rec (motive_1 := fun v c _ => VR w0 w' Q v c) (motive_2 := fun f u _ => FR w0 w' Q f u) (motive_3 := fun e u _ => ER w0 w' Q e u)
    (fun sort n s labels l f LA lc A c css u lrd lbl lcap len rd bl cap sub fn ih1 ih2 => .mk sort n s labels l f LA lc A c css u (rd_keepP lrd (fun hn a ha => (lbl hn a ha).1) (fun b hb hl => (hk b hb hl).2)) (fun hn a ha => ⟨(hk _ (lbl hn a ha).1 (lrd.lt6 hn ha)).1, (lbl hn a ha).2⟩) lcap len (rd_keepP rd bl (fun b hb hl => (hk b hb hl).2)) (fun hn a ha => (hk _ (bl hn a ha) (rd.lt6 hn ha)).1) cap ih1 ih2)
    .none
    (fun self isRec arg part pb po env b u hb bl hp he ih => .some self isRec arg part pb po env b u ((hk b bl (lt_of_heap hb)).2.trans hb) (hk b bl (lt_of_heap hb)).1 hp ih)
    .nil
    (fun x v env b c0 c1 c2 c3 c4 c5 u hb bl hv he ih1 ih2 => .cons x v env b c0 c1 c2 c3 c4 c5 u ((hk b bl (lt_of_heap hb)).2.trans hb) (hk b bl (lt_of_heap hb)).1 ih1 ih2) h
theorem ER.keep (hk : ∀ b, P b → b < w.heap.size → Q b ∧ w'.heap[b]? = w.heap[b]?) {e : Env} {u : Value} (h : ER w0 w P e u) : ER w0 w' Q e u := by
  induction e generalizing u with
  | nil => cases h; exact .nil
  | cons x e ih =>
    cases h with
    | cons x v env b c0 c1 c2 c3 c4 c5 u hb bl hv he => exact .cons x v e b c0 c1 c2 c3 c4 c5 u ((hk b bl (lt_of_heap hb)).2.trans hb) (hk b bl (lt_of_heap hb)).1 (hv.keep hk) (ih he)
theorem FR.keep (hk : ∀ b, P b → b < w.heap.size → Q b ∧ w'.heap[b]? = w.heap[b]?) {f : Option Fnc} {u : Value} (h : FR w0 w P f u) : FR w0 w' Q f u := by
  cases h with
  | none => exact .none
  | some self isRec arg part pb po env b u hb bl hp he => exact .some self isRec arg part pb po env b u ((hk b bl (lt_of_heap hb)).2.trans hb) (hk b bl (lt_of_heap hb)).1 hp (he.keep hk)
theorem VR.len {v : Val} {c : List Value} (h : VR w0 w P v c) : c.length = 6 := by cases h; rfl
end
end Go.Proofs.YtjmgnohepoacbaaDoor

namespace Go.Proofs.YtjmgnohepoacbaaDoor
open Go.ChangeShapes Go.WideShapes Go.ChangeAt Go.RowKit Go.Sort
set_option linter.unusedVariables false
set_option linter.unusedSimpArgs false

/-! ### Lists of things that lie side by side -/
structure LR {α : Type} (R : α → List Value → Prop) (l : List α) (css : List (List Value)) : Prop where
  len : css.length = l.length
  at_ : ∀ (i : Nat) (a : α) (c : List Value), l[i]? = some a → css[i]? = some c → R a c
section
variable {α : Type} {R S : α → List Value → Prop} {l : List α} {css : List (List Value)}
theorem LR.nil : LR R ([] : List α) [] := ⟨rfl, fun i a c h _ => by simp at h⟩
theorem LR.snoc (h : LR R l css) {a : α} {c : List Value} (hc : R a c) : LR R (l ++ [a]) (css ++ [c]) := by
  refine ⟨by simp [h.len], fun i a' c' h1 h2 => ?_⟩
  by_cases hi : i < l.length
  · rw [List.getElem?_append_left hi] at h1
    rw [List.getElem?_append_left (by rw [h.len]; exact hi)] at h2
    exact h.at_ i a' c' h1 h2
  · rw [List.getElem?_append_right (by omega)] at h1
    rw [List.getElem?_append_right (by rw [h.len]; omega), h.len] at h2
    obtain ⟨k, hk⟩ : ∃ k, i - l.length = k := ⟨_, rfl⟩
    rw [hk] at h1 h2
    cases k with
    | zero => simp at h1 h2; subst h1; subst h2; exact hc
    | succ k => simp at h1
theorem LR.take (h : LR R l css) (n : Nat) : LR R (l.take n) (css.take n) :=
  ⟨by simp [h.len], fun i a c h1 h2 => by
    rw [List.getElem?_take] at h1 h2
    split at h1
    · rename_i hi
      rw [if_pos hi] at h2
      exact h.at_ i a c h1 h2
    · cases h1⟩
theorem LR.drop (h : LR R l css) (n : Nat) : LR R (l.drop n) (css.drop n) :=
  ⟨by simp [h.len], fun i a c h1 h2 => by
    rw [List.getElem?_drop] at h1 h2
    exact h.at_ _ a c h1 h2⟩
theorem LR.set (h : LR R l css) (i : Nat) {a : α} {c : List Value} (hc : R a c) : LR R (l.set i a) (css.set i c) := by
  refine ⟨by simp [h.len], fun j a' c' h1 h2 => ?_⟩
  rw [List.getElem?_set] at h1 h2
  by_cases e : i = j
  · rw [if_pos e] at h1 h2
    split at h1
    · rename_i hl
      rw [if_pos (by rw [h.len]; exact hl)] at h2
      injection h1 with h1
      injection h2 with h2
      subst h1 h2
      exact hc
    · cases h1
  · rw [if_neg e] at h1 h2
    exact h.at_ j a' c' h1 h2
theorem LR.imp (h : LR R l css) (hi : ∀ a c, R a c → S a c) : LR S l css := ⟨h.len, fun i a c h1 h2 => hi a c (h.at_ i a c h1 h2)⟩
theorem LR.get (h : LR R l css) {i : Nat} (hi : i < l.length) : ∃ c, css[i]? = some c ∧ R l[i] c := by
  have h1 : css[i]? = some (css[i]'(by rw [h.len]; exact hi)) := List.getElem?_eq_getElem _
  exact ⟨_, h1, h.at_ i _ _ (List.getElem?_eq_getElem hi) h1⟩
end
theorem flat_len2 {css : List (List Value)} {k : Nat} (h : ∀ c ∈ css, c.length = k) : css.flatten.length = css.length * k := by
  induction css with
  | nil => simp
  | cons c css ih =>
    rw [List.flatten_cons, List.length_append, h c (List.mem_cons_self ..), ih (fun c hc => h c (List.mem_cons_of_mem _ hc)), List.length_cons, Nat.add_mul]
    omega
theorem flat_at2 {css : List (List Value)} {k : Nat} (h : ∀ c ∈ css, c.length = k) {i : Nat} {c : List Value} (hc : css[i]? = some c) {j : Nat} {u : Value} (hj : c[j]? = some u) : css.flatten[i * k + j]? = some u := by
  induction css generalizing i with
  | nil => simp at hc
  | cons x css ih =>
    rw [List.flatten_cons]
    have hx := h x (List.mem_cons_self ..)
    have hjk : j < k := by
      have h1 := (List.getElem?_eq_some_iff.1 hj).1
      have h2 := h c (List.mem_of_getElem? hc)
      omega
    cases i with
    | zero =>
      injection hc with hc
      subst hc
      rw [Nat.zero_mul, Nat.zero_add, List.getElem?_append_left (by omega)]
      exact hj
    | succ i =>
      rw [List.getElem?_append_right (by rw [hx, Nat.add_mul]; omega), hx, show (i + 1) * k + j - k = i * k + j from by rw [Nat.add_mul]; omega]
      exact ih (fun c hc => h c (List.mem_cons_of_mem _ hc)) hc
theorem flat_take2 {css : List (List Value)} {k : Nat} (h : ∀ c ∈ css, c.length = k) (n : Nat) : css.flatten.take (n * k) = (css.take n).flatten := by
  induction css generalizing n with
  | nil => simp
  | cons x css ih =>
    cases n with
    | zero => simp
    | succ n =>
      have hx := h x (List.mem_cons_self ..)
      rw [List.flatten_cons, List.take_succ_cons, List.flatten_cons, List.take_append, hx, List.take_of_length_le (by rw [hx, Nat.add_mul]; omega), show (n + 1) * k - k = n * k from by rw [Nat.add_mul]; omega, ih (fun c hc => h c (List.mem_cons_of_mem _ hc))]

/-! ### The machine -/
/-- An expression of which some parts have values. -/
structure Frm where
  e : Ex
  env : Env
  base : Nat
structure St where
  err : Int
  fault : Int
  trace : List Str
  input : List Str
  fuel : Int
  refs : List Val
  vals : List Val
  frames : List Frm
  next : Option (Ex × Env)
/-- Blocks that the machine does not write. -/
def Mv (mb : Nat) (t r v f : Value) (b : Nat) : Prop := b ≠ mb ∧ some b ≠ t.ownBlock ∧ some b ≠ r.ownBlock ∧ some b ≠ v.ownBlock ∧ some b ≠ f.ownBlock
def FrR (w0 w : World) (P : Nat → Prop) (f : Frm) (c : List Value) : Prop := ∃ (eb eo : Nat) (u : Value), c = [.pointer (some ⟨eb, eo, none⟩), u, .int .i64 f.base] ∧ (f.e.In w0 ∧ f.e.d.At w0 eb eo) ∧ ER w0 w P f.env u
def NxR (w0 w : World) (P : Nat → Prop) : Option (Ex × Env) → Value → Value → Prop
  | none, nx, _ => nx = .pointer none
  | some x, nx, nm => ∃ eb eo, nx = .pointer (some ⟨eb, eo, none⟩) ∧ (x.1.In w0 ∧ x.1.d.At w0 eb eo) ∧ ER w0 w P x.2 nm
/-- What stays, from a world to a later one. -/
def Tr (w : World) (P : Nat → Prop) (w' : World) (Q : Nat → Prop) : Prop := ∀ b, P b → b < w.heap.size → Q b ∧ w'.heap[b]? = w.heap[b]?
theorem Tr.refl (w : World) (P : Nat → Prop) : Tr w P w P := fun _ h _ => ⟨h, rfl⟩
theorem Tr.trans {a b c : World} {P Q R : Nat → Prop} (h : Tr a P b Q) (hs : a.heap.size ≤ b.heap.size) (k : Tr b Q c R) : Tr a P c R := fun i hi hl => ⟨(k i (h i hi hl).1 (by omega)).1, (k i (h i hi hl).1 (by omega)).2.trans (h i hi hl).2⟩
theorem FrR.keep {w0 w w' : World} {P Q : Nat → Prop} (hk : Tr w P w' Q) {f : Frm} {c : List Value} (h : FrR w0 w P f c) : FrR w0 w' Q f c := by
  obtain ⟨eb, eo, u, hc, hp, he⟩ := h
  exact ⟨eb, eo, u, hc, hp, he.keep hk⟩
theorem NxR.keep {w0 w w' : World} {P Q : Nat → Prop} (hk : Tr w P w' Q) {x : Option (Ex × Env)} {nx nm : Value} (h : NxR w0 w P x nx nm) : NxR w0 w' Q x nx nm := by
  cases x with
  | none => exact h
  | some x =>
    obtain ⟨eb, eo, hc, hp, he⟩ := h
    exact ⟨eb, eo, hc, hp, he.keep hk⟩
abbrev HD (s : St) (t i r v f nx nm : Value) : Array Value := #[.int .i64 s.err, .int .i64 s.fault, .string ⟨#[]⟩, t, i, .int .i64 s.fuel, r, v, f, nx, nm]
structure Rep (w0 : World) (B mb : Nat) (s : St) (w : World) (t i r v f nx nm : Value) (rcs vcs fcs : List (List Value)) : Prop where
  hd : w.heap[mb]? = some (.cells (HD s t i r v f nx nm) 53)
  tr : w.ownsRow B 9 1 t s.trace.length (strs s.trace)
  inp : ∃ A c, i = .slice A s.input.length c ∧ (s.input.length ≤ c ∧ c ≤ maxLen) ∧ Rd w 1 A s.input.length (strs s.input) ∧ (0 < s.input.length → ∀ a, A = some a → a.block < B)
  rr : w.ownsRow B 45 6 r s.refs.length rcs.flatten
  rl : LR (VR w0 w (Mv mb t r v f)) s.refs rcs
  vr : w.ownsRow B 45 6 v s.vals.length vcs.flatten
  vl : LR (VR w0 w (Mv mb t r v f)) s.vals vcs
  fr : w.ownsRow B 56 3 f s.frames.length fcs.flatten
  fl : LR (FrR w0 w (Mv mb t r v f)) s.frames fcs
  nxt : NxR w0 w (Mv mb t r v f) s.next nx nm
  base : w0.heap.size ≤ B ∧ B ≤ mb
  dt : ∀ q, t.ownBlock = some q → q ≠ mb ∧ r.ownBlock ≠ some q ∧ v.ownBlock ≠ some q ∧ f.ownBlock ≠ some q
  dr : ∀ q, r.ownBlock = some q → q ≠ mb ∧ v.ownBlock ≠ some q ∧ f.ownBlock ≠ some q
  dv : ∀ q, v.ownBlock = some q → q ≠ mb ∧ f.ownBlock ≠ some q
  df : ∀ q, f.ownBlock = some q → q ≠ mb
/-- The machine stands so, and what stood before stands. -/
def Post (w0 : World) (B mb : Nat) (P : Nat → Prop) (w : World) (s : St) (w' : World) : Prop :=
  ∃ (t i r v f nx nm : Value) (rcs vcs fcs : List (List Value)), Rep w0 B mb s w' t i r v f nx nm rcs vcs fcs ∧ Tr w P w' (Mv mb t r v f) ∧ Below B w w'
section
variable {w0 w wz : World} {B mb : Nat} {s : St} {t i r v f nx nm : Value} {rcs vcs fcs : List (List Value)}
theorem Rep.lt (h : Rep w0 B mb s w t i r v f nx nm rcs vcs fcs) : mb < w.heap.size := lt_of_heap h.hd
theorem Rep.mv (h : Rep w0 B mb s w t i r v f nx nm rcs vcs fcs) (b : Nat) (hb : b < B) : Mv mb t r v f b :=
  ⟨by have := h.base.2; omega, fun e => by have := (h.tr.lt b e.symm).1; omega, fun e => by have := (h.rr.lt b e.symm).1; omega, fun e => by have := (h.vr.lt b e.symm).1; omega, fun e => by have := (h.fr.lt b e.symm).1; omega⟩
theorem Rep.below (h : Rep w0 B mb s w t i r v f nx nm rcs vcs fcs) (hb : Below w.heap.size w wz) : Rep w0 B mb s wz t i r v f nx nm rcs vcs fcs := by
  have hk : Tr w (Mv mb t r v f) wz (Mv mb t r v f) := fun b hb' hl => ⟨hb', hb.block b hl⟩
  obtain ⟨A, c, e1, e2, e3, e4⟩ := h.inp
  exact ⟨(hb.block mb h.lt).trans h.hd, own_below h.tr hb, ⟨A, c, e1, e2, e3.below hb, e4⟩, own_below h.rr hb, h.rl.imp (fun a c => VR.keep hk), own_below h.vr hb, h.vl.imp (fun a c => VR.keep hk), own_below h.fr hb, h.fl.imp (fun a c => FrR.keep hk), h.nxt.keep hk, h.base, h.dt, h.dr, h.dv, h.df⟩
/-- The head is written. -/
theorem Rep.head (h : Rep w0 B mb s w t i r v f nx nm rcs vcs fcs) {s' : St} {i' nx' nm' : Value} (hk : ∀ b, b ≠ mb → wz.heap[b]? = w.heap[b]?) (ho : wz.os = w.os ∧ wz.tape = w.tape ∧ wz.output = w.output ∧ wz.heap.size = w.heap.size)
    (hd' : wz.heap[mb]? = some (.cells (HD s' t i' r v f nx' nm') 53)) (hs : s'.trace = s.trace ∧ s'.refs = s.refs ∧ s'.vals = s.vals ∧ s'.frames = s.frames)
    (hi : ∃ A c, i' = .slice A s'.input.length c ∧ (s'.input.length ≤ c ∧ c ≤ maxLen) ∧ Rd w 1 A s'.input.length (strs s'.input) ∧ (0 < s'.input.length → ∀ a, A = some a → a.block < B)) (hn : NxR w0 w (Mv mb t r v f) s'.next nx' nm') :
    Rep w0 B mb s' wz t i' r v f nx' nm' rcs vcs fcs ∧ Tr w (Mv mb t r v f) wz (Mv mb t r v f) ∧ Below B w wz := by
  have hT : Tr w (Mv mb t r v f) wz (Mv mb t r v f) := fun b hb hl => ⟨hb, hk b hb.1⟩
  have hB := h.base.2
  obtain ⟨A, c, e1, e2, e3, e4⟩ := hi
  refine ⟨⟨hd', by rw [hs.1]; exact own_keep h.tr (fun q hq _ => hk q (h.dt q hq).1), ⟨A, c, e1, e2, rd_keepP (P := fun b => b < B) e3 e4 (fun b hb _ => hk b (by omega)), e4⟩, by rw [hs.2.1]; exact own_keep h.rr (fun q hq _ => hk q (h.dr q hq).1), by rw [hs.2.1]; exact h.rl.imp (fun a c => VR.keep hT), by rw [hs.2.2.1]; exact own_keep h.vr (fun q hq _ => hk q (h.dv q hq).1), by rw [hs.2.2.1]; exact h.vl.imp (fun a c => VR.keep hT), by rw [hs.2.2.2]; exact own_keep h.fr (fun q hq _ => hk q (h.df q hq)), by rw [hs.2.2.2]; exact h.fl.imp (fun a c => FrR.keep hT), hn.keep hT, h.base, h.dt, h.dr, h.dv, h.df⟩, hT, ⟨ho.1, ho.2.1, ho.2.2.1, by rw [ho.2.2.2]; exact Nat.le_refl _, fun b hb => hk b (by omega)⟩⟩
/-- The row trace is another one. -/
theorem Rep.trace_ (h : Rep w0 B mb s w t i r v f nx nm rcs vcs fcs) {x' : Value} {L' : List Str} (hk : ∀ b, b < w.heap.size → b ≠ mb → some b ≠ t.ownBlock → wz.heap[b]? = w.heap[b]?) (ho : wz.os = w.os ∧ wz.tape = w.tape ∧ wz.output = w.output ∧ w.heap.size ≤ wz.heap.size)
    (hd' : wz.heap[mb]? = some (.cells (HD s x' i r v f nx nm) 53)) (hv : wz.ownsRow B 9 1 x' L'.length (strs L')) (hat : ∀ q, x'.ownBlock = some q → t.ownBlock = some q ∨ w.heap.size ≤ q) :
    Rep w0 B mb { s with trace := L' } wz x' i r v f nx nm rcs vcs fcs ∧ Tr w (Mv mb t r v f) wz (Mv mb x' r v f) ∧ Below B w wz := by
  have hB := h.base.2
  have hT : Tr w (Mv mb t r v f) wz (Mv mb x' r v f) := fun b hb hl => by
    refine ⟨⟨hb.1, ?_, hb.2.2.1, hb.2.2.2.1, hb.2.2.2.2⟩, hk b hl hb.1 hb.2.1⟩
    intro e
    rcases hat b e.symm with q | q
    · exact hb.2.1 q.symm
    · omega
  have hlt : ∀ q, t.ownBlock = some q → B ≤ q := fun q hq => (h.tr.lt q hq).1
  have hmb := h.lt
  obtain ⟨A, c, e1, e2, e3, e4⟩ := h.inp
  exact ⟨⟨hd', hv, ⟨A, c, e1, e2, rd_keepP (P := fun b => b < B ∧ b < w.heap.size) e3 (fun hn a ha => ⟨e4 hn a ha, e3.lt6 hn ha⟩) (fun b hb hl => hk b hl (by omega) (fun e => by have := hlt b e.symm; omega)), e4⟩, own_keep h.rr (fun q hq hl => hk q hl (h.dr q hq).1 (fun e => (h.dt q e.symm).2.1 hq)), h.rl.imp (fun a c => VR.keep hT), own_keep h.vr (fun q hq hl => hk q hl (h.dv q hq).1 (fun e => (h.dt q e.symm).2.2.1 hq)), h.vl.imp (fun a c => VR.keep hT), own_keep h.fr (fun q hq hl => hk q hl (h.df q hq) (fun e => (h.dt q e.symm).2.2.2 hq)), h.fl.imp (fun a c => FrR.keep hT), h.nxt.keep hT, h.base, fun q hq => by
    rcases hat q hq with k | k
    · exact h.dt q k
    · exact ⟨by omega, fun e => by have := (h.rr.lt q e).2; omega, fun e => by have := (h.vr.lt q e).2; omega, fun e => by have := (h.fr.lt q e).2; omega⟩, h.dr, h.dv, h.df⟩, hT, ⟨ho.1, ho.2.1, ho.2.2.1, ho.2.2.2, fun b hb => by
    by_cases hl : b < w.heap.size
    · exact hk b hl (by omega) (fun e => by have := hlt b e.symm; omega)
    · rw [Array.getElem?_eq_none (by omega)]
      omega⟩⟩
/-- The row refs is another one. -/
theorem Rep.refs_ (h : Rep w0 B mb s w t i r v f nx nm rcs vcs fcs) {x' : Value} {css' : List (List Value)} {L' : List Val} (hk : ∀ b, b < w.heap.size → b ≠ mb → some b ≠ r.ownBlock → wz.heap[b]? = w.heap[b]?) (ho : wz.os = w.os ∧ wz.tape = w.tape ∧ wz.output = w.output ∧ w.heap.size ≤ wz.heap.size)
    (hd' : wz.heap[mb]? = some (.cells (HD s t i x' v f nx nm) 53)) (hv : wz.ownsRow B 45 6 x' L'.length css'.flatten) (hat : ∀ q, x'.ownBlock = some q → r.ownBlock = some q ∨ w.heap.size ≤ q) (hl : LR (VR w0 wz (Mv mb t x' v f)) L' css') :
    Rep w0 B mb { s with refs := L' } wz t i x' v f nx nm css' vcs fcs ∧ Tr w (Mv mb t r v f) wz (Mv mb t x' v f) ∧ Below B w wz := by
  have hB := h.base.2
  have hT : Tr w (Mv mb t r v f) wz (Mv mb t x' v f) := fun b hb hl => by
    refine ⟨⟨hb.1, hb.2.1, ?_, hb.2.2.2.1, hb.2.2.2.2⟩, hk b hl hb.1 hb.2.2.1⟩
    intro e
    rcases hat b e.symm with q | q
    · exact hb.2.2.1 q.symm
    · omega
  have hlt : ∀ q, r.ownBlock = some q → B ≤ q := fun q hq => (h.rr.lt q hq).1
  have hmb := h.lt
  obtain ⟨A, c, e1, e2, e3, e4⟩ := h.inp
  exact ⟨⟨hd', own_keep h.tr (fun q hq hl => hk q hl (h.dt q hq).1 (fun e => (h.dt q hq).2.1 e.symm)), ⟨A, c, e1, e2, rd_keepP (P := fun b => b < B ∧ b < w.heap.size) e3 (fun hn a ha => ⟨e4 hn a ha, e3.lt6 hn ha⟩) (fun b hb hl => hk b hl (by omega) (fun e => by have := hlt b e.symm; omega)), e4⟩, hv, hl, own_keep h.vr (fun q hq hl => hk q hl (h.dv q hq).1 (fun e => (h.dr q e.symm).2.1 hq)), h.vl.imp (fun a c => VR.keep hT), own_keep h.fr (fun q hq hl => hk q hl (h.df q hq) (fun e => (h.dr q e.symm).2.2 hq)), h.fl.imp (fun a c => FrR.keep hT), h.nxt.keep hT, h.base, fun q hq => ⟨(h.dt q hq).1, fun e => by
      rcases hat q e with k | k
      · exact ((h.dt q hq).2.1 k) 
      · have := (h.tr.lt q hq).2; omega, fun e => (h.dt q hq).2.2.1 e, fun e => (h.dt q hq).2.2.2 e⟩, fun q hq => by
    rcases hat q hq with k | k
    · exact h.dr q k
    · exact ⟨by omega, fun e => by have := (h.vr.lt q e).2; omega, fun e => by have := (h.fr.lt q e).2; omega⟩, h.dv, h.df⟩, hT, ⟨ho.1, ho.2.1, ho.2.2.1, ho.2.2.2, fun b hb => by
    by_cases hl : b < w.heap.size
    · exact hk b hl (by omega) (fun e => by have := hlt b e.symm; omega)
    · rw [Array.getElem?_eq_none (by omega)]
      omega⟩⟩
/-- The row vals is another one. -/
theorem Rep.vals_ (h : Rep w0 B mb s w t i r v f nx nm rcs vcs fcs) {x' : Value} {css' : List (List Value)} {L' : List Val} (hk : ∀ b, b < w.heap.size → b ≠ mb → some b ≠ v.ownBlock → wz.heap[b]? = w.heap[b]?) (ho : wz.os = w.os ∧ wz.tape = w.tape ∧ wz.output = w.output ∧ w.heap.size ≤ wz.heap.size)
    (hd' : wz.heap[mb]? = some (.cells (HD s t i r x' f nx nm) 53)) (hv : wz.ownsRow B 45 6 x' L'.length css'.flatten) (hat : ∀ q, x'.ownBlock = some q → v.ownBlock = some q ∨ w.heap.size ≤ q) (hl : LR (VR w0 wz (Mv mb t r x' f)) L' css') :
    Rep w0 B mb { s with vals := L' } wz t i r x' f nx nm rcs css' fcs ∧ Tr w (Mv mb t r v f) wz (Mv mb t r x' f) ∧ Below B w wz := by
  have hB := h.base.2
  have hT : Tr w (Mv mb t r v f) wz (Mv mb t r x' f) := fun b hb hl => by
    refine ⟨⟨hb.1, hb.2.1, hb.2.2.1, ?_, hb.2.2.2.2⟩, hk b hl hb.1 hb.2.2.2.1⟩
    intro e
    rcases hat b e.symm with q | q
    · exact hb.2.2.2.1 q.symm
    · omega
  have hlt : ∀ q, v.ownBlock = some q → B ≤ q := fun q hq => (h.vr.lt q hq).1
  have hmb := h.lt
  obtain ⟨A, c, e1, e2, e3, e4⟩ := h.inp
  exact ⟨⟨hd', own_keep h.tr (fun q hq hl => hk q hl (h.dt q hq).1 (fun e => (h.dt q hq).2.2.1 e.symm)), ⟨A, c, e1, e2, rd_keepP (P := fun b => b < B ∧ b < w.heap.size) e3 (fun hn a ha => ⟨e4 hn a ha, e3.lt6 hn ha⟩) (fun b hb hl => hk b hl (by omega) (fun e => by have := hlt b e.symm; omega)), e4⟩, own_keep h.rr (fun q hq hl => hk q hl (h.dr q hq).1 (fun e => (h.dr q hq).2.1 e.symm)), h.rl.imp (fun a c => VR.keep hT), hv, hl, own_keep h.fr (fun q hq hl => hk q hl (h.df q hq) (fun e => (h.dv q e.symm).2 hq)), h.fl.imp (fun a c => FrR.keep hT), h.nxt.keep hT, h.base, fun q hq => ⟨(h.dt q hq).1, fun e => (h.dt q hq).2.1 e, fun e => by
      rcases hat q e with k | k
      · exact ((h.dt q hq).2.2.1 k) 
      · have := (h.tr.lt q hq).2; omega, fun e => (h.dt q hq).2.2.2 e⟩, fun q hq => ⟨(h.dr q hq).1, fun e => by
      rcases hat q e with k | k
      · exact ((h.dr q hq).2.1 k) 
      · have := (h.rr.lt q hq).2; omega, fun e => (h.dr q hq).2.2 e⟩, fun q hq => by
    rcases hat q hq with k | k
    · exact h.dv q k
    · exact ⟨by omega, fun e => by have := (h.fr.lt q e).2; omega⟩, h.df⟩, hT, ⟨ho.1, ho.2.1, ho.2.2.1, ho.2.2.2, fun b hb => by
    by_cases hl : b < w.heap.size
    · exact hk b hl (by omega) (fun e => by have := hlt b e.symm; omega)
    · rw [Array.getElem?_eq_none (by omega)]
      omega⟩⟩
/-- The row frames is another one. -/
theorem Rep.frames_ (h : Rep w0 B mb s w t i r v f nx nm rcs vcs fcs) {x' : Value} {css' : List (List Value)} {L' : List Frm} (hk : ∀ b, b < w.heap.size → b ≠ mb → some b ≠ f.ownBlock → wz.heap[b]? = w.heap[b]?) (ho : wz.os = w.os ∧ wz.tape = w.tape ∧ wz.output = w.output ∧ w.heap.size ≤ wz.heap.size)
    (hd' : wz.heap[mb]? = some (.cells (HD s t i r v x' nx nm) 53)) (hv : wz.ownsRow B 56 3 x' L'.length css'.flatten) (hat : ∀ q, x'.ownBlock = some q → f.ownBlock = some q ∨ w.heap.size ≤ q) (hl : LR (FrR w0 wz (Mv mb t r v x')) L' css') :
    Rep w0 B mb { s with frames := L' } wz t i r v x' nx nm rcs vcs css' ∧ Tr w (Mv mb t r v f) wz (Mv mb t r v x') ∧ Below B w wz := by
  have hB := h.base.2
  have hT : Tr w (Mv mb t r v f) wz (Mv mb t r v x') := fun b hb hl => by
    refine ⟨⟨hb.1, hb.2.1, hb.2.2.1, hb.2.2.2.1, ?_⟩, hk b hl hb.1 hb.2.2.2.2⟩
    intro e
    rcases hat b e.symm with q | q
    · exact hb.2.2.2.2 q.symm
    · omega
  have hlt : ∀ q, f.ownBlock = some q → B ≤ q := fun q hq => (h.fr.lt q hq).1
  have hmb := h.lt
  obtain ⟨A, c, e1, e2, e3, e4⟩ := h.inp
  exact ⟨⟨hd', own_keep h.tr (fun q hq hl => hk q hl (h.dt q hq).1 (fun e => (h.dt q hq).2.2.2 e.symm)), ⟨A, c, e1, e2, rd_keepP (P := fun b => b < B ∧ b < w.heap.size) e3 (fun hn a ha => ⟨e4 hn a ha, e3.lt6 hn ha⟩) (fun b hb hl => hk b hl (by omega) (fun e => by have := hlt b e.symm; omega)), e4⟩, own_keep h.rr (fun q hq hl => hk q hl (h.dr q hq).1 (fun e => (h.dr q hq).2.2 e.symm)), h.rl.imp (fun a c => VR.keep hT), own_keep h.vr (fun q hq hl => hk q hl (h.dv q hq).1 (fun e => (h.dv q hq).2 e.symm)), h.vl.imp (fun a c => VR.keep hT), hv, hl, h.nxt.keep hT, h.base, fun q hq => ⟨(h.dt q hq).1, fun e => (h.dt q hq).2.1 e, fun e => (h.dt q hq).2.2.1 e, fun e => by
      rcases hat q e with k | k
      · exact ((h.dt q hq).2.2.2 k) 
      · have := (h.tr.lt q hq).2; omega⟩, fun q hq => ⟨(h.dr q hq).1, fun e => (h.dr q hq).2.1 e, fun e => by
      rcases hat q e with k | k
      · exact ((h.dr q hq).2.2 k) 
      · have := (h.rr.lt q hq).2; omega⟩, fun q hq => ⟨(h.dv q hq).1, fun e => by
      rcases hat q e with k | k
      · exact ((h.dv q hq).2 k) 
      · have := (h.vr.lt q hq).2; omega⟩, fun q hq => by
    rcases hat q hq with k | k
    · exact h.df q k
    · exact by omega⟩, hT, ⟨ho.1, ho.2.1, ho.2.2.1, ho.2.2.2, fun b hb => by
    by_cases hl : b < w.heap.size
    · exact hk b hl (by omega) (fun e => by have := hlt b e.symm; omega)
    · rw [Array.getElem?_eq_none (by omega)]
      omega⟩⟩

end
end Go.Proofs.YtjmgnohepoacbaaDoor

namespace Go.Proofs.YtjmgnohepoacbaaDoor
open Go.ChangeShapes Go.WideShapes Go.ChangeAt Go.RowKit Go.Sort
set_option linter.unusedVariables false
set_option linter.unusedSimpArgs false

theorem cells11 {w : World} {g : Nat} {x0 x1 x2 x3 x4 x5 x6 x7 x8 x9 x10 : Value} {T : TypeId} {fr : Nat × Nat} (h : w.heap[g]? = some (.cells #[x0, x1, x2, x3, x4, x5, x6, x7, x8, x9, x10] T fr)) :
    w.cell? ⟨g, 0, none⟩ = some x0 ∧ w.cell? ⟨g, 1, none⟩ = some x1 ∧ w.cell? ⟨g, 2, none⟩ = some x2 ∧ w.cell? ⟨g, 3, none⟩ = some x3 ∧ w.cell? ⟨g, 4, none⟩ = some x4 ∧ w.cell? ⟨g, 5, none⟩ = some x5 ∧ w.cell? ⟨g, 6, none⟩ = some x6 ∧ w.cell? ⟨g, 7, none⟩ = some x7 ∧ w.cell? ⟨g, 8, none⟩ = some x8 ∧ w.cell? ⟨g, 9, none⟩ = some x9 ∧ w.cell? ⟨g, 10, none⟩ = some x10 := by
  refine ⟨?_, ?_, ?_, ?_, ?_, ?_, ?_, ?_, ?_, ?_, ?_⟩ <;> (rw [Lib.cell_of_heap h]; rfl)
theorem frozenN {w : World} {g : Nat} {cs : Array Value} {T : TypeId} (h : w.heap[g]? = some (.cells cs T (0, 0))) (i : Nat) : w.frozen? ⟨g, i, none⟩ = false := Lib.frozen_of_heap h i
theorem set_cells {w : World} {g : Nat} {cs : Array Value} {T : TypeId} {fr : Nat × Nat} (h : w.heap[g]? = some (.cells cs T fr)) (i : Nat) (u : Value) : (w.setCell ⟨g, i, none⟩ u).heap[g]? = some (.cells (cs.setIfInBounds i u) T fr) := by
  simp [World.setCell, Array.getElem?_modify, h]
theorem set_other (w : World) (g i : Nat) (u : Value) {b : Nat} (h : b ≠ g) : (w.setCell ⟨g, i, none⟩ u).heap[b]? = w.heap[b]? := Below.heap_setCell w ⟨g, i, none⟩ u b h
section
variable {w0 w : World} {B mb : Nat} {s : St} {t i r v f nx nm : Value} {rcs vcs fcs : List (List Value)}
theorem Rep.set1 (h : Rep w0 B mb s w t i r v f nx nm rcs vcs fcs) {s' : St} {i' nx' nm' : Value} (k : Nat) (u : Value) (he : (HD s t i r v f nx nm).setIfInBounds k u = HD s' t i' r v f nx' nm') (hs : s'.trace = s.trace ∧ s'.refs = s.refs ∧ s'.vals = s.vals ∧ s'.frames = s.frames)
    (hi : ∃ A c, i' = .slice A s'.input.length c ∧ (s'.input.length ≤ c ∧ c ≤ maxLen) ∧ Rd w 1 A s'.input.length (strs s'.input) ∧ (0 < s'.input.length → ∀ a, A = some a → a.block < B)) (hn : NxR w0 w (Mv mb t r v f) s'.next nx' nm') :
    Rep w0 B mb s' (w.setCell ⟨mb, k, none⟩ u) t i' r v f nx' nm' rcs vcs fcs ∧ Tr w (Mv mb t r v f) (w.setCell ⟨mb, k, none⟩ u) (Mv mb t r v f) ∧ Below B w (w.setCell ⟨mb, k, none⟩ u) :=
  h.head (fun b hb => set_other w mb k u hb) ⟨rfl, rfl, rfl, World.size_setCell _ _ _⟩ (by rw [set_cells h.hd, he]) hs hi hn

theorem stuck_any (h : Rep w0 B mb s w t i r v f nx nm rcs vcs fcs) : Calls Tryd.prog 20 #[.pointer (some ⟨mb, 0, none⟩)] w fun e w' => e = .returned (.tuple #[]) ∧ Post w0 B mb (Mv mb t r v f) w { s with err := 11 } w' := by
  obtain ⟨h1, h2, h3⟩ := h.set1 (s' := { s with err := 11 }) 0 (.int .i64 11) rfl ⟨rfl, rfl, rfl, rfl⟩ h.inp h.nxt
  have HR := Lib.hid (show Post w0 B mb (Mv mb t r v f) w { s with err := 11 } (w.setCell ⟨mb, 0, none⟩ (.int .i64 11)) from ⟨_, _, _, _, _, _, _, _, _, _, h1, h2, h3⟩)
  have c0 := (cells11 h.hd).1
  have z0 := frozenN h.hd 0
  clear h h1 h2 h3
  go_enter Tryd.func20, Tryd.ntmps20
  go_wp2_with fail
  go_returns
  exact ⟨rfl, HR.out⟩
end
end Go.Proofs.YtjmgnohepoacbaaDoor

namespace Go.Proofs.YtjmgnohepoacbaaDoor
open Go.ChangeShapes Go.WideShapes Go.ChangeAt Go.RowKit Go.Sort
set_option linter.unusedVariables false
set_option linter.unusedSimpArgs false

theorem heap_new {w : World} {o : Obj} {n : Nat} (h : w.heap.size = n) : (w.alloc o).heap[n]? = some o := by subst h; exact Array.getElem?_push_size
theorem ER.ptr {w0 w : World} {P : Nat → Prop} {e : Env} {u : Value} (h : ER w0 w P e u) : ∃ q, u = .pointer q := by cases h <;> exact ⟨_, rfl⟩
theorem FR.ptr {w0 w : World} {P : Nat → Prop} {e : Option Fnc} {u : Value} (h : FR w0 w P e u) : ∃ q, u = .pointer q := by cases h <;> exact ⟨_, rfl⟩
/-- The cells of a value. -/
theorem VR.six {w0 w : World} {P : Nat → Prop} {z : Val} {cs : List Value} (h : VR w0 w P z cs) : ∃ (A : Option Addr) (c : Nat) (q : Option Addr) (LA : Option Addr) (lc : Nat), cs = [.int .i64 z.sort, .int .i64 z.n, .string (bstr z.s), .slice LA z.labels.length lc, .slice A z.l.length c, .pointer q] := by
  cases h with
  | mk sort n s labels l f LA lc A c css u lrd lbl lcap len rd bl cap sub fn =>
    obtain ⟨q, rfl⟩ := fn.ptr
    exact ⟨A, c, q, LA, lc, rfl⟩
section
variable {w0 w : World} {B mb : Nat} {s : St} {t i r v f nx nm : Value} {rcs vcs fcs : List (List Value)}
/-- New memory is none that the machine writes. -/
theorem Rep.mvNew (h : Rep w0 B mb s w t i r v f nx nm rcs vcs fcs) (b : Nat) (hb : w.heap.size ≤ b) : Mv mb t r v f b :=
  ⟨by have := h.lt; omega, fun e => by have := (h.tr.lt b e.symm).2; omega, fun e => by have := (h.rr.lt b e.symm).2; omega, fun e => by have := (h.vr.lt b e.symm).2; omega, fun e => by have := (h.fr.lt b e.symm).2; omega⟩
theorem Tr.below {w w' : World} {P : Nat → Prop} (h : Below w.heap.size w w') : Tr w P w' P := fun b hb hl => ⟨hb, h.block b hl⟩
theorem Post.mono {P : Nat → Prop} {s' : St} {w1 w2 : World} (h : Tr w P w1 (Mv mb t r v f)) (hb : Below B w w1) (hp : Post w0 B mb (Mv mb t r v f) w1 s' w2) : Post w0 B mb P w s' w2 := by
  obtain ⟨t', i', r', v', f', nx', nm', rcs', vcs', fcs', h1, h2, h3⟩ := hp
  exact ⟨t', i', r', v', f', nx', nm', rcs', vcs', fcs', h1, h.trans hb.size h2, hb.trans h3⟩
/-- An expression, and what its names have. -/
def EN (w0 w : World) (P : Nat → Prop) (e : Ex) (env : Env) (eb eo : Nat) (u : Value) : Prop := (e.In w0 ∧ e.d.At w0 eb eo) ∧ ER w0 w P env u

theorem begin_any (h : Rep w0 B mb s w t i r v f nx nm rcs vcs fcs) (e : Ex) (env : Env) (eb eo : Nat) (u : Option Addr) (he : EN w0 w (Mv mb t r v f) e env eb eo (.pointer u)) :
    Calls Tryd.prog 18 #[.pointer (some ⟨mb, 0, none⟩), .pointer (some ⟨eb, eo, none⟩), .pointer u] w fun e1 w' => e1 = .returned (.tuple #[]) ∧ Post w0 B mb (Mv mb t r v f) w { s with next := some (e, env) } w' := by
  have hk : ∀ b, b ≠ mb → (((w.setCell ⟨mb, 9, none⟩ (.pointer (some ⟨eb, eo, none⟩))).setCell ⟨mb, 10, none⟩ (.pointer u))).heap[b]? = w.heap[b]? := fun b hb => (set_other _ mb 10 _ hb).trans (set_other _ mb 9 _ hb)
  obtain ⟨h1, h2, h3⟩ := h.head (s' := { s with next := some (e, env) }) (wz := ((w.setCell ⟨mb, 9, none⟩ (.pointer (some ⟨eb, eo, none⟩))).setCell ⟨mb, 10, none⟩ (.pointer u))) hk ⟨rfl, rfl, rfl, by rw [World.size_setCell, World.size_setCell]⟩ (set_cells (set_cells h.hd 9 _) 10 _) ⟨rfl, rfl, rfl, rfl⟩ h.inp ⟨eb, eo, rfl, he.1, he.2⟩
  have HR := Lib.hid (show Post w0 B mb (Mv mb t r v f) w { s with next := some (e, env) } _ from ⟨_, _, _, _, _, _, _, _, _, _, h1, h2, h3⟩)
  have c9 := (cells11 h.hd).2.2.2.2.2.2.2.2.2.1
  have c10 := (cells11 h.hd).2.2.2.2.2.2.2.2.2.2
  have z9 := frozenN h.hd 9
  have z10 := frozenN h.hd 10
  clear h h1 h2 h3 hk he
  go_enter Tryd.func18, Tryd.ntmps18
  go_wp2_with fail
  go_returns
  exact ⟨rfl, HR.out⟩

end
/-- A function's value. -/
theorem fn_val (w0 w w' : World) (P : Nat → Prop) (hP : ∀ b, w.heap.size ≤ b → P b) (self : Str) (isRec : Bool) (x : Str) (e : Ex) (env : Env) (eb eo : Nat) (u : Value) (he : EN w0 w P e env eb eo u) (hb : Below w.heap.size w w') (g : Nat) (hg : w.heap.size ≤ g)
    (hc : w'.heap[g]? = some (.cells #[.string (bstr self), .bool isRec, .string (bstr x), .pointer (some ⟨eb, eo, none⟩), u] 75)) :
    VR w0 w' P (.mk 3 0 [] [] [] (some (.mk self isRec x e env))) [.int .i64 3, .int .i64 0, .string (bstr []), .slice none 0 0, .slice none 0 0, .pointer (some ⟨g, 0, none⟩)] :=
  .mk 3 0 [] [] [] _ none 0 none 0 [] _ (Rd.nil w' 1 none) (fun h => absurd h (Nat.lt_irrefl 0)) ⟨Nat.le_refl 0, by decide⟩ rfl (Rd.nil w' 6 none) (fun h => absurd h (Nat.lt_irrefl 0)) ⟨Nat.le_refl 0, by decide⟩ (fun i v cs h => by simp at h) (.some self isRec x e eb eo env g u hc (hP g hg) he.1 (he.2.keep (Tr.below hb)))

set_option maxHeartbeats 4000000 in
theorem lambda_any (w0 w : World) (P : Nat → Prop) (hP : ∀ b, w.heap.size ≤ b → P b) (x : Str) (e : Ex) (env : Env) (eb eo : Nat) (u : Option Addr) (he : EN w0 w P e env eb eo (.pointer u)) :
    Calls Tryd.prog 23 #[.string (bstr x), .pointer (some ⟨eb, eo, none⟩), .pointer u] w fun e1 w' => ∃ c5 : Value, e1 = .returned (.agg #[.int .i64 3, .int .i64 0, .string (bstr []), .slice none 0 0, .slice none 0 0, c5]) ∧ VR w0 w' P (.mk 3 0 [] [] [] (some (.mk [] false x e env))) [.int .i64 3, .int .i64 0, .string (bstr []), .slice none 0 0, .slice none 0 0, c5] ∧ Below w.heap.size w w' := by
  have hb : Below w.heap.size w ((w.alloc (.cells #[.int .i64 3, .int .i64 0, .string (bstr []), .slice none 0 0, .slice none 0 0, .pointer (some ⟨w.heap.size + 1, 0, none⟩)] 45)).alloc (.cells #[.string (bstr []), .bool false, .string (bstr x), .pointer (some ⟨eb, eo, none⟩), .pointer u] 75)) :=
    ((Below.refl _ _).alloc (Nat.le_refl _) _).alloc (by rw [World.size_alloc]; omega) _
  have HV := Lib.hid (fn_val w0 w _ P hP [] false x e env eb eo (.pointer u) he hb (w.heap.size + 1) (by omega) (heap_new (World.size_alloc _ _)))
  have HB := Lib.hid hb
  clear hb he hP
  go_enter Tryd.func23, Tryd.ntmps23
  go_wp2_with fail
  go_returns
  exact ⟨_, rfl, HV.out, HB.out⟩

set_option maxHeartbeats 4000000 in
theorem named_any (w0 w : World) (P : Nat → Prop) (hP : ∀ b, w.heap.size ≤ b → P b) (self x : Str) (e : Ex) (env : Env) (eb eo : Nat) (u : Option Addr) (he : EN w0 w P e env eb eo (.pointer u)) :
    Calls Tryd.prog 25 #[.string (bstr self), .string (bstr x), .pointer (some ⟨eb, eo, none⟩), .pointer u] w fun e1 w' => ∃ c5 : Value, e1 = .returned (.agg #[.int .i64 3, .int .i64 0, .string (bstr []), .slice none 0 0, .slice none 0 0, c5]) ∧ VR w0 w' P (.mk 3 0 [] [] [] (some (.mk self true x e env))) [.int .i64 3, .int .i64 0, .string (bstr []), .slice none 0 0, .slice none 0 0, c5] ∧ Below w.heap.size w w' := by
  have hb : Below w.heap.size w ((w.alloc (.cells #[.int .i64 3, .int .i64 0, .string (bstr []), .slice none 0 0, .slice none 0 0, .pointer (some ⟨w.heap.size + 1, 0, none⟩)] 45)).alloc (.cells #[.string (bstr self), .bool true, .string (bstr x), .pointer (some ⟨eb, eo, none⟩), .pointer u] 75)) :=
    ((Below.refl _ _).alloc (Nat.le_refl _) _).alloc (by rw [World.size_alloc]; omega) _
  have HV := Lib.hid (fn_val w0 w _ P hP self true x e env eb eo (.pointer u) he hb (w.heap.size + 1) (by omega) (heap_new (World.size_alloc _ _)))
  have HB := Lib.hid hb
  clear hb he hP
  go_enter Tryd.func25, Tryd.ntmps25
  go_wp2_with fail
  go_returns
  exact ⟨_, rfl, HV.out, HB.out⟩
section
variable {w0 w : World} {B mb : Nat} {s : St} {t i r v f nx nm : Value} {rcs vcs fcs : List (List Value)}
theorem bind_any (h : Rep w0 B mb s w t i r v f nx nm rcs vcs fcs) (e : Ex) (env : Env) (eb eo : Nat) (u : Option Addr) (he : EN w0 w (Mv mb t r v f) e env eb eo (.pointer u)) (x : Str) (z : Val) (c0 c1 c2 c3 c4 c5 : Value) (hz : VR w0 w (Mv mb t r v f) z [c0, c1, c2, c3, c4, c5]) :
    Calls Tryd.prog 24 #[.pointer (some ⟨mb, 0, none⟩), .pointer (some ⟨eb, eo, none⟩), .pointer u, .string (bstr x), .agg #[c0, c1, c2, c3, c4, c5]] w fun e1 w' => e1 = .returned (.tuple #[]) ∧ Post w0 B mb (Mv mb t r v f) w { s with next := some (e, (x, z) :: env) } w' := by
  have hb : Below w.heap.size w ((w.alloc (.cells #[c0, c1, c2, c3, c4, c5] 45)).alloc (.cells #[.string (bstr x), c0, c1, c2, c3, c4, c5, .pointer u] 73)) :=
    ((Below.refl _ _).alloc (Nat.le_refl _) _).alloc (by rw [World.size_alloc]; omega) _
  have hen : EN w0 ((w.alloc (.cells #[c0, c1, c2, c3, c4, c5] 45)).alloc (.cells #[.string (bstr x), c0, c1, c2, c3, c4, c5, .pointer u] 73)) (Mv mb t r v f) e ((x, z) :: env) eb eo (.pointer (some ⟨w.heap.size + 1, 0, none⟩)) :=
    ⟨he.1, .cons x z env (w.heap.size + 1) c0 c1 c2 c3 c4 c5 (.pointer u) (heap_new (World.size_alloc _ _)) (h.mvNew _ (by omega)) (hz.keep (Tr.below hb)) (he.2.keep (Tr.below hb))⟩
  have HC := Lib.hid (begin_any (h.below hb) e ((x, z) :: env) eb eo (some ⟨w.heap.size + 1, 0, none⟩) hen)
  have HT := Lib.hid (And.intro (Tr.below (P := Mv mb t r v f) hb) (hb.mono (Nat.le_of_lt (Nat.lt_of_le_of_lt h.base.2 h.lt))))
  obtain ⟨A6, k6, q6, LA6, lk6, e6⟩ := hz.six
  simp only [List.cons.injEq, and_true] at e6
  obtain ⟨rfl, rfl, rfl, rfl, rfl, rfl⟩ := e6
  clear h he hz hb hen
  go_enter Tryd.func24, Tryd.ntmps24
  go_wp2_with (go_at_call 18; (with_reducible refine HC.out.mono ?_); rintro e1 w1 ⟨rfl, hp⟩; have HP := Lib.hid hp; clear hp HC)
  go_returns
  exact ⟨rfl, HP.out.mono HT.out.1 HT.out.2⟩

def St.ifd (s : St) (z : Val) (e1 e2 : Ex) (env : Env) : St := if z.sort = 1 then (if z.n = 0 then { s with next := some (e2, env) } else { s with next := some (e1, env) }) else { s with err := 11 }
theorem if_any (h : Rep w0 B mb s w t i r v f nx nm rcs vcs fcs) (e1 e2 : Ex) (env : Env) (b1 o1 b2 o2 : Nat) (u : Option Addr) (h1 : EN w0 w (Mv mb t r v f) e1 env b1 o1 (.pointer u)) (h2 : EN w0 w (Mv mb t r v f) e2 env b2 o2 (.pointer u)) (z : Val) (A : Option Addr) (c : Nat) (q : Option Addr) (LA : Option Addr) (lc : Nat) :
    Calls Tryd.prog 30 #[.pointer (some ⟨mb, 0, none⟩), .agg #[.int .i64 z.sort, .int .i64 z.n, .string (bstr z.s), .slice LA z.labels.length lc, .slice A z.l.length c, .pointer q], .pointer (some ⟨b1, o1, none⟩), .pointer (some ⟨b2, o2, none⟩), .pointer u] w fun e w' => e = .returned (.tuple #[]) ∧ Post w0 B mb (Mv mb t r v f) w (s.ifd z e1 e2 env) w' := by
  have hb : Below w.heap.size w (w.alloc (.cells #[.int .i64 z.sort, .int .i64 z.n, .string (bstr z.s), .slice LA z.labels.length lc, .slice A z.l.length c, .pointer q] 45)) := (Below.refl _ _).alloc (Nat.le_refl _) _
  have HC0 := Lib.hid (stuck_any (h.below hb))
  have HC1 := Lib.hid (begin_any (h.below hb) e1 env b1 o1 u ⟨h1.1, h1.2.keep (Tr.below hb)⟩)
  have HC2 := Lib.hid (begin_any (h.below hb) e2 env b2 o2 u ⟨h2.1, h2.2.keep (Tr.below hb)⟩)
  have HT := Lib.hid (And.intro (Tr.below (P := Mv mb t r v f) hb) (hb.mono (Nat.le_of_lt (Nat.lt_of_le_of_lt h.base.2 h.lt))))
  clear h h1 h2 hb
  by_cases hs : z.sort = 1
  · by_cases hn : z.n = 0
    · have e : s.ifd z e1 e2 env = { s with next := some (e2, env) } := by rw [St.ifd, if_pos hs, if_pos hn]
      rw [e]; clear e
      rw [hs, hn] at HC0 HC1 HC2 HT ⊢
      clear hs hn
      go_enter Tryd.func30, Tryd.ntmps30
      go_wp2_with (go_at_call 18; (with_reducible refine HC2.out.mono ?_); rintro e1 w1 ⟨rfl, hp⟩; have HP := Lib.hid hp; clear hp HC2)
      go_returns
      exact ⟨rfl, HP.out.mono HT.out.1 HT.out.2⟩
    · have e : s.ifd z e1 e2 env = { s with next := some (e1, env) } := by rw [St.ifd, if_pos hs, if_neg hn]
      rw [e]; clear e
      rw [hs] at HC0 HC1 HC2 HT ⊢
      clear hs
      go_enter Tryd.func30, Tryd.ntmps30
      go_wp2_with (go_at_call 18; (with_reducible refine HC1.out.mono ?_); rintro e1 w1 ⟨rfl, hp⟩; have HP := Lib.hid hp; clear hp HC1)
      go_returns
      exact ⟨rfl, HP.out.mono HT.out.1 HT.out.2⟩
  · have e : s.ifd z e1 e2 env = { s with err := 11 } := by rw [St.ifd, if_neg hs]
    rw [e]; clear e
    go_enter Tryd.func30, Tryd.ntmps30
    go_wp2_with (go_at_call 20; (with_reducible refine HC0.out.mono ?_); rintro e1 w1 ⟨rfl, hp⟩; have HP := Lib.hid hp; clear hp HC0)
    go_returns
    exact ⟨rfl, HP.out.mono HT.out.1 HT.out.2⟩
end
end Go.Proofs.YtjmgnohepoacbaaDoor

namespace Go.Proofs.YtjmgnohepoacbaaDoor
open Go.ChangeShapes Go.WideShapes Go.ChangeAt Go.RowKit Go.Sort
set_option linter.unusedVariables false
set_option linter.unusedSimpArgs false

theorem step_app {P : Program} {t e : TypeId} {z : Value} {size bytes : Nat} (T : ElemTy P t e z size bytes) (w : World) {ops : Array Oper} {o : Oper} {a : Act} {K : Act → World → Prop} {Q : Exit → Act → World → Prop} {E : Prop} (hgd : o.guard = none) (s x : Operand)
    (ho : o.op = .call { callee := .builtin .append, args := #[s, x], argTypes := #[t, t] }) (base : Nat)
    (v : Value) (n : Nat) (xs : List Value) (hs : a.eval s = v) (hown : w.ownsRow base e size v n xs) (A : Option Addr) (m c : Nat) (news : List Value) (hx : a.eval x = .slice A m c) (hr : Rd w size A m news) (h1 : ∀ u ∈ news, u.oneCell' = true)
    (hbytes : (n + m) * bytes ≤ 140737488355328) (hbase : base ≤ w.heap.size)
    (h : ∀ v' w', w'.ownsRow base e size v' (n + m) (xs ++ news) → w.grownBy w' v.ownBlock → (v'.ownBlock = v.ownBlock ∨ v'.ownBlock = some w.heap.size) → K (a.put o.dst v') w') :
    if Region.wanted o (yielded ops a.tmps) = true then Oper.wp P o a w K Q else E := by
  have hw : Region.wanted o (yielded ops a.tmps) = true := by simp [Region.wanted, hgd]
  rw [if_pos hw]
  obtain ⟨v', w', hrun, h2, h3, h4⟩ := run_app T w o.type base v n xs hown A m c news hr h1 hbytes hbase
  unfold Oper.wp execOp
  simp only [ho, resolve, invoke, builtin, Sem.run_bind, Sem.run_pure, Result.andThen_ok, List.map_toArray, List.map_cons, List.map_nil, hs, hx, hrun]
  exact h v' w' h2 h3 h4
abbrev zVal : List Value := [.int .i64 0, .int .i64 0, .string ⟨#[]⟩, .slice none 0 0, .slice none 0 0, .pointer none]
theorem elVal : ElemTy Tryd.prog 42 45 (.agg #[.int .i64 0, .int .i64 0, .string ⟨#[]⟩, .slice none 0 0, .slice none 0 0, .pointer none]) 6 88 :=
  ⟨Tryd.underlying42, by kernel_rfl, rfl, by omega, by omega⟩
theorem zVal_ones : ∀ u ∈ (#[.int .i64 0, .int .i64 0, .string ⟨#[]⟩, .slice none 0 0, .slice none 0 0, .pointer none] : Array Value).toList, u.oneCell' = true := by
  intro u hu
  simp at hu
  rcases hu with rfl | rfl | rfl | rfl | rfl | rfl <;> rfl
theorem set_six (xs : List Value) (z0 z1 z2 z3 z4 z5 a0 a1 a2 a3 a4 a5 : Value) : ((((((xs ++ ([z0, z1, z2, z3, z4, z5] : List Value)).set (xs.length) a0).set (xs.length + 1) a1).set (xs.length + 2) a2).set (xs.length + 3) a3).set (xs.length + 4) a4).set (xs.length + 5) a5 = xs ++ [a0, a1, a2, a3, a4, a5] := by
  rw [List.set_append_right _ _ (by omega), List.set_append_right _ _ (by omega), List.set_append_right _ _ (by omega), List.set_append_right _ _ (by omega), List.set_append_right _ _ (by omega), List.set_append_right _ _ (by omega)]
  simp
/-- Six cells written behind one another. -/
def put6 (w : World) (g o : Nat) (a0 a1 a2 a3 a4 a5 : Value) : World := (((((w.setCell ⟨g, o, none⟩ a0).setCell ⟨g, o + 1, none⟩ a1).setCell ⟨g, o + 2, none⟩ a2).setCell ⟨g, o + 3, none⟩ a3).setCell ⟨g, o + 4, none⟩ a4).setCell ⟨g, o + 5, none⟩ a5
theorem put6_other (w : World) (g o : Nat) (a0 a1 a2 a3 a4 a5 : Value) {b : Nat} (h : b ≠ g) : (put6 w g o a0 a1 a2 a3 a4 a5).heap[b]? = w.heap[b]? := by
  unfold put6
  rw [set_other _ _ _ _ h, set_other _ _ _ _ h, set_other _ _ _ _ h, set_other _ _ _ _ h, set_other _ _ _ _ h, set_other _ _ _ _ h]
theorem put6_size (w : World) (g o : Nat) (a0 a1 a2 a3 a4 a5 : Value) : (put6 w g o a0 a1 a2 a3 a4 a5).heap.size = w.heap.size := by
  unfold put6
  rw [World.size_setCell, World.size_setCell, World.size_setCell, World.size_setCell, World.size_setCell, World.size_setCell]
theorem setCell_os (w : World) (a : Addr) (u : Value) : (w.setCell a u).os = w.os := rfl
theorem setCell_tape (w : World) (a : Addr) (u : Value) : (w.setCell a u).tape = w.tape := rfl
theorem setCell_output (w : World) (a : Addr) (u : Value) : (w.setCell a u).output = w.output := rfl
theorem put6_os (w : World) (g o : Nat) (a0 a1 a2 a3 a4 a5 : Value) : (put6 w g o a0 a1 a2 a3 a4 a5).os = w.os := by
  unfold put6
  rw [setCell_os, setCell_os, setCell_os, setCell_os, setCell_os, setCell_os]
theorem put6_tape (w : World) (g o : Nat) (a0 a1 a2 a3 a4 a5 : Value) : (put6 w g o a0 a1 a2 a3 a4 a5).tape = w.tape := by
  unfold put6
  rw [setCell_tape, setCell_tape, setCell_tape, setCell_tape, setCell_tape, setCell_tape]
theorem put6_output (w : World) (g o : Nat) (a0 a1 a2 a3 a4 a5 : Value) : (put6 w g o a0 a1 a2 a3 a4 a5).output = w.output := by
  unfold put6
  rw [setCell_output, setCell_output, setCell_output, setCell_output, setCell_output, setCell_output]
theorem own_put6 {w : World} {base n g cap : Nat} {e : TypeId} {xs : List Value} {z0 z1 z2 z3 z4 z5 : Value} (h : w.ownsRow base e 6 (.slice (some ⟨g, 0, none⟩) (n + 1) cap) (n + 1) (xs ++ [z0, z1, z2, z3, z4, z5])) (hx : xs.length = n * 6) (a0 a1 a2 a3 a4 a5 : Value) :
    (put6 w g (n * 6) a0 a1 a2 a3 a4 a5).ownsRow base e 6 (.slice (some ⟨g, 0, none⟩) (n + 1) cap) (n + 1) (xs ++ [a0, a1, a2, a3, a4, a5]) := by
  have h6 := own_set (own_set (own_set (own_set (own_set (own_set h (n * 6) (by omega) a0) (n * 6 + 1) (by omega) a1) (n * 6 + 2) (by omega) a2) (n * 6 + 3) (by omega) a3) (n * 6 + 4) (by omega) a4) (n * 6 + 5) (by omega) a5
  rw [← hx, set_six] at h6
  unfold put6
  rw [← hx]
  exact h6
/-- The last element's cells. -/
theorem own_last6 {w : World} {base n g cap : Nat} {e : TypeId} {xs : List Value} {z0 z1 z2 z3 z4 z5 : Value} (h : w.ownsRow base e 6 (.slice (some ⟨g, 0, none⟩) (n + 1) cap) (n + 1) (xs ++ [z0, z1, z2, z3, z4, z5])) (hx : xs.length = n * 6) :
    (w.cell? ⟨g, n * 6, none⟩ = some z0 ∧ w.cell? ⟨g, n * 6 + 1, none⟩ = some z1 ∧ w.cell? ⟨g, n * 6 + 2, none⟩ = some z2 ∧ w.cell? ⟨g, n * 6 + 3, none⟩ = some z3 ∧ w.cell? ⟨g, n * 6 + 4, none⟩ = some z4 ∧ w.cell? ⟨g, n * 6 + 5, none⟩ = some z5) ∧
    (w.frozen? ⟨g, n * 6, none⟩ = false ∧ w.frozen? ⟨g, n * 6 + 1, none⟩ = false ∧ w.frozen? ⟨g, n * 6 + 2, none⟩ = false ∧ w.frozen? ⟨g, n * 6 + 3, none⟩ = false ∧ w.frozen? ⟨g, n * 6 + 4, none⟩ = false ∧ w.frozen? ⟨g, n * 6 + 5, none⟩ = false) := by
  have g0 : (xs ++ [z0, z1, z2, z3, z4, z5])[n * 6]? = some z0 := by rw [List.getElem?_append_right (by omega), hx]; simp
  have g1 : (xs ++ [z0, z1, z2, z3, z4, z5])[n * 6 + 1]? = some z1 := by rw [List.getElem?_append_right (by omega), hx, show n * 6 + 1 - n * 6 = 1 by omega]; rfl
  have g2 : (xs ++ [z0, z1, z2, z3, z4, z5])[n * 6 + 2]? = some z2 := by rw [List.getElem?_append_right (by omega), hx, show n * 6 + 2 - n * 6 = 2 by omega]; rfl
  have g3 : (xs ++ [z0, z1, z2, z3, z4, z5])[n * 6 + 3]? = some z3 := by rw [List.getElem?_append_right (by omega), hx, show n * 6 + 3 - n * 6 = 3 by omega]; rfl
  have g4 : (xs ++ [z0, z1, z2, z3, z4, z5])[n * 6 + 4]? = some z4 := by rw [List.getElem?_append_right (by omega), hx, show n * 6 + 4 - n * 6 = 4 by omega]; rfl
  have g5 : (xs ++ [z0, z1, z2, z3, z4, z5])[n * 6 + 5]? = some z5 := by rw [List.getElem?_append_right (by omega), hx, show n * 6 + 5 - n * 6 = 5 by omega]; rfl
  exact ⟨⟨(own_cell h g0).1, (own_cell h g1).1, (own_cell h g2).1, (own_cell h g3).1, (own_cell h g4).1, (own_cell h g5).1⟩, (own_cell h g0).2, (own_cell h g1).2, (own_cell h g2).2, (own_cell h g3).2, (own_cell h g4).2, (own_cell h g5).2⟩
theorem flat_snoc (css : List (List Value)) (c : List Value) : (css ++ [c]).flatten = css.flatten ++ c := by simp

section
variable {w0 w : World} {B mb : Nat} {s : St} {t i r v f nx nm : Value} {rcs vcs fcs : List (List Value)}
theorem Rep.flatV (h : Rep w0 B mb s w t i r v f nx nm rcs vcs fcs) : vcs.flatten.length = s.vals.length * 6 := h.vr.1
/-- The new row of values stands; how it came to that does not matter. -/
theorem Rep.told (h : Rep w0 B mb s w t i r v f nx nm rcs vcs fcs) (z : Val) {cs : List Value} (hz : VR w0 w (Mv mb t r v f) z cs) {W : World} {v6 : Value} (hk : ∀ b, b < w.heap.size → b ≠ mb → some b ≠ v.ownBlock → W.heap[b]? = w.heap[b]?) (ho : W.os = w.os ∧ W.tape = w.tape ∧ W.output = w.output ∧ w.heap.size ≤ W.heap.size)
    (hd' : W.heap[mb]? = some (.cells (HD s t i r v6 f nx nm) 53)) (hv : W.ownsRow B 45 6 v6 (s.vals.length + 1) (vcs.flatten ++ cs)) (hat : ∀ q, v6.ownBlock = some q → v.ownBlock = some q ∨ w.heap.size ≤ q) :
    Post w0 B mb (Mv mb t r v f) w { s with vals := s.vals ++ [z] } W := by
  have hT : Tr w (Mv mb t r v f) W (Mv mb t r v6 f) := fun b hb hl => by
    refine ⟨⟨hb.1, hb.2.1, hb.2.2.1, ?_, hb.2.2.2.2⟩, hk b hl hb.1 hb.2.2.2.1⟩
    intro e
    rcases hat b e.symm with q | q
    · exact hb.2.2.2.1 q.symm
    · omega
  obtain ⟨h1, h2, h3⟩ := h.vals_ (L' := s.vals ++ [z]) (css' := vcs ++ [cs]) hk ho hd' (by rw [List.length_append, flat_snoc]; exact hv) hat ((h.vl.imp (fun a c => VR.keep hT)).snoc (hz.keep hT))
  exact ⟨_, _, _, _, _, _, _, _, _, _, h1, h2, h3⟩
/-- What stands when the row has grown, ahead of the stores. -/
structure Grew (w0 w : World) (B mb : Nat) (s : St) (t i r v f nx nm : Value) (vcs : List (List Value)) (w1 w6 : World) (v6 : Value) : Prop where
  hk : ∀ b, b < w1.heap.size → some b ≠ v.ownBlock → w6.heap[b]? = w1.heap[b]?
  ho : w6.os = w.os ∧ w6.tape = w.tape ∧ w6.output = w.output ∧ w.heap.size ≤ w6.heap.size
  bl : Below w.heap.size w w1
  own : w6.ownsRow B 45 6 v6 (s.vals.length + 1) (vcs.flatten ++ zVal)
  hat : ∀ q, v6.ownBlock = some q → v.ownBlock = some q ∨ w1.heap.size ≤ q
theorem Rep.grew (h : Rep w0 B mb s w t i r v f nx nm rcs vcs fcs) {w1 w6 : World} {v6 : Value} (hb : Below w.heap.size w w1) (hown : w6.ownsRow B 45 6 v6 (s.vals.length + 1) (vcs.flatten ++ zVal)) (hg : w1.grownBy w6 v.ownBlock) (hat : v6.ownBlock = v.ownBlock ∨ v6.ownBlock = some w1.heap.size) : Grew w0 w B mb s t i r v f nx nm vcs w1 w6 v6 :=
  ⟨fun b hl hne => hg.block b hl hne, ⟨hg.os.trans hb.os, hg.tape.trans hb.tape, hg.output.trans hb.output, Nat.le_trans hb.size hg.size⟩, hb, hown, fun q hq => by
    rcases hat with k | k
    · exact .inl (k ▸ hq)
    · right
      rw [k] at hq
      injection hq with hq
      omega⟩
theorem Rep.vne (h : Rep w0 B mb s w t i r v f nx nm rcs vcs fcs) : some mb ≠ v.ownBlock := fun e => (h.dv mb e.symm).1 rfl
theorem Rep.vlt (h : Rep w0 B mb s w t i r v f nx nm rcs vcs fcs) {b : Nat} (hb : w.heap.size ≤ b) : some b ≠ v.ownBlock := fun e => by have := (h.vr.lt b e.symm).2; omega
theorem Grew.hd (h : Rep w0 B mb s w t i r v f nx nm rcs vcs fcs) {w1 w6 : World} {v6 : Value} (g : Grew w0 w B mb s t i r v f nx nm vcs w1 w6 v6) : w6.heap[mb]? = some (.cells (HD s t i r v f nx nm) 53) :=
  (g.hk mb (Nat.lt_of_lt_of_le h.lt g.bl.size) h.vne).trans ((g.bl.block mb h.lt).trans h.hd)
theorem Grew.ne (h : Rep w0 B mb s w t i r v f nx nm rcs vcs fcs) {w1 w6 : World} {q c : Nat} (g : Grew w0 w B mb s t i r v f nx nm vcs w1 w6 (.slice (some ⟨q, 0, none⟩) (s.vals.length + 1) c)) : q ≠ mb := by
  rcases g.hat q rfl with k | k
  · exact (h.dv q k).1
  · have := h.lt
    have := g.bl.size
    omega
theorem Grew.fin1 (h : Rep w0 B mb s w t i r v f nx nm rcs vcs fcs) {w1 w6 : World} {q c : Nat} (g : Grew w0 w B mb s t i r v f nx nm vcs w1 w6 (.slice (some ⟨q, 0, none⟩) (s.vals.length + 1) c)) (z : Val) {c0 c1 c2 c3 c4 c5 : Value} (hz : VR w0 w (Mv mb t r v f) z [c0, c1, c2, c3, c4, c5]) :
    Post w0 B mb (Mv mb t r v f) w { s with vals := s.vals ++ [z] } ((put6 w6 q (s.vals.length * 6) c0 c1 c2 c3 c4 c5).setCell ⟨mb, 7, none⟩ (.slice (some ⟨q, 0, none⟩) (s.vals.length + 1) c)) := by
  have hne := g.ne h
  refine h.told z hz (v6 := .slice (some ⟨q, 0, none⟩) (s.vals.length + 1) c) (fun b hb h1 h2 => ?_) ⟨by rw [setCell_os, put6_os]; exact g.ho.1, by rw [setCell_tape, put6_tape]; exact g.ho.2.1, by rw [setCell_output, put6_output]; exact g.ho.2.2.1, by rw [World.size_setCell, put6_size]; exact g.ho.2.2.2⟩ ?_ ?_ (fun q' hq => ?_)
  · have hbq : b ≠ q := fun e => by
      subst e
      rcases g.hat b rfl with k | k
      · exact h2 k.symm
      · have := g.bl.size; omega
    rw [set_other _ _ _ _ h1, put6_other _ _ _ _ _ _ _ _ _ hbq, g.hk b (Nat.lt_of_lt_of_le hb g.bl.size) h2, g.bl.block b hb]
  · rw [set_cells (i := 7) ((put6_other _ _ _ _ _ _ _ _ _ (Ne.symm hne)).trans (g.hd h))]
    rfl
  · exact own_keep (own_put6 g.own h.flatV c0 c1 c2 c3 c4 c5) (fun g' hg' _ => set_other _ _ _ _ (by have e : q = g' := Option.some.inj hg'; omega))
  · rcases g.hat q' hq with k | k
    · exact .inl k
    · right; have := g.bl.size; omega
theorem Grew.fin2 (h : Rep w0 B mb s w t i r v f nx nm rcs vcs fcs) {w1 w6 : World} {q c : Nat} (g : Grew w0 w B mb s t i r v f nx nm vcs w1 w6 (.slice (some ⟨q, 0, none⟩) (s.vals.length + 1) c)) (z : Val) {c0 c1 c2 c3 c4 c5 : Value} (hz : VR w0 w (Mv mb t r v f) z [c0, c1, c2, c3, c4, c5]) :
    Post w0 B mb (Mv mb t r v f) w { s with vals := s.vals ++ [z] } (put6 (w6.setCell ⟨mb, 7, none⟩ (.slice (some ⟨q, 0, none⟩) (s.vals.length + 1) c)) q (s.vals.length * 6) c0 c1 c2 c3 c4 c5) := by
  have hne := g.ne h
  refine h.told z hz (v6 := .slice (some ⟨q, 0, none⟩) (s.vals.length + 1) c) (fun b hb h1 h2 => ?_) ⟨by rw [put6_os, setCell_os]; exact g.ho.1, by rw [put6_tape, setCell_tape]; exact g.ho.2.1, by rw [put6_output, setCell_output]; exact g.ho.2.2.1, by rw [put6_size, World.size_setCell]; exact g.ho.2.2.2⟩ ?_ ?_ (fun q' hq => ?_)
  · have hbq : b ≠ q := fun e => by
      subst e
      rcases g.hat b rfl with k | k
      · exact h2 k.symm
      · have := g.bl.size; omega
    rw [put6_other _ _ _ _ _ _ _ _ _ hbq, set_other _ _ _ _ h1, g.hk b (Nat.lt_of_lt_of_le hb g.bl.size) h2, g.bl.block b hb]
  · rw [put6_other _ _ _ _ _ _ _ _ _ (Ne.symm hne), set_cells (i := 7) (g.hd h)]
    rfl
  · exact own_put6 (own_keep g.own (fun g' hg' _ => set_other _ _ _ _ (by have e : q = g' := Option.some.inj hg'; omega))) h.flatV c0 c1 c2 c3 c4 c5
  · rcases g.hat q' hq with k | k
    · exact .inl k
    · right; have := g.bl.size; omega
theorem cells6 {w : World} {g : Nat} {x0 x1 x2 x3 x4 x5 : Value} {T : TypeId} {fr : Nat × Nat} (h : w.heap[g]? = some (.cells #[x0, x1, x2, x3, x4, x5] T fr)) :
    w.cell? ⟨g, 0, none⟩ = some x0 ∧ w.cell? ⟨g, 1, none⟩ = some x1 ∧ w.cell? ⟨g, 2, none⟩ = some x2 ∧ w.cell? ⟨g, 3, none⟩ = some x3 ∧ w.cell? ⟨g, 4, none⟩ = some x4 ∧ w.cell? ⟨g, 5, none⟩ = some x5 := by
  refine ⟨?_, ?_, ?_, ?_, ?_, ?_⟩ <;> (rw [Lib.cell_of_heap h]; rfl)
/-- What the walk reads when the row has grown. -/
theorem Grew.reads (h : Rep w0 B mb s w t i r v f nx nm rcs vcs fcs) {w1 w6 : World} {q c : Nat} (g : Grew w0 w B mb s t i r v f nx nm vcs w1 w6 (.slice (some ⟨q, 0, none⟩) (s.vals.length + 1) c)) (u : Value) {x0 x1 x2 x3 x4 x5 : Value} {T : TypeId} {b : Nat} (hb : w1.heap[b]? = some (.cells #[x0, x1, x2, x3, x4, x5] T)) (hl : w.heap.size ≤ b) (y0 y1 y2 y3 y4 y5 : Value) :
    (w6.cell? ⟨mb, 7, none⟩ = some v ∧ w6.frozen? ⟨mb, 7, none⟩ = false) ∧
    (w6.cell? ⟨b, 0, none⟩ = some x0 ∧ w6.cell? ⟨b, 1, none⟩ = some x1 ∧ w6.cell? ⟨b, 2, none⟩ = some x2 ∧ w6.cell? ⟨b, 3, none⟩ = some x3 ∧ w6.cell? ⟨b, 4, none⟩ = some x4 ∧ w6.cell? ⟨b, 5, none⟩ = some x5) ∧
    ((w6.setCell ⟨mb, 7, none⟩ u).cell? ⟨b, 0, none⟩ = some x0 ∧ (w6.setCell ⟨mb, 7, none⟩ u).cell? ⟨b, 1, none⟩ = some x1 ∧ (w6.setCell ⟨mb, 7, none⟩ u).cell? ⟨b, 2, none⟩ = some x2 ∧ (w6.setCell ⟨mb, 7, none⟩ u).cell? ⟨b, 3, none⟩ = some x3 ∧ (w6.setCell ⟨mb, 7, none⟩ u).cell? ⟨b, 4, none⟩ = some x4 ∧ (w6.setCell ⟨mb, 7, none⟩ u).cell? ⟨b, 5, none⟩ = some x5) ∧
    ((put6 w6 q (s.vals.length * 6) y0 y1 y2 y3 y4 y5).cell? ⟨mb, 7, none⟩ = some v ∧ (put6 w6 q (s.vals.length * 6) y0 y1 y2 y3 y4 y5).frozen? ⟨mb, 7, none⟩ = false) := by
  have hm := g.hd h
  have hb6 : w6.heap[b]? = some (.cells #[x0, x1, x2, x3, x4, x5] T) := (g.hk b (lt_of_heap hb) (h.vlt hl)).trans hb
  have hbm : b ≠ mb := by have := h.lt; omega
  have hp : (put6 w6 q (s.vals.length * 6) y0 y1 y2 y3 y4 y5).heap[mb]? = _ := (put6_other _ _ _ _ _ _ _ _ _ (Ne.symm (g.ne h))).trans hm
  exact ⟨⟨(cells11 hm).2.2.2.2.2.2.2.1, frozenN hm 7⟩, cells6 hb6, cells6 ((set_other _ _ _ _ hbm).trans hb6), (cells11 hp).2.2.2.2.2.2.2.1, frozenN hp 7⟩
set_option maxHeartbeats 4000000 in
theorem tell_any (h : Rep w0 B mb s w t i r v f nx nm rcs vcs fcs) (hn : s.vals.length ≤ 100000000000) (z : Val) {A : Option Addr} {c : Nat} {p : Option Addr} {LA : Option Addr} {lc : Nat} (hz : VR w0 w (Mv mb t r v f) z [.int .i64 z.sort, .int .i64 z.n, .string (bstr z.s), .slice LA z.labels.length lc, .slice A z.l.length c, .pointer p]) :
    Calls Tryd.prog 21 #[.pointer (some ⟨mb, 0, none⟩), .agg #[.int .i64 z.sort, .int .i64 z.n, .string (bstr z.s), .slice LA z.labels.length lc, .slice A z.l.length c, .pointer p]] w fun e w' => e = .returned (.tuple #[]) ∧ Post w0 B mb (Mv mb t r v f) w { s with vals := s.vals ++ [z] } w' := by
  obtain ⟨A1, k1, rfl, _⟩ := own_cap h.vr
  have hb1 : Below w.heap.size w (w.alloc (.cells #[.int .i64 z.sort, .int .i64 z.n, .string (bstr z.s), .slice LA z.labels.length lc, .slice A z.l.length c, .pointer p] 45)) := (Below.refl _ _).alloc (Nat.le_refl _) _
  have hb2 : Below w.heap.size w ((w.alloc (.cells #[.int .i64 z.sort, .int .i64 z.n, .string (bstr z.s), .slice LA z.labels.length lc, .slice A z.l.length c, .pointer p] 45)).alloc (.cells #[.int .i64 0, .int .i64 0, .string ⟨#[]⟩, .slice none 0 0, .slice none 0 0, .pointer none] 45)) := hb1.alloc (by rw [World.size_alloc]; omega) _
  have hb3 : Below w.heap.size w ((w.alloc (.cells #[.int .i64 z.sort, .int .i64 z.n, .string (bstr z.s), .slice LA z.labels.length lc, .slice A z.l.length c, .pointer p] 45)).alloc (.cells #[.int .i64 0, .int .i64 0, .string ⟨#[]⟩, .slice none 0 0, .slice none 0 0, .pointer none] 45)).drew := hb2.drew
  have hx1 : (w.alloc (.cells #[.int .i64 z.sort, .int .i64 z.n, .string (bstr z.s), .slice LA z.labels.length lc, .slice A z.l.length c, .pointer p] 45)).heap[w.heap.size]? = some (.cells #[.int .i64 z.sort, .int .i64 z.n, .string (bstr z.s), .slice LA z.labels.length lc, .slice A z.l.length c, .pointer p] 45) := heap_new rfl
  have hx2 : ((w.alloc (.cells #[.int .i64 z.sort, .int .i64 z.n, .string (bstr z.s), .slice LA z.labels.length lc, .slice A z.l.length c, .pointer p] 45)).alloc (.cells #[.int .i64 0, .int .i64 0, .string ⟨#[]⟩, .slice none 0 0, .slice none 0 0, .pointer none] 45)).drew.heap[w.heap.size]? = some (.cells #[.int .i64 z.sort, .int .i64 z.n, .string (bstr z.s), .slice LA z.labels.length lc, .slice A z.l.length c, .pointer p] 45) := (Below.heap_alloc _ _ _ (by rw [World.size_alloc]; omega)).trans hx1
  have HRD := Lib.hid (show Rd ((w.alloc (.cells #[.int .i64 z.sort, .int .i64 z.n, .string (bstr z.s), .slice LA z.labels.length lc, .slice A z.l.length c, .pointer p] 45)).alloc (.cells #[.int .i64 0, .int .i64 0, .string ⟨#[]⟩, .slice none 0 0, .slice none 0 0, .pointer none] 45)).drew 6 (some ⟨w.heap.size + 1, 0, none⟩) 1 (#[.int .i64 0, .int .i64 0, .string ⟨#[]⟩, .slice none 0 0, .slice none 0 0, .pointer none] : Array Value).toList from by
    have := (Rd.lit (size := 6) (n := 1) (w.alloc (.cells #[.int .i64 z.sort, .int .i64 z.n, .string (bstr z.s), .slice LA z.labels.length lc, .slice A z.l.length c, .pointer p] 45)) (#[.int .i64 0, .int .i64 0, .string ⟨#[]⟩, .slice none 0 0, .slice none 0 0, .pointer none] : Array Value) 45 rfl (fr := (0, 0))).drew
    rw [World.size_alloc] at this
    exact this)
  have HOA := Lib.hid (own_below h.vr hb3)
  have HBY := Lib.hid (show (s.vals.length + 1) * 88 ≤ 140737488355328 by omega)
  have HSZ := Lib.hid (show B ≤ ((w.alloc (.cells #[.int .i64 z.sort, .int .i64 z.n, .string (bstr z.s), .slice LA z.labels.length lc, .slice A z.l.length c, .pointer p] 45)).alloc (.cells #[.int .i64 0, .int .i64 0, .string ⟨#[]⟩, .slice none 0 0, .slice none 0 0, .pointer none] 45)).drew.heap.size by have := h.base.2; have := h.lt; have := hb3.size; omega)
  have HG := Lib.hid (fun (v6 : Value) (w6 : World) a b c => h.grew (v6 := v6) (w6 := w6) hb3 a b c)
  have HH := Lib.hid h
  have HZ := Lib.hid hz
  have HX2 := Lib.hid hx2
  have m1 := (cells11 ((hb1.block mb h.lt).trans h.hd)).2.2.2.2.2.2.2.1
  have m2 := (cells11 ((hb3.block mb h.lt).trans h.hd)).2.2.2.2.2.2.2.1
  obtain ⟨a0, a1, a2, a3, a4, a5⟩ := cells6 hx1
  obtain ⟨b0, b1, b2, b3, b4, b5⟩ := cells6 hx2
  have n0 : (0 : Int) ≤ (s.vals.length : Int) := by omega
  have n1 : (s.vals.length : Int) < (s.vals.length : Int) + 1 := by omega
  have n2 : (s.vals.length : Int) ≤ 100000000000 := by omega
  clear h hz hb1 hb2 hb3 hx1 hx2 hn
  go_enter Tryd.func21, Tryd.ntmps21
  go_upto_region 1 with fail
  go_region_law ((refine step_app elVal (((w.alloc (.cells #[.int .i64 z.sort, .int .i64 z.n, .string (bstr z.s), .slice LA z.labels.length lc, .slice A z.l.length c, .pointer p] 45)).alloc (.cells #[.int .i64 0, .int .i64 0, .string ⟨#[]⟩, .slice none 0 0, .slice none 0 0, .pointer none] 45)).drew) (by rfl) (.tmp 7) (.tmp 10) (by rfl) B (.slice A1 s.vals.length k1) s.vals.length _ (by rfl) HOA.out (some ⟨w.heap.size + 1, 0, none⟩) 1 1 _ (by rfl) HRD.out zVal_ones HBY.out HSZ.out ?_; intro v6 w6 hown6 hg6 hat6; obtain ⟨q6, c6, rfl⟩ := own_some hown6; have HG6 := Lib.hid (HG.out _ _ hown6 hg6 hat6); obtain ⟨⟨e7, f7⟩, ⟨x0, x1, x2, x3, x4, x5⟩, ⟨y0, y1, y2, y3, y4, y5⟩, p7, r7⟩ := HG6.out.reads HH.out (.slice (some ⟨q6, 0, none⟩) (s.vals.length + 1) c6) HX2.out (Nat.le_refl _) (.int .i64 z.sort) (.int .i64 z.n) (.string (bstr z.s)) (.slice LA z.labels.length lc) (.slice A z.l.length c) (.pointer p); unfold put6 at p7 r7; obtain ⟨⟨g0, g1, g2, g3, g4, g5⟩, ⟨z0, z1, z2, z3, z4, z5⟩⟩ := own_last6 hown6 HH.out.flatV; have hownV := own_keep (w' := w6.setCell ⟨mb, 7, none⟩ (.slice (some ⟨q6, 0, none⟩) (s.vals.length + 1) c6)) hown6 (fun g' hg' _ => set_other _ _ _ _ (by have e : q6 = g' := Option.some.inj hg'; have := HG6.out.ne HH.out; omega)); obtain ⟨⟨g0', g1', g2', g3', g4', g5'⟩, ⟨z0', z1', z2', z3', z4', z5'⟩⟩ := own_last6 hownV HH.out.flatV; have HF1 := Lib.hid (HG6.out.fin1 HH.out z HZ.out); have HF2 := Lib.hid (HG6.out.fin2 HH.out z HZ.out); unfold put6 at HF1 HF2; clear hown6 hg6 hat6 hownV))
  · go_wp2_with fail
    go_returns
    with_reducible exact ⟨rfl, HF1.out⟩
  · go_wp2_with fail
    go_returns
    with_reducible exact ⟨rfl, HF2.out⟩
  · go_wp2_with fail
    go_returns
    with_reducible exact ⟨rfl, HF1.out⟩
  · go_wp2_with fail
    go_returns
    with_reducible exact ⟨rfl, HF2.out⟩
  · go_wp2_with fail
    go_returns
    with_reducible exact ⟨rfl, HF1.out⟩
  · go_wp2_with fail
    go_returns
    with_reducible exact ⟨rfl, HF2.out⟩
  · go_wp2_with fail
    go_returns
    with_reducible exact ⟨rfl, HF1.out⟩
  · go_wp2_with fail
    go_returns
    with_reducible exact ⟨rfl, HF2.out⟩
  · go_wp2_with fail
    go_returns
    with_reducible exact ⟨rfl, HF1.out⟩
  · go_wp2_with fail
    go_returns
    with_reducible exact ⟨rfl, HF2.out⟩
  · go_wp2_with fail
    go_returns
    with_reducible exact ⟨rfl, HF1.out⟩
  · go_wp2_with fail
    go_returns
    with_reducible exact ⟨rfl, HF2.out⟩
end
end Go.Proofs.YtjmgnohepoacbaaDoor

namespace Go.Proofs.YtjmgnohepoacbaaDoor
open Go.ChangeShapes Go.WideShapes Go.ChangeAt Go.RowKit Go.Sort
set_option linter.unusedVariables false
set_option linter.unusedSimpArgs false

/-! ### How far it is to the end of the names -/
theorem ER.len_eq {w0 w : World} {P : Nat → Prop} {e1 e2 : Env} {u : Value} (h1 : ER w0 w P e1 u) (h2 : ER w0 w P e2 u) : e1.length = e2.length := by
  induction e1 generalizing e2 u with
  | nil => cases h1; cases h2; rfl
  | cons x e1 ih =>
    cases h1 with
    | cons y v e'' b c0 c1 c2 c3 c4 c5 u hb bl hv hr =>
      cases h2 with
      | cons y' v' e' b' d0 d1 d2 d3 d4 d5 u' hb' bl' hv' hr' =>
        rw [hb] at hb'
        injection hb' with hb'
        injection hb' with hb'
        injection hb' with hb'
        simp only [List.cons.injEq] at hb'
        obtain rfl : u = u' := hb'.2.2.2.2.2.2.2.1
        simp only [List.length_cons, ih hr hr']
open Classical in
noncomputable def envMu (w0 w : World) (P : Nat → Prop) (u : Value) : Nat := if h : ∃ e, ER w0 w P e u then (Classical.choose h).length else 0
theorem envMu_eq {w0 w : World} {P : Nat → Prop} {e : Env} {u : Value} (h : ER w0 w P e u) : envMu w0 w P u = e.length := by
  unfold envMu
  rw [dif_pos ⟨e, h⟩]
  exact ER.len_eq (Classical.choose_spec (⟨e, h⟩ : ∃ e, ER w0 w P e u)) h
def St.name (s : St) (x : Str) : Env → St
  | [] => { s with err := 11 }
  | (y, v) :: e => if y = x then { s with vals := s.vals ++ [v] } else s.name x e
theorem cells8 {w : World} {g : Nat} {x0 x1 x2 x3 x4 x5 x6 x7 : Value} {T : TypeId} {fr : Nat × Nat} (h : w.heap[g]? = some (.cells #[x0, x1, x2, x3, x4, x5, x6, x7] T fr)) :
    w.cell? ⟨g, 0, none⟩ = some x0 ∧ w.cell? ⟨g, 1, none⟩ = some x1 ∧ w.cell? ⟨g, 2, none⟩ = some x2 ∧ w.cell? ⟨g, 3, none⟩ = some x3 ∧ w.cell? ⟨g, 4, none⟩ = some x4 ∧ w.cell? ⟨g, 5, none⟩ = some x5 ∧ w.cell? ⟨g, 6, none⟩ = some x6 ∧ w.cell? ⟨g, 7, none⟩ = some x7 := by
  refine ⟨?_, ?_, ?_, ?_, ?_, ?_, ?_, ?_⟩ <;> (rw [Lib.cell_of_heap h]; rfl)
section
variable {w0 w : World} {B mb : Nat} {s : St} {t i r v f nx nm : Value} {rcs vcs fcs : List (List Value)}
set_option maxHeartbeats 4000000 in
theorem name_any (h : Rep w0 B mb s w t i r v f nx nm rcs vcs fcs) (hn : s.vals.length ≤ 100000000000) (x : Str) (env : Env) (u : Value) (he : ER w0 w (Mv mb t r v f) env u) :
    Calls Tryd.prog 22 #[.pointer (some ⟨mb, 0, none⟩), .string (bstr x), u] w fun e w' => e = .returned (.tuple #[]) ∧ Post w0 B mb (Mv mb t r v f) w (s.name x env) w' := by
  have HH := Lib.hid h
  have HN := Lib.hid hn
  have HE := Lib.hid he
  obtain ⟨p, rfl⟩ := he.ptr
  have HBM := Lib.hid (fun (wr : World) (hb : Below w.heap.size w wr) => And.intro (Tr.below (P := Mv mb t r v f) hb) (hb.mono (Nat.le_of_lt (Nat.lt_of_le_of_lt h.base.2 h.lt))))
  clear h hn he
  go_enter Tryd.func22, Tryd.ntmps22
  go_wp2_with fail
  go_loopw [6] (fun k wr => ∃ (q : Option Addr) (e : Env), k = .pointer q ∧ ER w0 w (Mv mb t r v f) e k ∧ s.name x env = s.name x e ∧ Below w.heap.size w wr) (fun k _ => envMu w0 w (Mv mb t r v f) k)
  case atStart => exact ⟨_, env, rfl, HE.out, rfl, Below.refl _ _⟩
  case round =>
    obtain ⟨q, e, rfl, her, hes, hb⟩ := hrel
    have HB := Lib.hid hb
    cases e with
    | nil =>
      cases her
      have HC := Lib.hid (stuck_any (HH.out.below hb))
      have HES := Lib.hid (show s.name x env = { s with err := 11 } from hes)
      clear hb hes
      go_wp2_with (go_at_call 20; (with_reducible refine HC.out.mono ?_); rintro e1 w1 ⟨rfl, hp⟩; have HP := Lib.hid hp; clear hp HC)
      go_returns
      rw [HES.out]
      exact ⟨rfl, HP.out.mono (HBM.out _ HB.out).1 (HBM.out _ HB.out).2⟩
    | cons yv e =>
      have HER := Lib.hid her
      cases her with
      | cons y z e b c0 c1 c2 c3 c4 c5 u hcb bl hv hr =>
        obtain ⟨A6, k6, q6, LA6, lk6, e6⟩ := hv.six
        simp only [List.cons.injEq, and_true] at e6
        obtain ⟨rfl, rfl, rfl, rfl, rfl, rfl⟩ := e6
        obtain ⟨q', rfl⟩ := hr.ptr
        obtain ⟨k0, k1, k2, k3, k4, k5, k6', k7⟩ := cells8 ((hb.block b (lt_of_heap hcb)).trans hcb)
        by_cases hxy : y = x
        · subst hxy
          have HC := Lib.hid (tell_any (HH.out.below hb) HN.out z (hv.keep (Tr.below hb)))
          have HES := Lib.hid (show s.name y env = { s with vals := s.vals ++ [z] } by rw [hes]; unfold St.name; rw [if_pos rfl])
          clear hb hes HER hcb bl hv hr
          go_wp2_with (go_at_call 21; (with_reducible refine HC.out.mono ?_); rintro e1 w1 ⟨rfl, hp⟩; have HP := Lib.hid hp; clear hp HC)
          go_returns
          rw [HES.out]
          exact ⟨rfl, HP.out.mono (HBM.out _ HB.out).1 (HBM.out _ HB.out).2⟩
        · have hne : ((bstr y).toList == (bstr x).toList) = false := by rw [bstr_toList, bstr_toList]; simpa using hxy
          have HES := Lib.hid (show s.name x env = s.name x e by rw [hes]; conv => lhs; unfold St.name; rw [if_neg hxy])
          have HR := Lib.hid hr
          have HMU := Lib.hid (show envMu w0 w (Mv mb t r v f) (.pointer q') < envMu w0 w (Mv mb t r v f) (.pointer (some ⟨b, 0, none⟩)) by rw [envMu_eq hr, envMu_eq HER.out, List.length_cons]; omega)
          clear hb hes HER hcb bl hv hr hxy
          go_wp2_with fail
          go_roundw
          case rel => exact ⟨_, e, rfl, HR.out, HES.out, HB.out⟩
          case measure => exact HMU.out
end
end Go.Proofs.YtjmgnohepoacbaaDoor

namespace Go.Proofs.YtjmgnohepoacbaaDoor
open Go.ChangeShapes Go.WideShapes Go.ChangeAt Go.RowKit Go.Sort
set_option linter.unusedVariables false
set_option linter.unusedSimpArgs false

theorem elFrm : ElemTy Tryd.prog 50 56 (.agg #[.pointer none, .pointer none, .int .i64 0]) 3 24 :=
  ⟨Tryd.underlying50, by kernel_rfl, rfl, by omega, by omega⟩
theorem frm_ones (a b : Option Addr) (n : Int) : ∀ u ∈ (#[.pointer a, .pointer b, .int .i64 n] : Array Value).toList, u.oneCell' = true := by
  intro u hu
  simp at hu
  rcases hu with rfl | rfl | rfl <;> rfl
section
variable {w0 w : World} {B mb : Nat} {s : St} {t i r v f nx nm : Value} {rcs vcs fcs : List (List Value)}
theorem Rep.fne (h : Rep w0 B mb s w t i r v f nx nm rcs vcs fcs) : some mb ≠ f.ownBlock := fun e => h.df mb e.symm rfl
/-- The row of frames has grown. -/
theorem Rep.waits (h : Rep w0 B mb s w t i r v f nx nm rcs vcs fcs) (x : Frm) {cs : List Value} (hx : FrR w0 w (Mv mb t r v f) x cs) {w1 w6 : World} {v6 : Value} (hb : Below w.heap.size w w1) (hown : w6.ownsRow B 56 3 v6 (s.frames.length + 1) (fcs.flatten ++ cs)) (hg : w1.grownBy w6 f.ownBlock) (hat : v6.ownBlock = f.ownBlock ∨ v6.ownBlock = some w1.heap.size) :
    (w6.cell? ⟨mb, 8, none⟩ = some f ∧ w6.frozen? ⟨mb, 8, none⟩ = false) ∧ Post w0 B mb (Mv mb t r v f) w { s with frames := s.frames ++ [x] } (w6.setCell ⟨mb, 8, none⟩ v6) := by
  have hm : w6.heap[mb]? = _ := (hg.block mb (Nat.lt_of_lt_of_le h.lt hb.size) h.fne).trans ((hb.block mb h.lt).trans h.hd)
  have hat' : ∀ q, v6.ownBlock = some q → f.ownBlock = some q ∨ w.heap.size ≤ q := fun q hq => by
    rcases hat with k | k
    · exact .inl (k ▸ hq)
    · right
      rw [k] at hq
      injection hq with hq
      have := hb.size
      omega
  have hne : ∀ g, v6.ownBlock = some g → g ≠ mb := fun g hq => by
    rcases hat' g hq with k | k
    · exact h.df g k
    · have := h.lt; omega
  have hk : ∀ b, b < w.heap.size → b ≠ mb → some b ≠ f.ownBlock → (w6.setCell ⟨mb, 8, none⟩ v6).heap[b]? = w.heap[b]? := fun b h1 h2 h3 =>
    (set_other _ _ _ _ h2).trans ((hg.block b (Nat.lt_of_lt_of_le h1 hb.size) h3).trans (hb.block b h1))
  have hT : Tr w (Mv mb t r v f) (w6.setCell ⟨mb, 8, none⟩ v6) (Mv mb t r v v6) := fun b hb hl => by
    refine ⟨⟨hb.1, hb.2.1, hb.2.2.1, hb.2.2.2.1, ?_⟩, hk b hl hb.1 hb.2.2.2.2⟩
    intro e
    rcases hat' b e.symm with q | q
    · exact hb.2.2.2.2 q.symm
    · omega
  refine ⟨⟨(cells11 hm).2.2.2.2.2.2.2.2.1, frozenN hm 8⟩, ?_⟩
  obtain ⟨h1, h2, h3⟩ := h.frames_ (L' := s.frames ++ [x]) (css' := fcs ++ [cs]) (x' := v6) hk ⟨hg.os.trans hb.os, hg.tape.trans hb.tape, hg.output.trans hb.output, by rw [World.size_setCell]; exact Nat.le_trans hb.size hg.size⟩ (set_cells hm 8 v6) (by
    rw [List.length_append, flat_snoc]
    exact own_keep hown (fun g hg _ => set_other _ _ _ _ (hne g hg))) hat' ((h.fl.imp (fun a c => FrR.keep hT)).snoc (hx.keep hT))
  exact ⟨_, _, _, _, _, _, _, _, _, _, h1, h2, h3⟩

set_option maxHeartbeats 4000000 in
theorem wait_any (h : Rep w0 B mb s w t i r v f nx nm rcs vcs fcs) (hn : s.vals.length ≤ 100000000000) (hf : s.frames.length ≤ 100000000000) (e : Ex) (env : Env) (eb eo : Nat) (u : Option Addr) (he : EN w0 w (Mv mb t r v f) e env eb eo (.pointer u)) :
    Calls Tryd.prog 27 #[.pointer (some ⟨mb, 0, none⟩), .pointer (some ⟨eb, eo, none⟩), .pointer u] w fun e1 w' => e1 = .returned (.tuple #[]) ∧ Post w0 B mb (Mv mb t r v f) w { s with frames := s.frames ++ [⟨e, env, s.vals.length⟩] } w' := by
  obtain ⟨A0, k0, rfl, _⟩ := own_cap h.vr
  obtain ⟨A1, k1, rfl, _⟩ := own_cap h.fr
  have hb1 : Below w.heap.size w (w.alloc (.cells #[.pointer (some ⟨eb, eo, none⟩), .pointer u, .int .i64 s.vals.length] 56)) := (Below.refl _ _).alloc (Nat.le_refl _) _
  have hb3 := hb1.drew
  have HRD := Lib.hid (show Rd (w.alloc (.cells #[.pointer (some ⟨eb, eo, none⟩), .pointer u, .int .i64 s.vals.length] 56)).drew 3 (some ⟨w.heap.size, 0, none⟩) 1 (#[.pointer (some ⟨eb, eo, none⟩), .pointer u, .int .i64 s.vals.length] : Array Value).toList from
    (Rd.lit (size := 3) (n := 1) w (#[.pointer (some ⟨eb, eo, none⟩), .pointer u, .int .i64 s.vals.length] : Array Value) 56 rfl (fr := (0, 0))).drew)
  have HOA := Lib.hid (own_below h.fr hb3)
  have HBY := Lib.hid (show (s.frames.length + 1) * 24 ≤ 140737488355328 by omega)
  have HSZ := Lib.hid (show B ≤ (w.alloc (.cells #[.pointer (some ⟨eb, eo, none⟩), .pointer u, .int .i64 s.vals.length] 56)).drew.heap.size by have := h.base.2; have := h.lt; have := hb3.size; omega)
  have hfr : FrR w0 w (Mv mb t r (.slice A0 s.vals.length k0) (.slice A1 s.frames.length k1)) ⟨e, env, s.vals.length⟩ (#[.pointer (some ⟨eb, eo, none⟩), .pointer u, .int .i64 s.vals.length] : Array Value).toList := ⟨eb, eo, _, rfl, he.1, he.2⟩
  have HG := Lib.hid (fun (v6 : Value) (w6 : World) a b c => h.waits ⟨e, env, s.vals.length⟩ hfr (v6 := v6) (w6 := w6) hb3 a b c)
  have m7 := (cells11 h.hd).2.2.2.2.2.2.2.1
  have m8 := (cells11 h.hd).2.2.2.2.2.2.2.2.1
  have n7 := (cells11 ((hb3.block mb h.lt).trans h.hd)).2.2.2.2.2.2.2.1
  have n8 := (cells11 ((hb3.block mb h.lt).trans h.hd)).2.2.2.2.2.2.2.2.1
  clear h hb1 hb3 he hfr hn hf
  go_enter Tryd.func27, Tryd.ntmps27
  go_upto_region 0 with fail
  go_region_law ((refine step_app elFrm ((w.alloc (.cells #[.pointer (some ⟨eb, eo, none⟩), .pointer u, .int .i64 s.vals.length] 56)).drew) (by rfl) (.tmp 10) (.tmp 19) (by rfl) B (.slice A1 s.frames.length k1) s.frames.length _ (by rfl) HOA.out (some ⟨w.heap.size, 0, none⟩) 1 1 _ (by rfl) HRD.out (frm_ones _ _ _) HBY.out HSZ.out ?_; intro v6 w6 hown6 hg6 hat6; obtain ⟨q6, c6, rfl⟩ := own_some hown6; obtain ⟨⟨e8, f8⟩, hp⟩ := HG.out _ _ hown6 hg6 hat6; have HP := Lib.hid hp; clear hown6 hg6 hat6 hp))
  all_goals
    go_wp2_with fail
    go_returns
    with_reducible exact ⟨rfl, HP.out⟩
end
end Go.Proofs.YtjmgnohepoacbaaDoor

namespace Go.Proofs.YtjmgnohepoacbaaDoor
open Go.ChangeShapes Go.WideShapes Go.ChangeAt Go.RowKit Go.Sort
set_option linter.unusedVariables false
set_option linter.unusedSimpArgs false

section
variable {w0 w : World} {B mb : Nat} {s : St} {t i r v f nx nm : Value} {rcs vcs fcs : List (List Value)}
theorem own_cutA {w : World} {base n c : Nat} {A : Option Addr} {e : TypeId} {size : Nat} {xs : List Value} (h : w.ownsRow base e size (.slice A n c) n xs) (m : Nat) (hm : m ≤ n) : w.ownsRow base e size (.slice A m c) m (xs.take (m * size)) := by
  have h0 := h
  rcases h.2 with ⟨q, q2⟩ | ⟨g', cap', cur, hv, _⟩
  · subst q2
    obtain rfl : m = 0 := by omega
    have hx : xs = [] := List.eq_nil_of_length_eq_zero (by rw [h.1, Nat.zero_mul])
    subst hx
    simpa using h
  · injection hv with e1 _ e2
    subst e1
    exact own_cut h m hm
/-- What is left when the last expression that waits has ended. -/
structure Ended (w0 w : World) (B mb : Nat) (s : St) (t i r : Value) (A0 : Option Addr) (k0 q1 k1 : Nat) (nx nm : Value) (rcs vcs fcs : List (List Value)) (fs : List Frm) (x : Frm) (w' : World) : Prop where
  rep : Rep w0 B mb { s with vals := s.vals.take x.base, frames := fs } w' t i r (.slice A0 x.base k0) (.slice (some ⟨q1, 0, none⟩) fs.length k1) nx nm rcs (vcs.take x.base) (fcs.take fs.length)
  kept : ∀ b, b ≠ mb → w'.heap[b]? = w.heap[b]?
  io : w'.os = w.os ∧ w'.tape = w.tape ∧ w'.output = w.output ∧ w'.heap.size = w.heap.size
theorem VR.lens {w0 w : World} {P : Nat → Prop} {l : List Val} {css : List (List Value)} (h : LR (VR w0 w P) l css) : ∀ c ∈ css, c.length = 6 := fun c hc => by
  obtain ⟨j, hj, e⟩ := List.getElem_of_mem hc
  exact (h.at_ j _ c (List.getElem?_eq_getElem (by rw [← h.len]; exact hj)) (by rw [List.getElem?_eq_getElem hj, e])).len
theorem own_len (A : Option Addr) (m n c : Nat) : (Value.slice A m c).ownBlock = (Value.slice A n c).ownBlock := by cases A <;> rfl
theorem Rep.ended {A0 : Option Addr} {k0 q1 k1 : Nat} (fs : List Frm) (x : Frm) (hx : s.frames = fs ++ [x]) (h : Rep w0 B mb s w t i r (.slice A0 s.vals.length k0) (.slice (some ⟨q1, 0, none⟩) (fs.length + 1) k1) nx nm rcs vcs fcs) (hbs : x.base ≤ s.vals.length) (h3 : ∀ c ∈ fcs, c.length = 3) :
    Ended w0 w B mb s t i r A0 k0 q1 k1 nx nm rcs vcs fcs fs x ((w.setCell ⟨mb, 7, none⟩ (.slice A0 x.base k0)).setCell ⟨mb, 8, none⟩ (.slice (some ⟨q1, 0, none⟩) fs.length k1)).drew := by
  have hlen : s.frames.length = fs.length + 1 := by rw [hx, List.length_append]; rfl
  have hk : ∀ b, b ≠ mb → ((w.setCell ⟨mb, 7, none⟩ (.slice A0 x.base k0)).setCell ⟨mb, 8, none⟩ (.slice (some ⟨q1, 0, none⟩) fs.length k1)).drew.heap[b]? = w.heap[b]? := fun b hb =>
    (set_other _ mb 8 _ hb).trans (set_other _ mb 7 _ hb)
  have hT : Tr w (Mv mb t r (.slice A0 s.vals.length k0) (.slice (some ⟨q1, 0, none⟩) (fs.length + 1) k1)) ((w.setCell ⟨mb, 7, none⟩ (.slice A0 x.base k0)).setCell ⟨mb, 8, none⟩ (.slice (some ⟨q1, 0, none⟩) fs.length k1)).drew (Mv mb t r (.slice A0 x.base k0) (.slice (some ⟨q1, 0, none⟩) fs.length k1)) := fun b hb hl => ⟨⟨hb.1, hb.2.1, hb.2.2.1, by rw [own_len A0 x.base s.vals.length]; exact hb.2.2.2.1, hb.2.2.2.2⟩, hk b hb.1⟩
  have hB := h.base.2
  have hfr := h.fr
  rw [hlen] at hfr
  have e1 : s.vals.take x.base = s.vals.take x.base := rfl
  have el : (s.vals.take x.base).length = x.base := by rw [List.length_take]; omega
  have ef : fs = s.frames.take fs.length := by rw [hx]; simp
  obtain ⟨A, c, i1, i2, i3, i4⟩ := h.inp
  refine ⟨⟨set_cells (set_cells h.hd 7 _) 8 _, own_keep h.tr (fun q hq _ => hk q (h.dt q hq).1), ⟨A, c, i1, i2, rd_keepP (P := fun b => b < B) i3 i4 (fun b hb _ => hk b (by omega)), i4⟩, own_keep h.rr (fun q hq _ => hk q (h.dr q hq).1), h.rl.imp (fun a c => VR.keep hT), ?_, (h.vl.imp (fun a c => VR.keep hT)).take _, ?_, ?_, h.nxt.keep hT, h.base, by rw [own_len A0 x.base s.vals.length]; exact h.dt, by rw [own_len A0 x.base s.vals.length]; exact h.dr, by rw [own_len A0 x.base s.vals.length]; exact h.dv, h.df⟩, hk, rfl, rfl, rfl, by rw [World.size_drew, World.size_setCell, World.size_setCell]⟩
  · have := own_keep (own_cutA h.vr x.base hbs) (fun q hq _ => hk q (h.dv q (by rw [← own_len A0 x.base s.vals.length]; exact hq)).1)
    rw [flat_take2 (VR.lens h.vl)] at this
    rw [el]
    exact this
  · have := own_keep (own_cutA hfr fs.length (by omega)) (fun q hq _ => hk q (h.df q hq))
    rw [flat_take2 h3] at this
    exact this
  · have := (h.fl.imp (fun a c => FrR.keep hT)).take fs.length
    rw [← ef] at this
    exact this
set_option maxHeartbeats 4000000 in
theorem end_any {A0 : Option Addr} {k0 : Nat} (h : Rep w0 B mb s w t i r (.slice A0 s.vals.length k0) f nx nm rcs vcs fcs) (fs : List Frm) (x : Frm) (hx : s.frames = fs ++ [x]) (hl : s.frames.length ≤ 100000000000) (hbs : x.base ≤ s.vals.length) (hn : s.vals.length ≤ 100000000000) :
    Calls Tryd.prog 28 #[.pointer (some ⟨mb, 0, none⟩)] w fun e w' => e = .returned (.tuple #[]) ∧ ∃ q1 k1, f = .slice (some ⟨q1, 0, none⟩) (fs.length + 1) k1 ∧ Ended w0 w B mb s t i r A0 k0 q1 k1 nx nm rcs vcs fcs fs x w' := by
  obtain ⟨q1, k1, rfl⟩ := own_some (n := fs.length) (by have := h.fr; rw [hx, List.length_append] at this; exact this)
  have hlen : s.frames.length = fs.length + 1 := by rw [hx, List.length_append]; rfl
  have hfl : fcs.length = fs.length + 1 := h.fl.len.trans hlen
  obtain ⟨cs, hcs, eb, eo, u, hce, _, _⟩ := h.fl.get (i := fs.length) (by omega)
  have hxx : s.frames[fs.length]'(by omega) = x := by simp [hx]
  rw [hxx] at hce
  have h3 : ∀ c ∈ fcs, c.length = 3 := fun c hc => by
    obtain ⟨j, hj, e⟩ := List.getElem_of_mem hc
    obtain ⟨_, _, _, e2, _⟩ := h.fl.at_ j _ c (List.getElem?_eq_getElem (by rw [← h.fl.len]; exact hj)) (by rw [List.getElem?_eq_getElem hj, e])
    rw [e2]; rfl
  have c2 : w.cell? ⟨q1, fs.length * 3 + 2, none⟩ = some (.int .i64 x.base) := by
    have hf := h.fr
    rw [hlen] at hf
    exact (own_cell hf (flat_at2 h3 hcs (j := 2) (by rw [hce]; rfl))).1
  have m7 := (cells11 h.hd).2.2.2.2.2.2.2.1
  have m8 := (cells11 h.hd).2.2.2.2.2.2.2.2.1
  have z7 := frozenN h.hd 7
  have z8 := frozenN h.hd 8
  have n0 : (x.base : Int) ≤ (s.vals.length : Int) := by omega
  have n1 : (0 : Int) ≤ (x.base : Int) := by omega
  have n2 : (fs.length : Int) ≤ 100000000000 := by omega
  have n3 : (0 : Int) ≤ (fs.length : Int) := by omega
  have n4 : (s.vals.length : Int) ≤ 100000000000 := by omega
  have n5 : (fs.length : Int) < (fs.length : Int) + 1 := by omega
  obtain ⟨_, _, eC, hc1, hc2, hc3⟩ := own_cap h.vr
  cases eC
  obtain ⟨_, _, eD, hd1, hd2, _⟩ := own_cap (show w.ownsRow B 56 3 (.slice (some ⟨q1, 0, none⟩) (fs.length + 1) k1) (fs.length + 1) fcs.flatten from hlen ▸ h.fr)
  cases eD
  have n6 : (x.base : Int) ≤ (k0 : Int) := by omega
  have n7 : (fs.length : Int) ≤ (k1 : Int) := by omega
  have n8 : x.base ≤ k0 := by omega
  have n9 : fs.length ≤ k1 := by omega
  have HE := Lib.hid (h.ended fs x hx hbs h3)
  clear h hl hbs hn
  go_enter Tryd.func28, Tryd.ntmps28
  go_wp2_with fail
  go_region_law fail
  all_goals go_wp2_with fail
  all_goals
    go_returns
    with_reducible exact ⟨rfl, _, _, rfl, HE.out⟩
end
end Go.Proofs.YtjmgnohepoacbaaDoor

namespace Go.Proofs.YtjmgnohepoacbaaDoor
open Go.ChangeShapes Go.WideShapes Go.ChangeAt Go.RowKit Go.Sort
set_option linter.unusedVariables false
set_option linter.unusedSimpArgs false

def St.tell (s : St) (z : Val) (fault : Int) (is : Bool) : St := if is = true then (if fault = 0 then { s with vals := s.vals ++ [z] } else { s with err := 9, fault := fault }) else { s with err := 11 }
section
variable {w0 w : World} {B mb : Nat} {s : St} {t i r v f nx nm : Value} {rcs vcs fcs : List (List Value)}
theorem Rep.fault2 (h : Rep w0 B mb s w t i r v f nx nm rcs vcs fcs) (n : Int) : Post w0 B mb (Mv mb t r v f) w { s with err := 9, fault := n } ((w.setCell ⟨mb, 0, none⟩ (.int .i64 9)).setCell ⟨mb, 1, none⟩ (.int .i64 n)) := by
  have hk : ∀ b, b ≠ mb → (((w.setCell ⟨mb, 0, none⟩ (.int .i64 9)).setCell ⟨mb, 1, none⟩ (.int .i64 n))).heap[b]? = w.heap[b]? := fun b hb => (set_other _ mb 1 _ hb).trans (set_other _ mb 0 _ hb)
  obtain ⟨h1, h2, h3⟩ := h.head (s' := { s with err := 9, fault := n }) (wz := ((w.setCell ⟨mb, 0, none⟩ (.int .i64 9)).setCell ⟨mb, 1, none⟩ (.int .i64 n))) hk ⟨rfl, rfl, rfl, by rw [World.size_setCell, World.size_setCell]⟩ (set_cells (set_cells h.hd 0 _) 1 _) ⟨rfl, rfl, rfl, rfl⟩ h.inp h.nxt
  exact ⟨_, _, _, _, _, _, _, _, _, _, h1, h2, h3⟩
set_option maxHeartbeats 4000000 in
theorem tellF_any (h : Rep w0 B mb s w t i r v f nx nm rcs vcs fcs) (hn : s.vals.length ≤ 100000000000) (z : Val) (A : Option Addr) (c : Nat) (p : Option Addr) (LA : Option Addr) (lc : Nat) (n : Int) (is : Bool) (hz : is = true → n = 0 → VR w0 w (Mv mb t r v f) z [.int .i64 z.sort, .int .i64 z.n, .string (bstr z.s), .slice LA z.labels.length lc, .slice A z.l.length c, .pointer p]) :
    Calls Tryd.prog 35 #[.pointer (some ⟨mb, 0, none⟩), .agg #[.int .i64 z.sort, .int .i64 z.n, .string (bstr z.s), .slice LA z.labels.length lc, .slice A z.l.length c, .pointer p], .int .i64 n, .bool is] w fun e w' => e = .returned (.tuple #[]) ∧ Post w0 B mb (Mv mb t r v f) w (s.tell z n is) w' := by
  have hb : Below w.heap.size w (w.alloc (.cells #[.int .i64 z.sort, .int .i64 z.n, .string (bstr z.s), .slice LA z.labels.length lc, .slice A z.l.length c, .pointer p] 45)) := (Below.refl _ _).alloc (Nat.le_refl _) _
  have HC0 := Lib.hid (stuck_any (h.below hb))
  have HF := Lib.hid ((h.below hb).fault2 n)
  have c0 := (cells11 (h.below hb).hd).1
  have c1 := (cells11 (h.below hb).hd).2.1
  have z0 := frozenN (h.below hb).hd 0
  have z1 := frozenN (h.below hb).hd 1
  have HT := Lib.hid (And.intro (Tr.below (P := Mv mb t r v f) hb) (hb.mono (Nat.le_of_lt (Nat.lt_of_le_of_lt h.base.2 h.lt))))
  obtain ⟨a0, a1, a2, a3, a4, a5⟩ := cells6 (heap_new (w := w) (o := .cells #[.int .i64 z.sort, .int .i64 z.n, .string (bstr z.s), .slice LA z.labels.length lc, .slice A z.l.length c, .pointer p] 45) rfl)
  cases is with
  | false =>
    have e : s.tell z n false = { s with err := 11 } := by unfold St.tell; rw [if_neg (by decide)]
    rw [e]
    clear e h hb hz c0 c1 z0 z1
    go_enter Tryd.func35, Tryd.ntmps35
    go_wp2_with (go_at_call 20; (with_reducible refine HC0.out.mono ?_); rintro e1 w1 ⟨rfl, hp⟩; have HP := Lib.hid hp; clear hp HC0)
    go_returns
    exact ⟨rfl, HP.out.mono HT.out.1 HT.out.2⟩
  | true =>
    by_cases hn0 : n = 0
    · subst hn0
      have e : s.tell z 0 true = { s with vals := s.vals ++ [z] } := by unfold St.tell; rw [if_pos rfl, if_pos rfl]
      rw [e]
      have HC := Lib.hid (tell_any (h.below hb) hn z ((hz rfl rfl).keep (Tr.below hb)))
      clear e h hb hz c0 c1 z0 z1
      go_enter Tryd.func35, Tryd.ntmps35
      go_wp2_with (go_at_call 21; (with_reducible refine HC.out.mono ?_); rintro e1 w1 ⟨rfl, hp⟩; have HP := Lib.hid hp; clear hp HC)
      go_returns
      exact ⟨rfl, HP.out.mono HT.out.1 HT.out.2⟩
    · have e : s.tell z n true = { s with err := 9, fault := n } := by unfold St.tell; rw [if_pos rfl, if_neg hn0]
      rw [e]
      clear e h hb hz
      go_enter Tryd.func35, Tryd.ntmps35
      go_wp2_with fail
      go_returns
      with_reducible exact ⟨rfl, HF.out.mono HT.out.1 HT.out.2⟩
end
end Go.Proofs.YtjmgnohepoacbaaDoor
