/-
  Small lemmas on worlds that every text of this seat uses. Plain, about no program.
  What a slice holds: 'Rd w size A n cs': the slice with address A and length n holds the cells cs (size cells an element); and how that lasts.
  Strings and lists of strings: how they lie, and how two are held against each other. About no program.
  Core expressions as they lie in memory: their own fields, their parts.
  What core expressions bind, and what is free in them; how many nodes they have. About no program.
  The document's small answers: how many nodes, whether texts are alike.
  Values of the machine, about no memory; how they lie in memory.
  The machine's state, and how it lies in memory.
  The machine's own small steps.
  The machine: what is begun next, names that are bound, functions.
-/
import Derived.Test.YtpdfjdomjklkbaaGreatDoorRows
import Derived.WalkKit
import Derived.ProofKit
import Derived.OpenShut
import Derived.Handy
import Derived.Lib.Hide
import Derived.Deep.QuietTactic
import Derived.Deep.Draws
import Derived.BigQuiet
import Derived.Maps.AppendAt
import Derived.Deep.AppendLies
import Derived.Laws.Cover1
import Derived.Sort.OwnSorted
import Derived.Lib.QuietBelow
import Derived.Lib.Builder
namespace Go.Proofs.YtpdfjdomjklkbaaGreatDoor
open Go.ChangeShapes Go.WideShapes Go.ChangeAt Go.RowKit
set_option linter.unusedVariables false

theorem below_drewN {B : Nat} {a w : World} (h : Below B a w) (n : Nat) : Below B a (w.drewN n) := ⟨h.os, h.tape, h.output, h.size, h.block⟩
/-- What turned nothing that was there, and then again. -/
theorem below_then {a b c : World} (h : Below a.heap.size a b) (k : Below b.heap.size b c) : Below a.heap.size a c := h.trans (k.mono h.size)
theorem below_cells {W w1 : World} (hb : Below W.heap.size W w1) : (∀ b o, b < W.heap.size → w1.cell? ⟨b, o, none⟩ = W.cell? ⟨b, o, none⟩) ∧ (∀ b o, b < W.heap.size → w1.frozen? ⟨b, o, none⟩ = W.frozen? ⟨b, o, none⟩) :=
  ⟨fun b o h => hb.cell (p := ⟨b, o, none⟩) h, fun b o h => hb.frozen (p := ⟨b, o, none⟩) h⟩
theorem ret_eq {u v : Value} (h : u = v) : Ending.returned u = .returned v := by rw [h]
theorem cell_below {w w' : World} {p : Addr} {v : Value} (hb : Below w.heap.size w w') (h : w.cell? p = some v) : w'.cell? p = some v := (hb.cell (World.block_lt_of_cell? w p h)).trans h
theorem cell_alloc {w : World} {p : Addr} {v : Value} {o : Obj} (h : w.cell? p = some v) : (w.alloc o).cell? p = some v := by rw [World.cell?_alloc_lt w o p (World.block_lt_of_cell? w p h)]; exact h
theorem cell_new (w : World) (C : Array Value) (t : TypeId) (j : Nat) {v : Value} (h : C[j]? = some v) {fr : Nat × Nat} : (w.alloc (.cells C t fr)).cell? ⟨w.heap.size, j, none⟩ = some v := by rw [World.cell?_alloc_mark]; exact h

end Go.Proofs.YtpdfjdomjklkbaaGreatDoor

namespace Go.Proofs.YtpdfjdomjklkbaaGreatDoor
open Go.ChangeShapes Go.WideShapes Go.ChangeAt Go.RowKit
set_option linter.unusedVariables false

@[go_sem] theorem add_block (a : Addr) (n : Nat) : (a.add n).block = a.block := by unfold Addr.add; split <;> rfl
theorem add_add (a : Addr) (i j : Nat) : (a.add i).add j = a.add (i + j) := by
  unfold Addr.add
  by_cases hi : i = 0
  · subst hi; simp
  · by_cases hj : j = 0
    · subst hj; simp [hi]
    · simp [hi, hj, Nat.add_assoc]
theorem add_zero (a : Addr) : a.add 0 = a := by simp [Addr.add]

/-- The cells from an address on. -/
def Held (w : World) (a : Addr) (cs : List Value) : Prop := ∀ j u, cs[j]? = some u → w.cell? (a.add j) = some u

/-- What a slice holds. -/
def Rd (w : World) (size : Nat) (A : Option Addr) (n : Nat) (cs : List Value) : Prop :=
  cs.length = n * size ∧ (0 < cs.length → ∃ a, A = some a ∧ Held w a cs)

section
variable {w w' : World} {size n : Nat} {A : Option Addr} {cs : List Value}
theorem Held.block {a : Addr} (h : Held w a cs) (h0 : 0 < cs.length) : a.block < w.heap.size := by
  have h1 := h 0 cs[0] (List.getElem?_eq_getElem h0)
  rw [add_zero] at h1
  exact World.block_lt_of_cell? w a h1
theorem Held.keep {a : Addr} (h : Held w a cs) (h0 : 0 < cs.length) (hk : ∀ p : Addr, p.block < w.heap.size → w'.cell? p = w.cell? p) : Held w' a cs :=
  fun j u hu => (hk _ (by rw [add_block]; exact h.block h0)).trans (h j u hu)
theorem Rd.nil (w : World) (size : Nat) (A : Option Addr) : Rd w size A 0 [] := ⟨by simp, fun h => absurd h (by simp)⟩
theorem Rd.len (h : Rd w size A n cs) : cs.length = n * size := h.1
theorem Rd.keep (h : Rd w size A n cs) (hk : ∀ p : Addr, p.block < w.heap.size → w'.cell? p = w.cell? p) : Rd w' size A n cs :=
  ⟨h.1, fun hn => let ⟨a, e, hc⟩ := h.2 hn; ⟨a, e, hc.keep hn hk⟩⟩
theorem Rd.below (h : Rd w size A n cs) (hb : Below w.heap.size w w') : Rd w' size A n cs := h.keep fun _ hp => hb.cell hp
theorem Rd.drewN (h : Rd w size A n cs) (k : Nat) : Rd (w.drewN k) size A n cs := h
theorem Rd.drew (h : Rd w size A n cs) : Rd w.drew size A n cs := h
theorem Rd.alloc (h : Rd w size A n cs) (o : Obj) : Rd (w.alloc o) size A n cs := h.keep fun p hp => World.cell?_alloc_lt w o p (by omega)
theorem Rd.at_ (h : Rd w size A n cs) {k : Nat} (hk : k < cs.length) : ∃ a u, A = some a ∧ cs[k]? = some u ∧ w.cell? (a.add k) = some u := by
  obtain ⟨a, e, hc⟩ := h.2 (by omega)
  exact ⟨a, cs[k], e, List.getElem?_eq_getElem hk, hc k _ (List.getElem?_eq_getElem hk)⟩
theorem Rd.addr (h : Rd w size A n cs) (h0 : 0 < cs.length) : ∃ a, A = some a ∧ a.block < w.heap.size ∧ Held w a cs := by
  obtain ⟨a, e, hc⟩ := h.2 h0
  exact ⟨a, e, hc.block h0, hc⟩
theorem Rd.of_own {base : Nat} {e : TypeId} {c : Nat} (h : w.ownsRow base e size (.slice A n c) n cs) : Rd w size A n cs := by
  refine ⟨h.1, fun hn => ?_⟩
  rcases h.2 with ⟨hv, h0⟩ | ⟨g, cap, cur, hv, hb, hg, hnc, hcm, hcs, ht⟩
  · have := h.1; rw [h0] at this; omega
  · have hA : A = some ⟨g, 0, none⟩ := by injection hv
    subst hA
    exact ⟨_, rfl, h.cells (g := g) rfl⟩
end
/-- What the walk wants to know of a slice's type: t is the slice's number, e its element's, z the element's zero. -/
structure ElemTy (P : Program) (t e : TypeId) (z : Value) (size bytes : Nat) : Prop where
  under : P.underlying t = some (.slice e)
  info : (P.info? e).map (fun i => (i.zero, i.size, i.bytes)) = some (some z, size, bytes)
  zs : z.cells.size = size
  pos : 0 < size
  posb : 0 < bytes

/-- A literal's row, just made. -/
theorem Rd.lit (w : World) (cs : Array Value) (e : TypeId) {size n : Nat} (h : cs.size = n * size) {fr : Nat × Nat} : Rd (w.alloc (.cells cs e fr)) size (some ⟨w.heap.size, 0, none⟩) n cs.toList := by
  refine ⟨by simpa using h, fun _ => ⟨_, rfl, fun j u hu => ?_⟩⟩
  rw [Addr.add_lit, Nat.zero_add]
  rw [World.cell?_alloc_mark]
  simpa using hu

theorem own_below {base : Nat} {e : TypeId} {size n : Nat} {v : Value} {xs : List Value} {w w' : World} (h : w.ownsRow base e size v n xs) (hb : Below w.heap.size w w') : w'.ownsRow base e size v n xs := by
  refine ⟨h.1, ?_⟩
  rcases h.2 with hn | ⟨g, cap, cur, rfl, hb', hgg, rest⟩
  · exact .inl hn
  · exact .inr ⟨g, cap, cur, rfl, hb', (hb.block g (Array.getElem?_eq_some_iff.1 hgg).1).trans hgg, rest⟩

theorem own_cap {base : Nat} {e : TypeId} {size n : Nat} {v : Value} {xs : List Value} {w : World} (h : w.ownsRow base e size v n xs) : ∃ A c, v = .slice A n c ∧ n ≤ c ∧ c ≤ maxLen ∧ (A = none → c = 0) := by
  rcases h.2 with ⟨rfl, rfl⟩ | ⟨g, cap, cur, rfl, hb', hgg, h1, h2, _⟩
  · exact ⟨none, 0, rfl, Nat.le_refl _, by simp [maxLen], fun _ => rfl⟩
  · exact ⟨_, cap, rfl, h1, h2, fun h => by cases h⟩

/-- 'append' onto a row of the call's own, of a slice that is nil, empty, or not. -/
theorem run_app {P : Program} {t e : TypeId} {z : Value} {size bytes : Nat} (T : ElemTy P t e z size bytes) (w : World) (ty : TypeId) (base : Nat)
    (v : Value) (n : Nat) (xs : List Value) (hown : w.ownsRow base e size v n xs) (A : Option Addr) (m c : Nat) (news : List Value) (hr : Rd w size A m news) (h1 : ∀ u ∈ news, u.oneCell' = true)
    (hbytes : (n + m) * bytes ≤ 140737488355328) (hbase : base ≤ w.heap.size) :
    ∃ v' w', (Builtin.append_ #[t, t] ty #[v, .slice A m c]).run P w = .ok v' w' ∧ w'.ownsRow base e size v' (n + m) (xs ++ news) ∧ w.grownBy w' v.ownBlock ∧ (v'.ownBlock = v.ownBlock ∨ v'.ownBlock = some w.heap.size) := by
  obtain ⟨i, hi, hz, hs, hb⟩ := info_parts T.info
  have h63 : n + m ≤ maxLen := by
    have := Nat.le_mul_of_pos_right (n + m) T.posb
    simp only [maxLen]; omega
  rcases Nat.eq_zero_or_pos m with h0 | h0
  · subst h0
    have hn : news = [] := List.eq_nil_of_length_eq_zero (by have := hr.1; omega)
    subst hn
    have hrun : (Builtin.append_ #[t, t] ty #[v, .slice A 0 c]).run P w = .ok v w := by
      rcases hown.2 with ⟨rfl, rfl⟩ | ⟨g, cap, cur, rfl, _, _, hnc, _⟩
      · cases A with
        | none => simp [Builtin.append_, run_underlying T.under, sizeOf, typeInfo, hi, Builtin.lenOf, Builtin.firstCells]
        | some a => simp [Builtin.append_, run_underlying T.under, sizeOf, typeInfo, hi, Builtin.lenOf, Builtin.firstCells, loadCells, loadCellsFrom]
      · cases A with
        | none => simp [Builtin.append_, run_underlying T.under, sizeOf, typeInfo, hi, Builtin.lenOf, Builtin.firstCells, hnc, storeCells]
        | some a => simp [Builtin.append_, run_underlying T.under, sizeOf, typeInfo, hi, Builtin.lenOf, Builtin.firstCells, hnc, storeCells, loadCells, loadCellsFrom]
    exact ⟨v, w, hrun, by simpa using hown, World.grownBy.refl w _, .inl rfl⟩
  · have hl : 0 < news.length := by rw [hr.1]; exact Nat.mul_pos h0 T.pos
    obtain ⟨a, rfl, hh⟩ := hr.2 hl
    obtain ⟨v', w', h2, h3, h4, _, h5⟩ := run_append_own_at (P := P) w base t ty e i z size bytes T.under hi hz hs hb T.zs T.pos v n xs hown a m c news hr.1 hh h1 h63 hbytes hbase
    exact ⟨v', w', h2, h3, h4, h5⟩

theorem wpList_app {P : Program} {t e : TypeId} {z : Value} {size bytes : Nat} (T : ElemTy P t e z size bytes) (w : World) {ops : Array Oper} {rest : List Oper} {o : Oper} {a : Act} {Q : Exit → Act → World → Prop} (hgd : o.guard = none) (s x : Operand)
    (ho : o.op = .call { callee := .builtin .append, args := #[s, x], argTypes := #[t, t] }) (base : Nat)
    (v : Value) (n : Nat) (xs : List Value) (hs : a.eval s = v) (hown : w.ownsRow base e size v n xs) (A : Option Addr) (m c : Nat) (news : List Value) (hx : a.eval x = .slice A m c) (hr : Rd w size A m news) (h1 : ∀ u ∈ news, u.oneCell' = true)
    (hbytes : (n + m) * bytes ≤ 140737488355328) (hbase : base ≤ w.heap.size)
    (h : ∀ v' w', w'.ownsRow base e size v' (n + m) (xs ++ news) → Below base w w' → w.grownBy w' v.ownBlock → (v'.ownBlock = v.ownBlock ∨ v'.ownBlock = some w.heap.size) → wpList P ops Q rest (a.put o.dst v') w') : wpList P ops Q (o :: rest) a w :=
  wpList_plain hgd fun _ hK => by
    obtain ⟨v', w', hrun, h2, h3, h4⟩ := run_app T w o.type base v n xs hown A m c news hr h1 hbytes hbase
    unfold Oper.wp execOp
    simp only [ho, resolve, invoke, builtin, Sem.run_bind, Sem.run_pure, Result.andThen_ok, List.map_toArray, List.map_cons, List.map_nil, hs, hx, hrun]
    exact hK _ _ (h v' w' h2 ((Below.refl _ _).grown h3 hbase (fun k hk => (hown.lt k hk).1)) h3 h4)
/-- n zeros, as cells. -/
def zeros (z : Value) : Nat → List Value
  | 0 => []
  | n + 1 => z.cells.toList ++ zeros z n
theorem zeros_length (z : Value) : ∀ n, (zeros z n).length = n * z.cells.size
  | 0 => by simp [zeros]
  | n + 1 => by simp only [zeros, List.length_append, zeros_length z n, Nat.add_mul]; simp; omega
theorem zeros_at (z : Value) : ∀ (n j : Nat), j < n * z.cells.size → (zeros z n)[j]? = z.cells[j % z.cells.size]?
  | 0, j, h => by omega
  | n + 1, j, h => by
    rw [Nat.add_mul] at h
    simp only [zeros, List.getElem?_append]
    by_cases hj : j < z.cells.size
    · rw [if_pos (by simpa using hj), Nat.mod_eq_of_lt hj]; simp
    · rw [if_neg (by simpa using hj)]
      have hlen : z.cells.toList.length = z.cells.size := by simp
      rw [hlen, zeros_at z n (j - z.cells.size) (by omega)]
      congr 1
      rw [Nat.mod_eq_sub_mod (by omega : j ≥ z.cells.size)]
theorem madeCells_zeros (z : Value) (n : Nat) (h : 0 < z.cells.size) : (madeCells z.cells (n * z.cells.size)).toList = zeros z n := by
  apply List.ext_getElem?
  intro j
  by_cases hj : j < n * z.cells.size
  · rw [zeros_at z n j hj]
    have hm : j % z.cells.size < z.cells.size := Nat.mod_lt _ h
    simp [madeCells, hj, hm]
  · rw [List.getElem?_eq_none (by simpa [madeCells] using hj), List.getElem?_eq_none (by rw [zeros_length]; omega)]

theorem below_of_grown {w w' : World} {row : Option Nat} {B : Nat} (hg : w.grownBy w' row) (hB : B ≤ w.heap.size) (hr : ∀ k, row = some k → B ≤ k) : Below B w w' :=
  (Below.refl B w).grown hg hB hr

/-- 'make([]T, n, m)', n and m variables. -/
theorem wpList_mk {P : Program} {t e : TypeId} {z : Value} {size bytes : Nat} (T : ElemTy P t e z size bytes) (w : World) {ops : Array Oper} {rest : List Oper} {o : Oper} {a : Act} {Q : Exit → Act → World → Prop} (hgd : o.guard = none) (l c : Operand)
    (hop : o.op = Op.makeSlice t l c) (base : Nat) (kl kc : IntKind) (L C : Int) (n m : Nat) (hl : a.eval l = .int kl L) (hc : a.eval c = .int kc C) (hL : L = (n : Int)) (hC : C = (m : Int)) (hnm : n ≤ m) (hbytes : bytes * m ≤ 281474976710656) (hbase : base ≤ w.heap.size)
    (hK : ∀ w', w'.ownsRow base e size (.slice (some ⟨w.heap.size, 0, none⟩) n m) n (zeros z n) → Below w.heap.size w w' → w.heap.size < w'.heap.size → wpList P ops Q rest (a.put o.dst (.slice (some ⟨w.heap.size, 0, none⟩) n m)) w') :
    wpList P ops Q (o :: rest) a w := by
  obtain ⟨i, hi, hz, hs, hb⟩ := info_parts T.info
  have hpos := T.pos
  have hposb := T.posb
  have hzs := T.zs
  have hmm : m ≤ 281474976710656 := Nat.le_trans (by have := Nat.le_mul_of_pos_left m hposb; omega) hbytes
  have hbb : (bytes : Int) * (m : Int) ≤ 281474976710656 := by
    have h : ((bytes * m : Nat) : Int) ≤ 281474976710656 := by omega
    rwa [Int.natCast_mul] at h
  refine wpList_plain hgd fun K hK' => ?_
  subst hL
  subst hC
  have hrun := run_make (P := P) w t e i z T.under hi hz kl kc (n : Int) (m : Int) (by omega) (by omega) (by rw [hb]; exact hbb) (by omega)
  rw [hs] at hrun
  simp only [Int.toNat_natCast] at hrun
  unfold Oper.wp
  simp [execOp, hop, hl, hc, hrun, Result.andThen]
  refine hK' _ _ (hK _ ⟨by rw [zeros_length, hzs], .inr ⟨w.heap.size, m, _, rfl, hbase, heap_alloc_new w _, hnm, by simp only [maxLen]; omega, size_madeCells _ _, ?_⟩⟩ ((Below.refl _ _).alloc (Nat.le_refl _) _) (by simp))
  have e1 := madeCells_zeros z m (by omega)
  rw [hzs] at e1
  rw [e1]
  obtain ⟨d, rfl⟩ : ∃ d, m = n + d := ⟨m - n, by omega⟩
  clear hrun e1 hbytes hnm hmm hK hl hc hbb
  induction n with
  | zero => simp [zeros]
  | succ n ih =>
    rw [show n + 1 + d = (n + d) + 1 from by omega]
    simp only [zeros, Nat.add_mul]
    rw [show n * size + 1 * size = z.cells.toList.length + n * size from by simp [hzs]; omega, List.take_length_add_append, ih]

/-- A part of a slice. -/
theorem Rd.cut {w : World} {size n : Nat} {A : Option Addr} {cs : List Value} (h : Rd w size A n cs) {lo hi k : Nat} (h1 : lo ≤ hi) (h2 : hi ≤ n) (hk : k = lo * size) : Rd w size (A.map (fun x => x.add k)) (hi - lo) ((cs.drop (lo * size)).take ((hi - lo) * size)) := by
  subst hk
  have e1 : (hi - lo) * size ≤ n * size - lo * size := by rw [← Nat.sub_mul]; exact Nat.mul_le_mul_right _ (by omega)
  refine ⟨by rw [List.length_take, List.length_drop, h.1]; omega, fun h0 => ?_⟩
  obtain ⟨a, rfl, hh⟩ := h.2 (by rw [List.length_take, List.length_drop] at h0; omega)
  refine ⟨_, rfl, fun j u hu => ?_⟩
  rw [add_add]
  refine hh _ u ?_
  rw [List.getElem?_take] at hu
  split at hu
  · rwa [List.getElem?_drop] at hu
  · cases hu
/-- 's[lo:]', as the model has it. -/
theorem Rd.from_ {w : World} {size n c : Nat} {A : Option Addr} {cs : List Value} (h : Rd w size A n cs) {lo k : Nat} (h1 : lo ≤ n) (hc : n ≤ c) (hk : k = lo * size) : Rd w size (if c = lo then A else A.map (fun x => x.add k)) (n - lo) (cs.drop (lo * size)) := by
  have h2 := h.cut (lo := lo) (hi := n) h1 (Nat.le_refl _) hk
  have e : (cs.drop (lo * size)).take ((n - lo) * size) = cs.drop (lo * size) := by
    apply List.take_of_length_le
    rw [List.length_drop, h.1, Nat.sub_mul]; exact Nat.le_refl _
  rw [e] at h2
  split
  · obtain rfl : n = lo := by omega
    refine ⟨h2.1, fun h0 => ?_⟩
    have := h2.1
    simp only [Nat.sub_self, Nat.zero_mul] at this
    omega
  · exact h2
/-- A slice that holds something: its address written out. -/
theorem Rd.base {w : World} {size n : Nat} {A : Option Addr} {cs : List Value} (h : Rd w size A n cs) (h0 : 0 < cs.length) : ∃ b o, A = some ⟨b, o, none⟩ ∧ b < w.heap.size ∧ ∀ j u, cs[j]? = some u → w.cell? ⟨b, o + j, none⟩ = some u := by
  obtain ⟨⟨b, o, s⟩, rfl, hb, hh⟩ := h.addr h0
  have h1 := hh 0 cs[0] (List.getElem?_eq_getElem h0)
  rw [add_zero] at h1
  have hs : s = none := by simpa using World.cell?_spot h1
  subst hs
  refine ⟨b, o, rfl, hb, fun j u hu => ?_⟩
  have := hh j u hu
  rwa [Addr.add_lit] at this
end Go.Proofs.YtpdfjdomjklkbaaGreatDoor

namespace Go.Proofs.YtpdfjdomjklkbaaGreatDoor
open Go.RowKit
set_option linter.unusedVariables false

abbrev Str := List UInt8
def bstr (l : Str) : ByteArray := ⟨l.toArray⟩
theorem bstr_toList (l : Str) : (bstr l).toList = l := by rw [ByteArray.toList_eq]; simp [bstr]
theorem bstr_data (l : Str) : (bstr l).data.toList = l := by simp [bstr]
theorem bstr_size (l : Str) : (bstr l).size = l.length := by simp [bstr, ByteArray.size]
theorem bstr_inj {a b : Str} (h : bstr a = bstr b) : a = b := by have := congrArg ByteArray.toList h; rwa [bstr_toList, bstr_toList] at this
theorem bstr_of (s : ByteArray) : bstr s.data.toList = s := by simp [bstr]

/-- The cells of a list of strings. -/
def strs (l : List Str) : List Value := l.map fun s => .string (bstr s)
theorem strs_length (l : List Str) : (strs l).length = l.length := by simp [strs]
theorem strs_append (a b : List Str) : strs (a ++ b) = strs a ++ strs b := by simp [strs]
theorem strs_one (l : List Str) : ∀ u ∈ strs l, u.oneCell' = true := by
  intro u hu; obtain ⟨_, _, rfl⟩ := List.mem_map.1 hu; rfl
theorem strs_at (l : List Str) (k : Nat) (h : k < l.length) : (strs l)[k]? = some (.string (bstr l[k])) := by simp [strs, h]
theorem strs_cut (l : List Str) (lo n : Nat) : ((strs l).drop (lo * 1)).take (n * 1) = strs ((l.drop lo).take n) := by simp [strs, List.map_take, List.map_drop]
theorem strs_drop (l : List Str) (lo : Nat) : (strs l).drop (lo * 1) = strs (l.drop lo) := by simp [strs, List.map_drop]
theorem strs_take (l : List Str) (n : Nat) : (strs l).take (n * 1) = strs (l.take n) := by simp [strs, List.map_take]

/-- The first string's bytes come before the second's. -/
def slt (a b : Str) : Bool := Op.bytesLess a b
theorem bytesLess_bstr (a b : Str) : Op.bytesLess (bstr a).toList (bstr b).toList = slt a b := by rw [bstr_toList, bstr_toList]; rfl
theorem beq_bstr (a b : Str) : ((bstr a).toList == (bstr b).toList) = decide (a = b) := by
  rw [bstr_toList, bstr_toList, Bool.eq_iff_iff, beq_iff_eq, decide_eq_true_eq]

theorem slt_eq : ∀ a b : Str, slt a b = decide (a < b)
  | [], [] => by simp [slt, Op.bytesLess]
  | _ :: _, [] => by simp [slt, Op.bytesLess]
  | [], _ :: _ => by simp [slt, Op.bytesLess]
  | x :: a, y :: b => by
    have ih := slt_eq a b
    unfold slt at ih ⊢
    rw [Op.bytesLess, ih, Bool.eq_iff_iff]
    simp [List.cons_lt_cons_iff]

theorem slt_irrefl (a : Str) : slt a a = false := by rw [slt_eq, decide_eq_false_iff_not]; exact List.lt_irrefl a
theorem slt_trans {a b c : Str} (h : slt a b = true) (k : slt b c = true) : slt a c = true := by
  rw [slt_eq, decide_eq_true_eq] at *; exact List.lt_trans h k
theorem slt_tri {a b : Str} (h : slt a b = false) (k : slt b a = false) : a = b := by
  rw [slt_eq, decide_eq_false_iff_not] at *
  exact List.le_antisymm (List.not_lt.1 k) (List.not_lt.1 h)
theorem slt_asymm {a b : Str} (h : slt a b = true) : slt b a = false := by
  cases k : slt b a with
  | false => rfl
  | true => have := slt_trans h k; rw [slt_irrefl] at this; cases this
theorem slt_ne {a b : Str} (h : slt a b = true) : a ≠ b := by rintro rfl; rw [slt_irrefl] at h; cases h
end Go.Proofs.YtpdfjdomjklkbaaGreatDoor

namespace Go.Proofs.YtpdfjdomjklkbaaGreatDoor
open Go.ChangeShapes Go.WideShapes Go.ChangeAt Go.RowKit
set_option linter.unusedVariables false
set_option linter.unusedSimpArgs false

/-- An expression's own fields, and where its lists lie. -/
structure ExD where
  kind : Int
  n : Int
  s : Str
  t : Str
  nA : Option Addr
  nn : Nat
  nc : Nat
  names : List Str
  pA : Option Addr
  pn : Nat
  pc : Nat
inductive Ex where
  | mk (d : ExD) (l : List Ex)
def Ex.d : Ex → ExD
  | .mk d _ => d
def Ex.l : Ex → List Ex
  | .mk _ l => l
def ExD.cells (d : ExD) : List Value := [.int .i64 d.kind, .int .i64 d.n, .string (bstr d.s), .string (bstr d.t), .slice d.nA d.nn d.nc, .slice d.pA d.pn d.pc]
def Ex.cells (e : Ex) : List Value := e.d.cells
abbrev ExD.arr (d : ExD) : Array Value := #[.int .i64 d.kind, .int .i64 d.n, .string (bstr d.s), .string (bstr d.t), .slice d.nA d.nn d.nc, .slice d.pA d.pn d.pc]
theorem Ex.cells_len (e : Ex) : e.cells.length = 6 := rfl

inductive Ex.In (w : World) : Ex → Prop
  | mk (d : ExD) (l : List Ex) (nam : Rd w 1 d.nA d.nn (strs d.names)) (par : Rd w 6 d.pA d.pn (l.flatMap Ex.cells))
      (cap : (d.nn ≤ d.nc ∧ d.nc ≤ maxLen ∧ d.nn ≤ 4000000) ∧ (d.pn ≤ d.pc ∧ d.pc ≤ maxLen ∧ d.pn ≤ 4000000) ∧ d.s.length ≤ 4000000 ∧ d.t.length ≤ 4000000 ∧ (∀ s ∈ d.names, s.length ≤ 4000000))
      (sub : ∀ x ∈ l, Ex.In w x) : Ex.In w (.mk d l)
theorem Ex.In.nam {w : World} {e : Ex} (h : e.In w) : Rd w 1 e.d.nA e.d.nn (strs e.d.names) := by cases h; assumption
theorem Ex.In.par {w : World} {e : Ex} (h : e.In w) : Rd w 6 e.d.pA e.d.pn (e.l.flatMap Ex.cells) := by cases h; assumption
theorem Ex.In.cap {w : World} {e : Ex} (h : e.In w) : (e.d.nn ≤ e.d.nc ∧ e.d.nc ≤ maxLen ∧ e.d.nn ≤ 4000000) ∧ (e.d.pn ≤ e.d.pc ∧ e.d.pc ≤ maxLen ∧ e.d.pn ≤ 4000000) ∧ e.d.s.length ≤ 4000000 ∧ e.d.t.length ≤ 4000000 ∧ (∀ s ∈ e.d.names, s.length ≤ 4000000) := by cases h; assumption
theorem Ex.In.sub {w : World} {e : Ex} (h : e.In w) : ∀ x ∈ e.l, Ex.In w x := by cases h; assumption
theorem Ex.In.lower {w w' : World} {e : Ex} (h : e.In w) (hb : RowKit.Below w.heap.size w w') : e.In w' := by
  induction h with
  | mk d l nam par cap sub ih => exact .mk d l (nam.below hb) (par.below hb) cap ih

theorem flat_at {α : Type} {f : α → List Value} {q : Nat} (hq : ∀ y, (f y).length = q) : ∀ (l : List α) (k i : Nat) (hk : k < l.length), i < q → (l.flatMap f)[k * q + i]? = (f l[k])[i]?
  | [], k, i, hk, hi => by simp at hk
  | x :: l, 0, i, hk, hi => by
    rw [List.flatMap_cons, Nat.zero_mul, Nat.zero_add, List.getElem?_append_left (by rw [hq]; exact hi)]; rfl
  | x :: l, k + 1, i, hk, hi => by
    rw [List.flatMap_cons, List.getElem?_append_right (by rw [hq, Nat.add_mul]; omega), hq, show (k + 1) * q + i - q = k * q + i from by rw [Nat.add_mul]; omega]
    rw [flat_at hq l k i (by simpa using hk) hi]; rfl
theorem flat_len {α : Type} {f : α → List Value} {q : Nat} (hq : ∀ y, (f y).length = q) (l : List α) : (l.flatMap f).length = l.length * q := by
  induction l with
  | nil => simp
  | cons x l ih => rw [List.flatMap_cons, List.length_append, hq, ih, List.length_cons, Nat.add_mul]; omega
theorem Ex.In.len {w : World} {e : Ex} (h : e.In w) : e.l.length = e.d.pn := by have := h.par.1; rw [flat_len Ex.cells_len] at this; omega
theorem Ex.In.namLen {w : World} {e : Ex} (h : e.In w) : e.d.names.length = e.d.nn := by have := h.nam.1; rw [strs_length] at this; omega

theorem Rd.str {w : World} {A : Option Addr} {n : Nat} {l : List Str} (h : Rd w 1 A n (strs l)) {k : Nat} (hk : k < l.length) : ∃ b o, A = some ⟨b, o, none⟩ ∧ ∀ j (hj : j < l.length), w.cell? ⟨b, o + j, none⟩ = some (.string (bstr l[j])) := by
  obtain ⟨b, o, rfl, hb, hh⟩ := h.base (by rw [strs_length]; omega)
  exact ⟨b, o, rfl, fun j hj => hh j _ (by simp [strs, hj])⟩
theorem rd_len {w : World} {A : Option Addr} {n : Nat} {l : List Str} (h : Rd w 1 A n (strs l)) : l.length = n := by have := h.1; rw [strs_length] at this; omega

/-- An expression's own fields lie at a place. -/
structure ExD.At (d : ExD) (w : World) (b o : Nat) : Prop where
  c0 : w.cell? ⟨b, o, none⟩ = some (.int .i64 d.kind)
  c1 : w.cell? ⟨b, o + 1, none⟩ = some (.int .i64 d.n)
  c2 : w.cell? ⟨b, o + 2, none⟩ = some (.string (bstr d.s))
  c3 : w.cell? ⟨b, o + 3, none⟩ = some (.string (bstr d.t))
  c4 : w.cell? ⟨b, o + 4, none⟩ = some (.slice d.nA d.nn d.nc)
  c5 : w.cell? ⟨b, o + 5, none⟩ = some (.slice d.pA d.pn d.pc)
theorem ExD.At.lower {d : ExD} {w w' : World} {b o : Nat} (h : d.At w b o) (hb : RowKit.Below w.heap.size w w') : d.At w' b o :=
  ⟨cell_below hb h.c0, cell_below hb h.c1, cell_below hb h.c2, cell_below hb h.c3, cell_below hb h.c4, cell_below hb h.c5⟩
theorem ExD.At.lt {d : ExD} {w : World} {b o : Nat} (h : d.At w b o) : b < w.heap.size := World.block_lt_of_cell? w _ h.c0
/-- The parts, each where it lies. -/
theorem Ex.In.part {w : World} {e : Ex} (h : e.In w) {k : Nat} (hk : k < e.l.length) : ∃ b o, e.d.pA = some ⟨b, o, none⟩ ∧ ∀ j (hj : j < e.l.length), (e.l[j]).d.At w b (o + j * 6) := by
  obtain ⟨b, o, ee, hb, hh⟩ := h.par.base (by rw [flat_len Ex.cells_len]; omega)
  refine ⟨b, o, ee, fun j hj => ⟨?_, ?_, ?_, ?_, ?_, ?_⟩⟩
  · exact hh (j * 6 + 0) _ (flat_at Ex.cells_len e.l j 0 hj (by omega))
  · exact hh (j * 6 + 1) _ (flat_at Ex.cells_len e.l j 1 hj (by omega))
  · exact hh (j * 6 + 2) _ (flat_at Ex.cells_len e.l j 2 hj (by omega))
  · exact hh (j * 6 + 3) _ (flat_at Ex.cells_len e.l j 3 hj (by omega))
  · exact hh (j * 6 + 4) _ (flat_at Ex.cells_len e.l j 4 hj (by omega))
  · exact hh (j * 6 + 5) _ (flat_at Ex.cells_len e.l j 5 hj (by omega))
/-- A value that was put into a new block. -/
theorem ex_box (w : World) (d : ExD) : d.At (w.alloc (.cells d.arr 25)) w.heap.size 0 := ⟨cell_new w _ _ 0 rfl, cell_new w _ _ 1 rfl, cell_new w _ _ 2 rfl, cell_new w _ _ 3 rfl, cell_new w _ _ 4 rfl, cell_new w _ _ 5 rfl⟩
end Go.Proofs.YtpdfjdomjklkbaaGreatDoor

namespace Go.Proofs.YtpdfjdomjklkbaaGreatDoor
open Go.ChangeShapes Go.WideShapes Go.ChangeAt Go.RowKit
set_option linter.unusedVariables false
set_option linter.unusedSimpArgs false

mutual
def Ex.nodes : Ex → Nat
  | .mk _ l => 1 + enodesL l
def enodesL : List Ex → Nat
  | [] => 0
  | x :: l => x.nodes + enodesL l
end
theorem enodesL_snoc : ∀ (l : List Ex) (x : Ex), enodesL (l ++ [x]) = enodesL l + x.nodes
  | [], x => by simp [enodesL]
  | y :: l, x => by simp only [List.cons_append, enodesL, enodesL_snoc l x]; omega
theorem enodesL_mem : ∀ (l : List Ex) (x : Ex), x ∈ l → x.nodes ≤ enodesL l
  | [], x, h => by cases h
  | y :: l, x, h => by
    simp only [enodesL]
    rcases List.mem_cons.1 h with rfl | h
    · omega
    · have := enodesL_mem l x h; omega
theorem enodesL_take (l : List Ex) (k : Nat) : enodesL (l.take k) ≤ enodesL l := by
  have h : ∀ a b : List Ex, enodesL (a ++ b) = enodesL a + enodesL b := by
    intro a b
    induction a with
    | nil => simp [enodesL]
    | cons x a ih => simp only [List.cons_append, enodesL, ih]; omega
  have := h (l.take k) (l.drop k)
  rw [List.take_append_drop] at this
  omega
theorem Ex.nodes_pos (e : Ex) : 1 ≤ e.nodes := by cases e; simp only [Ex.nodes]; omega

/-- The names that an expression binds in its part number i. -/
def ExD.boundF (d : ExD) (i : Nat) : List Str :=
  if (d.kind = 4 ∧ i = 0) ∨ (d.kind = 6 ∧ i = 1) ∨ (d.kind = 7 ∧ i = 1) then [d.s]
  else if d.kind = 7 ∧ i = 0 then [d.s, d.t]
  else if d.kind = 14 ∧ 2 * d.nn < i then [d.t]
  else if d.kind = 14 ∧ 0 < i ∧ i % 2 = 0 then (d.names.drop (i / 2 - 1)).take 1
  else []
mutual
def Ex.freeB : Ex → Str → Bool
  | .mk d l, x => (decide (d.kind = 3) && decide (x = d.s)) || freeLB d l 0 x
def freeLB (d : ExD) : List Ex → Nat → Str → Bool
  | [], _, _ => false
  | y :: l, i, x => (y.freeB x && !decide (x ∈ d.boundF i)) || freeLB d l (i + 1) x
end
theorem freeLB_snoc (d : ExD) (x : Str) (y : Ex) : ∀ (l : List Ex) (i : Nat), freeLB d (l ++ [y]) i x = (freeLB d l i x || (y.freeB x && !decide (x ∈ d.boundF (i + l.length))))
  | [], i => by simp [freeLB]
  | z :: l, i => by
    simp only [List.cons_append, freeLB, freeLB_snoc d x y l (i + 1), List.length_cons, Bool.or_assoc]
    rw [show i + 1 + l.length = i + (l.length + 1) from by omega]
theorem freeLB_at (d : ExD) (x : Str) : ∀ (l : List Ex) (i k : Nat) (hk : k < l.length), l[k].freeB x = true → x ∉ d.boundF (i + k) → freeLB d l i x = true
  | [], i, k, hk, _, _ => by simp at hk
  | y :: l, i, 0, hk, h, hb => by
    simp only [freeLB]
    have h' : y.freeB x = true := h
    have hb' : x ∉ d.boundF i := by simpa using hb
    simp [h', hb']
  | y :: l, i, k + 1, hk, h, hb => by
    simp only [freeLB]
    rw [freeLB_at d x l (i + 1) k (by simpa using hk) h (by rw [show i + 1 + k = i + (k + 1) from by omega]; exact hb)]
    simp
end Go.Proofs.YtpdfjdomjklkbaaGreatDoor

namespace Go.Proofs.YtpdfjdomjklkbaaGreatDoor
open Go.ChangeShapes Go.WideShapes Go.ChangeAt Go.RowKit Go.Sort
set_option linter.unusedVariables false
set_option linter.unusedSimpArgs false

set_option maxRecDepth 100000 in
set_option maxHeartbeats 2000000 in
theorem count_any (w0 : World) (t : Ex) (hIn : t.In w0) : ∀ (m : Int) (w : World), Below w0.heap.size w0 w →
    Calls Tryz.prog 15 #[.agg t.d.arr, .int .i64 m] w fun e w' => (∃ v : Int, e = .returned (.int .i64 v)) ∧ Below w.heap.size w w' := by
  induction hIn with
  | mk d l nam par cap sub ih =>
  intro m w hb
  have hlen : l.length = d.pn := by have := par.1; rw [flat_len Ex.cells_len] at this; omega
  have hb1 : Below w.heap.size w (w.alloc (.cells d.arr 25)) := (Below.refl _ _).alloc (Nat.le_refl _) _
  have hAt := ex_box w d
  have HA := Lib.hid (And.intro hAt (And.intro (below_then hb hb1) (And.intro nam (And.intro cap hlen))))
  have HI := Lib.hid (Ex.In.mk d l nam par cap sub)
  have HIH := Lib.hid ih
  have HB1 := Lib.hid hb1
  have c2 := hAt.c2
  have c3 := hAt.c3
  clear hb1 hAt nam par cap sub ih hb hlen
  go_enter Tryz.func15, Tryz.ntmps15
  show _
  unfold Ex.d
  go_wp2_with fail
  clear c2 c3
  generalize (w.alloc (.cells d.arr 25)) = w1 at *
  have HB0 := Lib.hid (Below.refl w1.heap.size w1)
  go_loopw [1, 5] (fun v i wr => ∃ (z : Int) (k : Nat), v = .int .i64 z ∧ i = .int .i64 k ∧ k ≤ d.nn ∧ Below w1.heap.size w1 wr) (fun _ i _ => d.nn - (intOf i).toNat)
  case atStart => exact ⟨_, 0, rfl, rfl, Nat.zero_le _, HB0.out⟩
  case round =>
    obtain ⟨z, k, rfl, rfl, hk, hbr⟩ := hrel
    have HR := Lib.hid hbr
    have cc := (HA.out.1.lower hbr).c4
    clear hbr
    by_cases hlt : k < d.nn
    · have hll : d.names.length = d.nn := rd_len HA.out.2.2.1
      obtain ⟨b, o, hlA, hcel⟩ := ((HA.out.2.2.1.below HA.out.2.1).below HR.out).str (k := k) (by omega)
      have h1 := hcel k (by omega)
      rw [hlA] at cc
      obtain ⟨x, hx⟩ : ∃ x, (d.names[k]'(by omega)) = x := ⟨_, rfl⟩
      rw [hx] at h1
      have hki : (k : Int) < (d.nn : Int) := by omega
      have hk4 : (k : Int) ≤ 4000000 := by have := HA.out.2.2.2.1.1.2.2; omega
      clear hcel hx hlA hll
      go_wp2_with fail
      go_roundw
      case rel => exact ⟨_, k + 1, rfl, by go_num, hlt, HR.out⟩
      case measure => simp [intOf] <;> omega
    · have hki : ¬ (k : Int) < (d.nn : Int) := by omega
      clear hlt
      go_wp2_with fail
      clear cc
      go_loopw [1, 6] (fun v i wr => ∃ (z : Int) (k : Nat), v = .int .i64 z ∧ i = .int .i64 k ∧ k ≤ d.pn ∧ Below w1.heap.size w1 wr) (fun _ i _ => d.pn - (intOf i).toNat)
      case atStart => exact ⟨_, 0, rfl, rfl, Nat.zero_le _, HR.out⟩
      case round =>
        clear HR
        obtain ⟨z2, j, rfl, rfl, hj, hbr⟩ := hrel
        have HR := Lib.hid hbr
        have cc := (HA.out.1.lower hbr).c5
        clear hbr
        by_cases hlt2 : j < d.pn
        · by_cases hz : 0 ≤ z2
          · have hjl : j < l.length := by rw [HA.out.2.2.2.2]; exact hlt2
            obtain ⟨pb, po, hpA, hAtP⟩ := (HI.out.lower HA.out.2.1).part (k := j) hjl
            have hpA' : d.pA = some ⟨pb, po, none⟩ := hpA
            rw [hpA'] at cc
            have hAtM : (l[j]).d.At w1 pb (po + j * 6) := hAtP j hjl
            obtain ⟨x, hx⟩ : ∃ x, l[j] = x := ⟨_, rfl⟩
            rw [hx] at hAtM
            have hxm : x ∈ l := by rw [← hx]; exact List.getElem_mem hjl
            have HM := Lib.hid (fun z => HIH.out x hxm z wr (HA.out.2.1.trans (HR.out.mono HA.out.2.1.size)))
            obtain ⟨p0, p1, p2, p3, p4, p5⟩ := hAtM.lower HR.out
            have hji : (j : Int) < (d.pn : Int) := by omega
            have hj4 : (j : Int) ≤ 4000000 := by have := HA.out.2.2.2.1.2.1.2.2; omega
            clear hpA hpA' hAtP hAtM hx hxm hjl
            go_wp2_with fail
            refine (HM.out _).mono ?_
            rintro e w3 ⟨⟨v3, rfl⟩, hb3⟩
            have H3 := Lib.hid (below_then HR.out hb3)
            clear hb3 HM
            go_wp2_with fail
            go_roundw
            case rel => exact ⟨v3, j + 1, rfl, by go_num, hlt2, H3.out⟩
            case measure => simp [intOf] <;> omega
          · have hz2 : ¬ 0 ≤ z2 := hz
            have hji : (j : Int) < (d.pn : Int) := by omega
            go_wp2_with fail
            go_returns
            exact ⟨⟨z2, rfl⟩, below_then HB1.out HR.out⟩
        · have hji : ¬ (j : Int) < (d.pn : Int) := by omega
          go_wp2_with fail
          go_returns
          exact ⟨⟨z2, rfl⟩, below_then HB1.out HR.out⟩

theorem Few_any (w0 : World) (t : Ex) (hIn : t.In w0) (w : World) (hb : Below w0.heap.size w0 w) :
    Calls Tryz.prog 5 #[.agg t.d.arr] w fun e w' => (∃ v : Bool, e = .returned (.bool v)) ∧ Below w.heap.size w w' := by
  have hb1 : Below w.heap.size w (w.alloc (.cells t.d.arr 25)) := (Below.refl _ _).alloc (Nat.le_refl _) _
  have HC := Lib.hid (count_any w0 t hIn 5000 _ (below_then hb hb1))
  have HB := Lib.hid hb1
  have HAt := ex_box w t.d
  obtain ⟨c0, c1, c2, c3, c4, c5⟩ := HAt
  clear hb1 hIn hb
  go_enter Tryz.func5, Tryz.ntmps5
  go_wp2_with fail
  refine HC.out.mono ?_
  rintro e w2 ⟨⟨v, rfl⟩, hb2⟩
  have H2 := Lib.hid (below_then HB.out hb2)
  clear hb2 HC c0 c1 c2 c3 c4 c5
  go_wp2_with fail
  go_returns
  exact ⟨⟨_, rfl⟩, H2.out⟩
theorem list_eq {l m : List Str} (h : l.length = m.length) (hh : ∀ j (h : j < l.length) (h' : j < m.length), l[j] = m[j]) : l = m := List.ext_getElem h (fun j h1 h2 => hh j h1 h2)
theorem ne_facts (s t : Str) (b : Bool) (h : decide (s = t) = b) : ((bstr s).toList == (bstr t).toList) = b ∧ ((bstr s).toList != (bstr t).toList) = !b := by
  have h1 : ((bstr s).toList == (bstr t).toList) = b := by rw [beq_bstr, ← h]; first | done | rfl | exact decide_eq_decide.2 Iff.rfl
  exact ⟨h1, by simp only [bne, h1]⟩

set_option maxRecDepth 100000 in
set_option maxHeartbeats 2000000 in
theorem texts14_any (A B : Option Addr) (l m : List Str) (n n' c c' : Nat) (w : World) (hr : Rd w 1 A n (strs l)) (hr' : Rd w 1 B n' (strs m)) (hm : n ≤ 9223372036854775807) (hm' : n' ≤ 9223372036854775807) :
    Calls Tryz.prog 24 #[.slice A n c, .slice B n' c'] w fun e w' => e = .returned (.bool (decide (l = m))) ∧ Below w.heap.size w w' := by
  have hl := rd_len hr
  have hl' := rd_len hr'
  have HR := Lib.hid (And.intro hr (And.intro hr' (And.intro hl hl')))
  by_cases hne : n = n'
  · have q1 : ((n : Int) != (n' : Int)) = false := by rw [hne]; simp
    have HNE := Lib.hid hne
    clear hr hr' hl hl' hne
    go_enter Tryz.func24, Tryz.ntmps24
    go_wp2_with fail
    go_loopw [5] (fun i wr => ∃ k : Nat, i = .int .i64 k ∧ k ≤ n ∧ (∀ j (h : j < l.length) (h' : j < m.length), j < k → l[j] = m[j]) ∧ Below w.heap.size w wr) (fun i _ => n - (intOf i).toNat)
    case atStart => exact ⟨0, rfl, Nat.zero_le _, (by intro j _ _ h; omega), Below.refl _ _⟩
    case round =>
      obtain ⟨k, rfl, hk, hall, hb⟩ := hrel
      have HALL := Lib.hid hall
      have HB := Lib.hid hb
      clear hall
      by_cases hlt : k < n
      · have hkl : k < l.length := by rw [HR.out.2.2.1]; exact hlt
        have hkm : k < m.length := by rw [HR.out.2.2.2, ← HNE.out]; exact hlt
        obtain ⟨b1, o1, rfl, hc1⟩ := (HR.out.1.below hb).str hkl
        obtain ⟨b2, o2, rfl, hc2⟩ := (HR.out.2.1.below hb).str hkm
        have h1 := hc1 k hkl
        have h2 := hc2 k hkm
        have hki : (k : Int) < (n : Int) := by omega
        have hki' : (k : Int) < (n' : Int) := by rw [← HNE.out]; omega
        have hk0 : (0 : Int) ≤ (k : Int) := by omega
        have hk9 : (k : Int) ≤ 9223372036854775806 := by omega
        have hwr : IntKind.i64.wrap (k : Int) = (k : Int) := by rw [IntKind.wrap_i64]; omega
        by_cases he : l[k] = m[k]
        · have hf := ne_facts l[k] m[k] true (decide_eq_true he)
          have HE := Lib.hid he
          obtain ⟨x, hx⟩ : ∃ x, l[k] = x := ⟨_, rfl⟩
          obtain ⟨y, hy⟩ : ∃ y, m[k] = y := ⟨_, rfl⟩
          rw [hx] at h1 hf
          rw [hy] at h2 hf
          obtain ⟨g1, g2⟩ := hf
          simp only [Bool.not_true] at g2
          clear hc1 hc2 hb hx hy he
          go_wp2_with fail
          go_quiet (fail)
          clear h1 h2
          go_wp2_with fail
          go_roundw
          case rel => exact ⟨k + 1, by go_num, hlt, fun j hj hj' hjk => (Nat.lt_succ_iff_lt_or_eq.1 hjk).elim (fun h => HALL.out j hj hj' h) (fun h => by subst h; exact HE.out), below_drewN HB.out _⟩
          case measure => simp [intOf] <;> omega
        · have hf := ne_facts l[k] m[k] false (decide_eq_false he)
          have HA := Lib.hid (show decide (l = m) = false from decide_eq_false (fun e => he (by subst e; rfl)))
          obtain ⟨x, hx⟩ : ∃ x, l[k] = x := ⟨_, rfl⟩
          obtain ⟨y, hy⟩ : ∃ y, m[k] = y := ⟨_, rfl⟩
          rw [hx] at h1 hf
          rw [hy] at h2 hf
          obtain ⟨g1, g2⟩ := hf
          simp only [Bool.not_false] at g2
          clear hc1 hc2 hb hx hy he
          go_wp2_with fail
          go_quiet (fail)
          clear h1 h2
          go_wp2_with fail
          go_returns
          exact ⟨by rw [HA.out]; rfl, below_drewN HB.out _⟩
      · have hki : ¬ (k : Int) < (n : Int) := by omega
        have HA := Lib.hid (show decide (l = m) = true from decide_eq_true (list_eq (by rw [HR.out.2.2.1, HR.out.2.2.2, HNE.out]) (fun j h h' => HALL.out j h h' (by rw [HR.out.2.2.1] at h; omega))))
        clear hb
        go_wp2_with fail
        go_returns
        exact ⟨by rw [HA.out]; rfl, HB.out⟩
  · have q1 : ((n : Int) != (n' : Int)) = true := by rw [bne_iff_ne]; omega
    have HA := Lib.hid (show decide (l = m) = false from decide_eq_false (fun e => hne (by rw [← hl, ← hl', e])))
    clear hr hr' hl hl' hne
    go_enter Tryz.func24, Tryz.ntmps24
    go_wp2_with fail
    go_returns
    exact ⟨by rw [HA.out]; rfl, Below.refl _ _⟩
end Go.Proofs.YtpdfjdomjklkbaaGreatDoor

namespace Go.Proofs.YtpdfjdomjklkbaaGreatDoor
open Go.ChangeShapes Go.WideShapes Go.ChangeAt Go.RowKit Go.Sort
set_option linter.unusedVariables false
set_option linter.unusedSimpArgs false

/-! ### Values -/
mutual
inductive Val where
  | mk (sort n : Int) (s : Str) (l : List Val) (f : Option Fnc)
/-- A function: its own name, whether it has one, its argument's, its part, what its names have. -/
inductive Fnc where
  | mk (self : Str) (isRec : Bool) (arg : Str) (part : Ex) (env : List (Str × Val))
end
abbrev Env := List (Str × Val)
def Val.sort : Val → Int
  | .mk a _ _ _ _ => a
def Val.n : Val → Int
  | .mk _ a _ _ _ => a
def Val.s : Val → Str
  | .mk _ _ a _ _ => a
def Val.l : Val → List Val
  | .mk _ _ _ a _ => a
def Val.f : Val → Option Fnc
  | .mk _ _ _ _ a => a

theorem lt_of_heap {w : World} {k : Nat} {o : Obj} (h : w.heap[k]? = some o) : k < w.heap.size := (Array.getElem?_eq_some_iff.1 h).1
theorem below_drew1 (w : World) : Below w.heap.size w w.drew := Below.drew (Below.refl _ _)
theorem rd_keepP {w w' : World} {size n : Nat} {A : Option Addr} {cs : List Value} {P : Nat → Prop} (h : Rd w size A n cs) (hP : 0 < n → ∀ a, A = some a → P a.block) (hk : ∀ b, P b → b < w.heap.size → w'.heap[b]? = w.heap[b]?) : Rd w' size A n cs := by
  refine ⟨h.1, fun h0 => ?_⟩
  obtain ⟨a, e, hb, hh⟩ := h.addr h0
  have hn : 0 < n := by
    rcases Nat.eq_zero_or_pos n with q | q
    · have := h.1; rw [q] at this; omega
    · exact q
  refine ⟨a, e, fun j u hu => ?_⟩
  rw [← hh j u hu]
  exact World.cell?_of_block (by rw [add_block]; exact hk _ (hP hn a e) hb)
theorem Rd.lt6 {w : World} {size n : Nat} {A : Option Addr} {cs : List Value} (h : Rd w (size + 1) A n cs) (h0 : 0 < n) {a : Addr} (ha : A = some a) : a.block < w.heap.size := by
  obtain ⟨a', e, hb, _⟩ := h.addr (by rw [h.1, Nat.mul_add]; omega)
  rw [ha] at e; cases e
  exact hb
theorem own_keep {w w' : World} {base n : Nat} {e : TypeId} {size : Nat} {v : Value} {xs : List Value} (h : w.ownsRow base e size v n xs) (hk : ∀ g, v.ownBlock = some g → g < w.heap.size → w'.heap[g]? = w.heap[g]?) : w'.ownsRow base e size v n xs := by
  refine ⟨h.1, ?_⟩
  rcases h.2 with q | ⟨g, cap, cur, hv, hg, hh, r⟩
  · exact .inl q
  · subst hv
    exact .inr ⟨g, cap, cur, rfl, hg, (hk g rfl (lt_of_heap hh)).trans hh, r⟩
theorem own_some {w : World} {base n : Nat} {e : TypeId} {size : Nat} {v : Value} {xs : List Value} (h : w.ownsRow base e size v (n + 1) xs) : ∃ q cap, v = .slice (some ⟨q, 0, none⟩) (n + 1) cap := by
  rcases h.2 with ⟨_, e⟩ | ⟨g, cap, cur, hv, _⟩
  · omega
  · exact ⟨g, cap, hv⟩
/-- A cell of an own row. -/
theorem own_cell {w : World} {base n q cap : Nat} {e : TypeId} {size : Nat} {xs : List Value} (h : w.ownsRow base e size (.slice (some ⟨q, 0, none⟩) n cap) n xs) {i : Nat} {u : Value} (hi : xs[i]? = some u) : w.cell? ⟨q, i, none⟩ = some u ∧ w.frozen? ⟨q, i, none⟩ = false := by
  have hl : i < n * size := by rw [← h.1]; exact (List.getElem?_eq_some_iff.1 hi).1
  rcases h.2 with ⟨e, _⟩ | ⟨q', cap', cur, hv, hg, hh, h1, h2, h3, h4⟩
  · cases e
  · injection hv with e1 _ _
    injection e1 with e1
    injection e1 with e1
    subst e1
    refine ⟨?_, Lib.frozen_of_heap hh _⟩
    rw [Lib.cell_of_heap hh, ← Array.getElem?_toList]
    rw [← h4, List.getElem?_take_of_lt hl] at hi
    exact hi
theorem own_set {w : World} {base n g cap : Nat} {e : TypeId} {size : Nat} {xs : List Value} (h : w.ownsRow base e size (.slice (some ⟨g, 0, none⟩) n cap) n xs) (i : Nat) (hi : i < n * size) (u : Value) :
    (w.setCell ⟨g, i, none⟩ u).ownsRow base e size (.slice (some ⟨g, 0, none⟩) n cap) n (xs.set i u) := by
  refine ⟨by rw [List.length_set]; exact h.1, .inr ?_⟩
  rcases h.2 with ⟨q, _⟩ | ⟨g', cap', cur, hv, hg, hh, h1, h2, h3, h4⟩
  · cases q
  · injection hv with e1 _ e2
    injection e1 with e1
    injection e1 with e1
    subst e1 e2
    refine ⟨g, cap, cur.setIfInBounds i u, rfl, hg, ?_, h1, h2, by simpa using h3, ?_⟩
    · simp [World.setCell, Array.getElem?_modify, hh]
    · rw [Array.toList_setIfInBounds, List.take_set, h4]
/-- A row that is cut. -/
theorem own_cut {w : World} {base n g cap : Nat} {e : TypeId} {size : Nat} {xs : List Value} (h : w.ownsRow base e size (.slice (some ⟨g, 0, none⟩) n cap) n xs) (m : Nat) (hm : m ≤ n) :
    w.ownsRow base e size (.slice (some ⟨g, 0, none⟩) m cap) m (xs.take (m * size)) := by
  have hms : m * size ≤ n * size := Nat.mul_le_mul_right size hm
  refine ⟨by rw [List.length_take, h.1]; exact Nat.min_eq_left hms, .inr ?_⟩
  rcases h.2 with ⟨q, _⟩ | ⟨g', cap', cur, hv, hg, hh, h1, h2, h3, h4⟩
  · cases q
  · injection hv with e1 _ e2
    injection e1 with e1
    injection e1 with e1
    subst e1 e2
    refine ⟨g, cap, cur, rfl, hg, hh, by omega, h2, h3, ?_⟩
    rw [← h4, List.take_take, Nat.min_eq_left hms]

/-! ### How they lie in memory. w0: where the program lies; P: in which blocks values may lie -/
mutual
inductive VR (w0 w : World) (P : Nat → Prop) : Val → List Value → Prop
  | mk (sort n : Int) (s : Str) (l : List Val) (f : Option Fnc) (A : Option Addr) (c : Nat) (css : List (List Value)) (u : Value)
      (len : css.length = l.length) (rd : Rd w 6 A l.length css.flatten) (bl : 0 < l.length → ∀ a, A = some a → P a.block) (cap : l.length ≤ c ∧ c ≤ maxLen)
      (sub : ∀ (i : Nat) (v : Val) (cs : List Value), l[i]? = some v → css[i]? = some cs → VR w0 w P v cs) (fn : FR w0 w P f u) :
      VR w0 w P (.mk sort n s l f) [.int .i64 sort, .int .i64 n, .string (bstr s), .slice none 0 0, .slice A l.length c, u]
inductive FR (w0 w : World) (P : Nat → Prop) : Option Fnc → Value → Prop
  | none : FR w0 w P none (.pointer none)
  | some (self : Str) (isRec : Bool) (arg : Str) (part : Ex) (pb po : Nat) (env : List (Str × Val)) (b : Nat) (u : Value)
      (hb : w.heap[b]? = some (.cells #[.string (bstr self), .bool isRec, .string (bstr arg), .pointer (some ⟨pb, po, none⟩), u] 99)) (bl : P b)
      (part_ : part.In w0 ∧ part.d.At w0 pb po) (env_ : ER w0 w P env u) : FR w0 w P (some (.mk self isRec arg part env)) (.pointer (some ⟨b, 0, none⟩))
inductive ER (w0 w : World) (P : Nat → Prop) : List (Str × Val) → Value → Prop
  | nil : ER w0 w P [] (.pointer none)
  | cons (x : Str) (v : Val) (env : List (Str × Val)) (b : Nat) (c0 c1 c2 c3 c4 c5 u : Value)
      (hb : w.heap[b]? = some (.cells #[.string (bstr x), c0, c1, c2, c3, c4, c5, u] 97)) (bl : P b)
      (val : VR w0 w P v [c0, c1, c2, c3, c4, c5]) (env_ : ER w0 w P env u) : ER w0 w P ((x, v) :: env) (.pointer (some ⟨b, 0, none⟩))
end
section
variable {w0 w w' : World} {P Q : Nat → Prop}
theorem VR.keep (hk : ∀ b, P b → b < w.heap.size → Q b ∧ w'.heap[b]? = w.heap[b]?) {v : Val} {c : List Value} (h : VR w0 w P v c) : VR w0 w' Q v c :=
  VR.rec (motive_1 := fun v c _ => VR w0 w' Q v c) (motive_2 := fun f u _ => FR w0 w' Q f u) (motive_3 := fun e u _ => ER w0 w' Q e u)
    (fun sort n s l f A c css u len rd bl cap sub fn ih1 ih2 => .mk sort n s l f A c css u len (rd_keepP rd bl (fun b hb hl => (hk b hb hl).2)) (fun hn a ha => (hk _ (bl hn a ha) (rd.lt6 hn ha)).1) cap ih1 ih2)
    .none
    (fun self isRec arg part pb po env b u hb bl hp he ih => .some self isRec arg part pb po env b u ((hk b bl (lt_of_heap hb)).2.trans hb) (hk b bl (lt_of_heap hb)).1 hp ih)
    .nil
    (fun x v env b c0 c1 c2 c3 c4 c5 u hb bl hv he ih1 ih2 => .cons x v env b c0 c1 c2 c3 c4 c5 u ((hk b bl (lt_of_heap hb)).2.trans hb) (hk b bl (lt_of_heap hb)).1 ih1 ih2) h
theorem ER.keep (hk : ∀ b, P b → b < w.heap.size → Q b ∧ w'.heap[b]? = w.heap[b]?) {e : Env} {u : Value} (h : ER w0 w P e u) : ER w0 w' Q e u := by
  induction e generalizing u with
  | nil => cases h; exact .nil
  | cons x e ih =>
    cases h with
    | cons x v env b c0 c1 c2 c3 c4 c5 u hb bl hv he => exact .cons x v e b c0 c1 c2 c3 c4 c5 u ((hk b bl (lt_of_heap hb)).2.trans hb) (hk b bl (lt_of_heap hb)).1 (hv.keep hk) (ih he)
theorem FR.keep (hk : ∀ b, P b → b < w.heap.size → Q b ∧ w'.heap[b]? = w.heap[b]?) {f : Option Fnc} {u : Value} (h : FR w0 w P f u) : FR w0 w' Q f u := by
  cases h with
  | none => exact .none
  | some self isRec arg part pb po env b u hb bl hp he => exact .some self isRec arg part pb po env b u ((hk b bl (lt_of_heap hb)).2.trans hb) (hk b bl (lt_of_heap hb)).1 hp (he.keep hk)
theorem VR.len {v : Val} {c : List Value} (h : VR w0 w P v c) : c.length = 6 := by cases h; rfl
end
end Go.Proofs.YtpdfjdomjklkbaaGreatDoor

namespace Go.Proofs.YtpdfjdomjklkbaaGreatDoor
open Go.ChangeShapes Go.WideShapes Go.ChangeAt Go.RowKit Go.Sort
set_option linter.unusedVariables false
set_option linter.unusedSimpArgs false

/-! ### Lists of things that lie side by side -/
structure LR {α : Type} (R : α → List Value → Prop) (l : List α) (css : List (List Value)) : Prop where
  len : css.length = l.length
  at_ : ∀ (i : Nat) (a : α) (c : List Value), l[i]? = some a → css[i]? = some c → R a c
section
variable {α : Type} {R S : α → List Value → Prop} {l : List α} {css : List (List Value)}
theorem LR.nil : LR R ([] : List α) [] := ⟨rfl, fun i a c h _ => by simp at h⟩
theorem LR.snoc (h : LR R l css) {a : α} {c : List Value} (hc : R a c) : LR R (l ++ [a]) (css ++ [c]) := by
  refine ⟨by simp [h.len], fun i a' c' h1 h2 => ?_⟩
  by_cases hi : i < l.length
  · rw [List.getElem?_append_left hi] at h1
    rw [List.getElem?_append_left (by rw [h.len]; exact hi)] at h2
    exact h.at_ i a' c' h1 h2
  · rw [List.getElem?_append_right (by omega)] at h1
    rw [List.getElem?_append_right (by rw [h.len]; omega), h.len] at h2
    obtain ⟨k, hk⟩ : ∃ k, i - l.length = k := ⟨_, rfl⟩
    rw [hk] at h1 h2
    cases k with
    | zero => simp at h1 h2; subst h1; subst h2; exact hc
    | succ k => simp at h1
theorem LR.take (h : LR R l css) (n : Nat) : LR R (l.take n) (css.take n) :=
  ⟨by simp [h.len], fun i a c h1 h2 => by
    rw [List.getElem?_take] at h1 h2
    split at h1
    · rename_i hi
      rw [if_pos hi] at h2
      exact h.at_ i a c h1 h2
    · cases h1⟩
theorem LR.drop (h : LR R l css) (n : Nat) : LR R (l.drop n) (css.drop n) :=
  ⟨by simp [h.len], fun i a c h1 h2 => by
    rw [List.getElem?_drop] at h1 h2
    exact h.at_ _ a c h1 h2⟩
theorem LR.set (h : LR R l css) (i : Nat) {a : α} {c : List Value} (hc : R a c) : LR R (l.set i a) (css.set i c) := by
  refine ⟨by simp [h.len], fun j a' c' h1 h2 => ?_⟩
  rw [List.getElem?_set] at h1 h2
  by_cases e : i = j
  · rw [if_pos e] at h1 h2
    split at h1
    · rename_i hl
      rw [if_pos (by rw [h.len]; exact hl)] at h2
      injection h1 with h1
      injection h2 with h2
      subst h1 h2
      exact hc
    · cases h1
  · rw [if_neg e] at h1 h2
    exact h.at_ j a' c' h1 h2
theorem LR.imp (h : LR R l css) (hi : ∀ a c, R a c → S a c) : LR S l css := ⟨h.len, fun i a c h1 h2 => hi a c (h.at_ i a c h1 h2)⟩
theorem LR.get (h : LR R l css) {i : Nat} (hi : i < l.length) : ∃ c, css[i]? = some c ∧ R l[i] c := by
  have h1 : css[i]? = some (css[i]'(by rw [h.len]; exact hi)) := List.getElem?_eq_getElem _
  exact ⟨_, h1, h.at_ i _ _ (List.getElem?_eq_getElem hi) h1⟩
end
theorem flat_len2 {css : List (List Value)} {k : Nat} (h : ∀ c ∈ css, c.length = k) : css.flatten.length = css.length * k := by
  induction css with
  | nil => simp
  | cons c css ih =>
    rw [List.flatten_cons, List.length_append, h c (List.mem_cons_self ..), ih (fun c hc => h c (List.mem_cons_of_mem _ hc)), List.length_cons, Nat.add_mul]
    omega
theorem flat_at2 {css : List (List Value)} {k : Nat} (h : ∀ c ∈ css, c.length = k) {i : Nat} {c : List Value} (hc : css[i]? = some c) {j : Nat} {u : Value} (hj : c[j]? = some u) : css.flatten[i * k + j]? = some u := by
  induction css generalizing i with
  | nil => simp at hc
  | cons x css ih =>
    rw [List.flatten_cons]
    have hx := h x (List.mem_cons_self ..)
    have hjk : j < k := by
      have h1 := (List.getElem?_eq_some_iff.1 hj).1
      have h2 := h c (List.mem_of_getElem? hc)
      omega
    cases i with
    | zero =>
      injection hc with hc
      subst hc
      rw [Nat.zero_mul, Nat.zero_add, List.getElem?_append_left (by omega)]
      exact hj
    | succ i =>
      rw [List.getElem?_append_right (by rw [hx, Nat.add_mul]; omega), hx, show (i + 1) * k + j - k = i * k + j from by rw [Nat.add_mul]; omega]
      exact ih (fun c hc => h c (List.mem_cons_of_mem _ hc)) hc
theorem flat_take2 {css : List (List Value)} {k : Nat} (h : ∀ c ∈ css, c.length = k) (n : Nat) : css.flatten.take (n * k) = (css.take n).flatten := by
  induction css generalizing n with
  | nil => simp
  | cons x css ih =>
    cases n with
    | zero => simp
    | succ n =>
      have hx := h x (List.mem_cons_self ..)
      rw [List.flatten_cons, List.take_succ_cons, List.flatten_cons, List.take_append, hx, List.take_of_length_le (by rw [hx, Nat.add_mul]; omega), show (n + 1) * k - k = n * k from by rw [Nat.add_mul]; omega, ih (fun c hc => h c (List.mem_cons_of_mem _ hc))]

/-! ### The machine -/
/-- An expression of which some parts have values. -/
structure Frm where
  e : Ex
  env : Env
  base : Nat
structure St where
  err : Int
  fault : Int
  trace : List Str
  input : List Str
  fuel : Int
  refs : List Val
  vals : List Val
  frames : List Frm
  next : Option (Ex × Env)
/-- Blocks that the machine does not write. -/
def Mv (mb : Nat) (t r v f : Value) (b : Nat) : Prop := b ≠ mb ∧ some b ≠ t.ownBlock ∧ some b ≠ r.ownBlock ∧ some b ≠ v.ownBlock ∧ some b ≠ f.ownBlock
def FrR (w0 w : World) (P : Nat → Prop) (f : Frm) (c : List Value) : Prop := ∃ (eb eo : Nat) (u : Value), c = [.pointer (some ⟨eb, eo, none⟩), u, .int .i64 f.base] ∧ (f.e.In w0 ∧ f.e.d.At w0 eb eo) ∧ ER w0 w P f.env u
def NxR (w0 w : World) (P : Nat → Prop) : Option (Ex × Env) → Value → Value → Prop
  | none, nx, _ => nx = .pointer none
  | some x, nx, nm => ∃ eb eo, nx = .pointer (some ⟨eb, eo, none⟩) ∧ (x.1.In w0 ∧ x.1.d.At w0 eb eo) ∧ ER w0 w P x.2 nm
/-- What stays, from a world to a later one. -/
def Tr (w : World) (P : Nat → Prop) (w' : World) (Q : Nat → Prop) : Prop := ∀ b, P b → b < w.heap.size → Q b ∧ w'.heap[b]? = w.heap[b]?
theorem Tr.refl (w : World) (P : Nat → Prop) : Tr w P w P := fun _ h _ => ⟨h, rfl⟩
theorem Tr.trans {a b c : World} {P Q R : Nat → Prop} (h : Tr a P b Q) (hs : a.heap.size ≤ b.heap.size) (k : Tr b Q c R) : Tr a P c R := fun i hi hl => ⟨(k i (h i hi hl).1 (by omega)).1, (k i (h i hi hl).1 (by omega)).2.trans (h i hi hl).2⟩
theorem FrR.keep {w0 w w' : World} {P Q : Nat → Prop} (hk : Tr w P w' Q) {f : Frm} {c : List Value} (h : FrR w0 w P f c) : FrR w0 w' Q f c := by
  obtain ⟨eb, eo, u, hc, hp, he⟩ := h
  exact ⟨eb, eo, u, hc, hp, he.keep hk⟩
theorem NxR.keep {w0 w w' : World} {P Q : Nat → Prop} (hk : Tr w P w' Q) {x : Option (Ex × Env)} {nx nm : Value} (h : NxR w0 w P x nx nm) : NxR w0 w' Q x nx nm := by
  cases x with
  | none => exact h
  | some x =>
    obtain ⟨eb, eo, hc, hp, he⟩ := h
    exact ⟨eb, eo, hc, hp, he.keep hk⟩
abbrev HD (s : St) (t i r v f nx nm : Value) : Array Value := #[.int .i64 s.err, .int .i64 s.fault, .string ⟨#[]⟩, t, i, .int .i64 s.fuel, r, v, f, nx, nm]
structure Rep (w0 : World) (B mb : Nat) (s : St) (w : World) (t i r v f nx nm : Value) (rcs vcs fcs : List (List Value)) : Prop where
  hd : w.heap[mb]? = some (.cells (HD s t i r v f nx nm) 67)
  tr : w.ownsRow B 9 1 t s.trace.length (strs s.trace)
  inp : ∃ A c, i = .slice A s.input.length c ∧ (s.input.length ≤ c ∧ c ≤ maxLen) ∧ Rd w 1 A s.input.length (strs s.input) ∧ (0 < s.input.length → ∀ a, A = some a → a.block < B)
  rr : w.ownsRow B 60 6 r s.refs.length rcs.flatten
  rl : LR (VR w0 w (Mv mb t r v f)) s.refs rcs
  vr : w.ownsRow B 60 6 v s.vals.length vcs.flatten
  vl : LR (VR w0 w (Mv mb t r v f)) s.vals vcs
  fr : w.ownsRow B 77 3 f s.frames.length fcs.flatten
  fl : LR (FrR w0 w (Mv mb t r v f)) s.frames fcs
  nxt : NxR w0 w (Mv mb t r v f) s.next nx nm
  base : w0.heap.size ≤ B ∧ B ≤ mb
  dt : ∀ q, t.ownBlock = some q → q ≠ mb ∧ r.ownBlock ≠ some q ∧ v.ownBlock ≠ some q ∧ f.ownBlock ≠ some q
  dr : ∀ q, r.ownBlock = some q → q ≠ mb ∧ v.ownBlock ≠ some q ∧ f.ownBlock ≠ some q
  dv : ∀ q, v.ownBlock = some q → q ≠ mb ∧ f.ownBlock ≠ some q
  df : ∀ q, f.ownBlock = some q → q ≠ mb
/-- The machine stands so, and what stood before stands. -/
def Post (w0 : World) (B mb : Nat) (P : Nat → Prop) (w : World) (s : St) (w' : World) : Prop :=
  ∃ (t i r v f nx nm : Value) (rcs vcs fcs : List (List Value)), Rep w0 B mb s w' t i r v f nx nm rcs vcs fcs ∧ Tr w P w' (Mv mb t r v f) ∧ Below B w w'
section
variable {w0 w wz : World} {B mb : Nat} {s : St} {t i r v f nx nm : Value} {rcs vcs fcs : List (List Value)}
theorem Rep.lt (h : Rep w0 B mb s w t i r v f nx nm rcs vcs fcs) : mb < w.heap.size := lt_of_heap h.hd
theorem Rep.mv (h : Rep w0 B mb s w t i r v f nx nm rcs vcs fcs) (b : Nat) (hb : b < B) : Mv mb t r v f b :=
  ⟨by have := h.base.2; omega, fun e => by have := (h.tr.lt b e.symm).1; omega, fun e => by have := (h.rr.lt b e.symm).1; omega, fun e => by have := (h.vr.lt b e.symm).1; omega, fun e => by have := (h.fr.lt b e.symm).1; omega⟩
theorem Rep.below (h : Rep w0 B mb s w t i r v f nx nm rcs vcs fcs) (hb : Below w.heap.size w wz) : Rep w0 B mb s wz t i r v f nx nm rcs vcs fcs := by
  have hk : Tr w (Mv mb t r v f) wz (Mv mb t r v f) := fun b hb' hl => ⟨hb', hb.block b hl⟩
  obtain ⟨A, c, e1, e2, e3, e4⟩ := h.inp
  exact ⟨(hb.block mb h.lt).trans h.hd, own_below h.tr hb, ⟨A, c, e1, e2, e3.below hb, e4⟩, own_below h.rr hb, h.rl.imp (fun a c => VR.keep hk), own_below h.vr hb, h.vl.imp (fun a c => VR.keep hk), own_below h.fr hb, h.fl.imp (fun a c => FrR.keep hk), h.nxt.keep hk, h.base, h.dt, h.dr, h.dv, h.df⟩
/-- The head is written. -/
theorem Rep.head (h : Rep w0 B mb s w t i r v f nx nm rcs vcs fcs) {s' : St} {i' nx' nm' : Value} (hk : ∀ b, b ≠ mb → wz.heap[b]? = w.heap[b]?) (ho : wz.os = w.os ∧ wz.tape = w.tape ∧ wz.output = w.output ∧ wz.heap.size = w.heap.size)
    (hd' : wz.heap[mb]? = some (.cells (HD s' t i' r v f nx' nm') 67)) (hs : s'.trace = s.trace ∧ s'.refs = s.refs ∧ s'.vals = s.vals ∧ s'.frames = s.frames)
    (hi : ∃ A c, i' = .slice A s'.input.length c ∧ (s'.input.length ≤ c ∧ c ≤ maxLen) ∧ Rd w 1 A s'.input.length (strs s'.input) ∧ (0 < s'.input.length → ∀ a, A = some a → a.block < B)) (hn : NxR w0 w (Mv mb t r v f) s'.next nx' nm') :
    Rep w0 B mb s' wz t i' r v f nx' nm' rcs vcs fcs ∧ Tr w (Mv mb t r v f) wz (Mv mb t r v f) ∧ Below B w wz := by
  have hT : Tr w (Mv mb t r v f) wz (Mv mb t r v f) := fun b hb hl => ⟨hb, hk b hb.1⟩
  have hB := h.base.2
  obtain ⟨A, c, e1, e2, e3, e4⟩ := hi
  refine ⟨⟨hd', by rw [hs.1]; exact own_keep h.tr (fun q hq _ => hk q (h.dt q hq).1), ⟨A, c, e1, e2, rd_keepP (P := fun b => b < B) e3 e4 (fun b hb _ => hk b (by omega)), e4⟩, by rw [hs.2.1]; exact own_keep h.rr (fun q hq _ => hk q (h.dr q hq).1), by rw [hs.2.1]; exact h.rl.imp (fun a c => VR.keep hT), by rw [hs.2.2.1]; exact own_keep h.vr (fun q hq _ => hk q (h.dv q hq).1), by rw [hs.2.2.1]; exact h.vl.imp (fun a c => VR.keep hT), by rw [hs.2.2.2]; exact own_keep h.fr (fun q hq _ => hk q (h.df q hq)), by rw [hs.2.2.2]; exact h.fl.imp (fun a c => FrR.keep hT), hn.keep hT, h.base, h.dt, h.dr, h.dv, h.df⟩, hT, ⟨ho.1, ho.2.1, ho.2.2.1, by rw [ho.2.2.2]; exact Nat.le_refl _, fun b hb => hk b (by omega)⟩⟩
/-- The row trace is another one. -/
theorem Rep.trace_ (h : Rep w0 B mb s w t i r v f nx nm rcs vcs fcs) {x' : Value} {L' : List Str} (hk : ∀ b, b < w.heap.size → b ≠ mb → some b ≠ t.ownBlock → wz.heap[b]? = w.heap[b]?) (ho : wz.os = w.os ∧ wz.tape = w.tape ∧ wz.output = w.output ∧ w.heap.size ≤ wz.heap.size)
    (hd' : wz.heap[mb]? = some (.cells (HD s x' i r v f nx nm) 67)) (hv : wz.ownsRow B 9 1 x' L'.length (strs L')) (hat : ∀ q, x'.ownBlock = some q → t.ownBlock = some q ∨ w.heap.size ≤ q) :
    Rep w0 B mb { s with trace := L' } wz x' i r v f nx nm rcs vcs fcs ∧ Tr w (Mv mb t r v f) wz (Mv mb x' r v f) ∧ Below B w wz := by
  have hB := h.base.2
  have hT : Tr w (Mv mb t r v f) wz (Mv mb x' r v f) := fun b hb hl => by
    refine ⟨⟨hb.1, ?_, hb.2.2.1, hb.2.2.2.1, hb.2.2.2.2⟩, hk b hl hb.1 hb.2.1⟩
    intro e
    rcases hat b e.symm with q | q
    · exact hb.2.1 q.symm
    · omega
  have hlt : ∀ q, t.ownBlock = some q → B ≤ q := fun q hq => (h.tr.lt q hq).1
  have hmb := h.lt
  obtain ⟨A, c, e1, e2, e3, e4⟩ := h.inp
  exact ⟨⟨hd', hv, ⟨A, c, e1, e2, rd_keepP (P := fun b => b < B ∧ b < w.heap.size) e3 (fun hn a ha => ⟨e4 hn a ha, e3.lt6 hn ha⟩) (fun b hb hl => hk b hl (by omega) (fun e => by have := hlt b e.symm; omega)), e4⟩, own_keep h.rr (fun q hq hl => hk q hl (h.dr q hq).1 (fun e => (h.dt q e.symm).2.1 hq)), h.rl.imp (fun a c => VR.keep hT), own_keep h.vr (fun q hq hl => hk q hl (h.dv q hq).1 (fun e => (h.dt q e.symm).2.2.1 hq)), h.vl.imp (fun a c => VR.keep hT), own_keep h.fr (fun q hq hl => hk q hl (h.df q hq) (fun e => (h.dt q e.symm).2.2.2 hq)), h.fl.imp (fun a c => FrR.keep hT), h.nxt.keep hT, h.base, fun q hq => by
    rcases hat q hq with k | k
    · exact h.dt q k
    · exact ⟨by omega, fun e => by have := (h.rr.lt q e).2; omega, fun e => by have := (h.vr.lt q e).2; omega, fun e => by have := (h.fr.lt q e).2; omega⟩, h.dr, h.dv, h.df⟩, hT, ⟨ho.1, ho.2.1, ho.2.2.1, ho.2.2.2, fun b hb => by
    by_cases hl : b < w.heap.size
    · exact hk b hl (by omega) (fun e => by have := hlt b e.symm; omega)
    · rw [Array.getElem?_eq_none (by omega)]
      omega⟩⟩
/-- The row refs is another one. -/
theorem Rep.refs_ (h : Rep w0 B mb s w t i r v f nx nm rcs vcs fcs) {x' : Value} {css' : List (List Value)} {L' : List Val} (hk : ∀ b, b < w.heap.size → b ≠ mb → some b ≠ r.ownBlock → wz.heap[b]? = w.heap[b]?) (ho : wz.os = w.os ∧ wz.tape = w.tape ∧ wz.output = w.output ∧ w.heap.size ≤ wz.heap.size)
    (hd' : wz.heap[mb]? = some (.cells (HD s t i x' v f nx nm) 67)) (hv : wz.ownsRow B 60 6 x' L'.length css'.flatten) (hat : ∀ q, x'.ownBlock = some q → r.ownBlock = some q ∨ w.heap.size ≤ q) (hl : LR (VR w0 wz (Mv mb t x' v f)) L' css') :
    Rep w0 B mb { s with refs := L' } wz t i x' v f nx nm css' vcs fcs ∧ Tr w (Mv mb t r v f) wz (Mv mb t x' v f) ∧ Below B w wz := by
  have hB := h.base.2
  have hT : Tr w (Mv mb t r v f) wz (Mv mb t x' v f) := fun b hb hl => by
    refine ⟨⟨hb.1, hb.2.1, ?_, hb.2.2.2.1, hb.2.2.2.2⟩, hk b hl hb.1 hb.2.2.1⟩
    intro e
    rcases hat b e.symm with q | q
    · exact hb.2.2.1 q.symm
    · omega
  have hlt : ∀ q, r.ownBlock = some q → B ≤ q := fun q hq => (h.rr.lt q hq).1
  have hmb := h.lt
  obtain ⟨A, c, e1, e2, e3, e4⟩ := h.inp
  exact ⟨⟨hd', own_keep h.tr (fun q hq hl => hk q hl (h.dt q hq).1 (fun e => (h.dt q hq).2.1 e.symm)), ⟨A, c, e1, e2, rd_keepP (P := fun b => b < B ∧ b < w.heap.size) e3 (fun hn a ha => ⟨e4 hn a ha, e3.lt6 hn ha⟩) (fun b hb hl => hk b hl (by omega) (fun e => by have := hlt b e.symm; omega)), e4⟩, hv, hl, own_keep h.vr (fun q hq hl => hk q hl (h.dv q hq).1 (fun e => (h.dr q e.symm).2.1 hq)), h.vl.imp (fun a c => VR.keep hT), own_keep h.fr (fun q hq hl => hk q hl (h.df q hq) (fun e => (h.dr q e.symm).2.2 hq)), h.fl.imp (fun a c => FrR.keep hT), h.nxt.keep hT, h.base, fun q hq => ⟨(h.dt q hq).1, fun e => by
      rcases hat q e with k | k
      · exact ((h.dt q hq).2.1 k) 
      · have := (h.tr.lt q hq).2; omega, fun e => (h.dt q hq).2.2.1 e, fun e => (h.dt q hq).2.2.2 e⟩, fun q hq => by
    rcases hat q hq with k | k
    · exact h.dr q k
    · exact ⟨by omega, fun e => by have := (h.vr.lt q e).2; omega, fun e => by have := (h.fr.lt q e).2; omega⟩, h.dv, h.df⟩, hT, ⟨ho.1, ho.2.1, ho.2.2.1, ho.2.2.2, fun b hb => by
    by_cases hl : b < w.heap.size
    · exact hk b hl (by omega) (fun e => by have := hlt b e.symm; omega)
    · rw [Array.getElem?_eq_none (by omega)]
      omega⟩⟩
/-- The row vals is another one. -/
theorem Rep.vals_ (h : Rep w0 B mb s w t i r v f nx nm rcs vcs fcs) {x' : Value} {css' : List (List Value)} {L' : List Val} (hk : ∀ b, b < w.heap.size → b ≠ mb → some b ≠ v.ownBlock → wz.heap[b]? = w.heap[b]?) (ho : wz.os = w.os ∧ wz.tape = w.tape ∧ wz.output = w.output ∧ w.heap.size ≤ wz.heap.size)
    (hd' : wz.heap[mb]? = some (.cells (HD s t i r x' f nx nm) 67)) (hv : wz.ownsRow B 60 6 x' L'.length css'.flatten) (hat : ∀ q, x'.ownBlock = some q → v.ownBlock = some q ∨ w.heap.size ≤ q) (hl : LR (VR w0 wz (Mv mb t r x' f)) L' css') :
    Rep w0 B mb { s with vals := L' } wz t i r x' f nx nm rcs css' fcs ∧ Tr w (Mv mb t r v f) wz (Mv mb t r x' f) ∧ Below B w wz := by
  have hB := h.base.2
  have hT : Tr w (Mv mb t r v f) wz (Mv mb t r x' f) := fun b hb hl => by
    refine ⟨⟨hb.1, hb.2.1, hb.2.2.1, ?_, hb.2.2.2.2⟩, hk b hl hb.1 hb.2.2.2.1⟩
    intro e
    rcases hat b e.symm with q | q
    · exact hb.2.2.2.1 q.symm
    · omega
  have hlt : ∀ q, v.ownBlock = some q → B ≤ q := fun q hq => (h.vr.lt q hq).1
  have hmb := h.lt
  obtain ⟨A, c, e1, e2, e3, e4⟩ := h.inp
  exact ⟨⟨hd', own_keep h.tr (fun q hq hl => hk q hl (h.dt q hq).1 (fun e => (h.dt q hq).2.2.1 e.symm)), ⟨A, c, e1, e2, rd_keepP (P := fun b => b < B ∧ b < w.heap.size) e3 (fun hn a ha => ⟨e4 hn a ha, e3.lt6 hn ha⟩) (fun b hb hl => hk b hl (by omega) (fun e => by have := hlt b e.symm; omega)), e4⟩, own_keep h.rr (fun q hq hl => hk q hl (h.dr q hq).1 (fun e => (h.dr q hq).2.1 e.symm)), h.rl.imp (fun a c => VR.keep hT), hv, hl, own_keep h.fr (fun q hq hl => hk q hl (h.df q hq) (fun e => (h.dv q e.symm).2 hq)), h.fl.imp (fun a c => FrR.keep hT), h.nxt.keep hT, h.base, fun q hq => ⟨(h.dt q hq).1, fun e => (h.dt q hq).2.1 e, fun e => by
      rcases hat q e with k | k
      · exact ((h.dt q hq).2.2.1 k) 
      · have := (h.tr.lt q hq).2; omega, fun e => (h.dt q hq).2.2.2 e⟩, fun q hq => ⟨(h.dr q hq).1, fun e => by
      rcases hat q e with k | k
      · exact ((h.dr q hq).2.1 k) 
      · have := (h.rr.lt q hq).2; omega, fun e => (h.dr q hq).2.2 e⟩, fun q hq => by
    rcases hat q hq with k | k
    · exact h.dv q k
    · exact ⟨by omega, fun e => by have := (h.fr.lt q e).2; omega⟩, h.df⟩, hT, ⟨ho.1, ho.2.1, ho.2.2.1, ho.2.2.2, fun b hb => by
    by_cases hl : b < w.heap.size
    · exact hk b hl (by omega) (fun e => by have := hlt b e.symm; omega)
    · rw [Array.getElem?_eq_none (by omega)]
      omega⟩⟩
/-- The row frames is another one. -/
theorem Rep.frames_ (h : Rep w0 B mb s w t i r v f nx nm rcs vcs fcs) {x' : Value} {css' : List (List Value)} {L' : List Frm} (hk : ∀ b, b < w.heap.size → b ≠ mb → some b ≠ f.ownBlock → wz.heap[b]? = w.heap[b]?) (ho : wz.os = w.os ∧ wz.tape = w.tape ∧ wz.output = w.output ∧ w.heap.size ≤ wz.heap.size)
    (hd' : wz.heap[mb]? = some (.cells (HD s t i r v x' nx nm) 67)) (hv : wz.ownsRow B 77 3 x' L'.length css'.flatten) (hat : ∀ q, x'.ownBlock = some q → f.ownBlock = some q ∨ w.heap.size ≤ q) (hl : LR (FrR w0 wz (Mv mb t r v x')) L' css') :
    Rep w0 B mb { s with frames := L' } wz t i r v x' nx nm rcs vcs css' ∧ Tr w (Mv mb t r v f) wz (Mv mb t r v x') ∧ Below B w wz := by
  have hB := h.base.2
  have hT : Tr w (Mv mb t r v f) wz (Mv mb t r v x') := fun b hb hl => by
    refine ⟨⟨hb.1, hb.2.1, hb.2.2.1, hb.2.2.2.1, ?_⟩, hk b hl hb.1 hb.2.2.2.2⟩
    intro e
    rcases hat b e.symm with q | q
    · exact hb.2.2.2.2 q.symm
    · omega
  have hlt : ∀ q, f.ownBlock = some q → B ≤ q := fun q hq => (h.fr.lt q hq).1
  have hmb := h.lt
  obtain ⟨A, c, e1, e2, e3, e4⟩ := h.inp
  exact ⟨⟨hd', own_keep h.tr (fun q hq hl => hk q hl (h.dt q hq).1 (fun e => (h.dt q hq).2.2.2 e.symm)), ⟨A, c, e1, e2, rd_keepP (P := fun b => b < B ∧ b < w.heap.size) e3 (fun hn a ha => ⟨e4 hn a ha, e3.lt6 hn ha⟩) (fun b hb hl => hk b hl (by omega) (fun e => by have := hlt b e.symm; omega)), e4⟩, own_keep h.rr (fun q hq hl => hk q hl (h.dr q hq).1 (fun e => (h.dr q hq).2.2 e.symm)), h.rl.imp (fun a c => VR.keep hT), own_keep h.vr (fun q hq hl => hk q hl (h.dv q hq).1 (fun e => (h.dv q hq).2 e.symm)), h.vl.imp (fun a c => VR.keep hT), hv, hl, h.nxt.keep hT, h.base, fun q hq => ⟨(h.dt q hq).1, fun e => (h.dt q hq).2.1 e, fun e => (h.dt q hq).2.2.1 e, fun e => by
      rcases hat q e with k | k
      · exact ((h.dt q hq).2.2.2 k) 
      · have := (h.tr.lt q hq).2; omega⟩, fun q hq => ⟨(h.dr q hq).1, fun e => (h.dr q hq).2.1 e, fun e => by
      rcases hat q e with k | k
      · exact ((h.dr q hq).2.2 k) 
      · have := (h.rr.lt q hq).2; omega⟩, fun q hq => ⟨(h.dv q hq).1, fun e => by
      rcases hat q e with k | k
      · exact ((h.dv q hq).2 k) 
      · have := (h.vr.lt q hq).2; omega⟩, fun q hq => by
    rcases hat q hq with k | k
    · exact h.df q k
    · exact by omega⟩, hT, ⟨ho.1, ho.2.1, ho.2.2.1, ho.2.2.2, fun b hb => by
    by_cases hl : b < w.heap.size
    · exact hk b hl (by omega) (fun e => by have := hlt b e.symm; omega)
    · rw [Array.getElem?_eq_none (by omega)]
      omega⟩⟩

end
end Go.Proofs.YtpdfjdomjklkbaaGreatDoor

namespace Go.Proofs.YtpdfjdomjklkbaaGreatDoor
open Go.ChangeShapes Go.WideShapes Go.ChangeAt Go.RowKit Go.Sort
set_option linter.unusedVariables false
set_option linter.unusedSimpArgs false

theorem cells11 {w : World} {g : Nat} {x0 x1 x2 x3 x4 x5 x6 x7 x8 x9 x10 : Value} {T : TypeId} {fr : Nat × Nat} (h : w.heap[g]? = some (.cells #[x0, x1, x2, x3, x4, x5, x6, x7, x8, x9, x10] T fr)) :
    w.cell? ⟨g, 0, none⟩ = some x0 ∧ w.cell? ⟨g, 1, none⟩ = some x1 ∧ w.cell? ⟨g, 2, none⟩ = some x2 ∧ w.cell? ⟨g, 3, none⟩ = some x3 ∧ w.cell? ⟨g, 4, none⟩ = some x4 ∧ w.cell? ⟨g, 5, none⟩ = some x5 ∧ w.cell? ⟨g, 6, none⟩ = some x6 ∧ w.cell? ⟨g, 7, none⟩ = some x7 ∧ w.cell? ⟨g, 8, none⟩ = some x8 ∧ w.cell? ⟨g, 9, none⟩ = some x9 ∧ w.cell? ⟨g, 10, none⟩ = some x10 := by
  refine ⟨?_, ?_, ?_, ?_, ?_, ?_, ?_, ?_, ?_, ?_, ?_⟩ <;> (rw [Lib.cell_of_heap h]; rfl)
theorem frozenN {w : World} {g : Nat} {cs : Array Value} {T : TypeId} (h : w.heap[g]? = some (.cells cs T (0, 0))) (i : Nat) : w.frozen? ⟨g, i, none⟩ = false := Lib.frozen_of_heap h i
theorem set_cells {w : World} {g : Nat} {cs : Array Value} {T : TypeId} {fr : Nat × Nat} (h : w.heap[g]? = some (.cells cs T fr)) (i : Nat) (u : Value) : (w.setCell ⟨g, i, none⟩ u).heap[g]? = some (.cells (cs.setIfInBounds i u) T fr) := by
  simp [World.setCell, Array.getElem?_modify, h]
theorem set_other (w : World) (g i : Nat) (u : Value) {b : Nat} (h : b ≠ g) : (w.setCell ⟨g, i, none⟩ u).heap[b]? = w.heap[b]? := Below.heap_setCell w ⟨g, i, none⟩ u b h
section
variable {w0 w : World} {B mb : Nat} {s : St} {t i r v f nx nm : Value} {rcs vcs fcs : List (List Value)}
theorem Rep.set1 (h : Rep w0 B mb s w t i r v f nx nm rcs vcs fcs) {s' : St} {i' nx' nm' : Value} (k : Nat) (u : Value) (he : (HD s t i r v f nx nm).setIfInBounds k u = HD s' t i' r v f nx' nm') (hs : s'.trace = s.trace ∧ s'.refs = s.refs ∧ s'.vals = s.vals ∧ s'.frames = s.frames)
    (hi : ∃ A c, i' = .slice A s'.input.length c ∧ (s'.input.length ≤ c ∧ c ≤ maxLen) ∧ Rd w 1 A s'.input.length (strs s'.input) ∧ (0 < s'.input.length → ∀ a, A = some a → a.block < B)) (hn : NxR w0 w (Mv mb t r v f) s'.next nx' nm') :
    Rep w0 B mb s' (w.setCell ⟨mb, k, none⟩ u) t i' r v f nx' nm' rcs vcs fcs ∧ Tr w (Mv mb t r v f) (w.setCell ⟨mb, k, none⟩ u) (Mv mb t r v f) ∧ Below B w (w.setCell ⟨mb, k, none⟩ u) :=
  h.head (fun b hb => set_other w mb k u hb) ⟨rfl, rfl, rfl, World.size_setCell _ _ _⟩ (by rw [set_cells h.hd, he]) hs hi hn

theorem stuck_any (h : Rep w0 B mb s w t i r v f nx nm rcs vcs fcs) : Calls Tryz.prog 40 #[.pointer (some ⟨mb, 0, none⟩)] w fun e w' => e = .returned (.tuple #[]) ∧ Post w0 B mb (Mv mb t r v f) w { s with err := 11 } w' := by
  obtain ⟨h1, h2, h3⟩ := h.set1 (s' := { s with err := 11 }) 0 (.int .i64 11) rfl ⟨rfl, rfl, rfl, rfl⟩ h.inp h.nxt
  have HR := Lib.hid (show Post w0 B mb (Mv mb t r v f) w { s with err := 11 } (w.setCell ⟨mb, 0, none⟩ (.int .i64 11)) from ⟨_, _, _, _, _, _, _, _, _, _, h1, h2, h3⟩)
  have c0 := (cells11 h.hd).1
  have z0 := frozenN h.hd 0
  clear h h1 h2 h3
  go_enter Tryz.func40, Tryz.ntmps40
  go_wp2_with fail
  go_returns
  exact ⟨rfl, HR.out⟩
end
end Go.Proofs.YtpdfjdomjklkbaaGreatDoor

namespace Go.Proofs.YtpdfjdomjklkbaaGreatDoor
open Go.ChangeShapes Go.WideShapes Go.ChangeAt Go.RowKit Go.Sort
set_option linter.unusedVariables false
set_option linter.unusedSimpArgs false

theorem heap_new {w : World} {o : Obj} {n : Nat} (h : w.heap.size = n) : (w.alloc o).heap[n]? = some o := by subst h; exact Array.getElem?_push_size
theorem ER.ptr {w0 w : World} {P : Nat → Prop} {e : Env} {u : Value} (h : ER w0 w P e u) : ∃ q, u = .pointer q := by cases h <;> exact ⟨_, rfl⟩
theorem FR.ptr {w0 w : World} {P : Nat → Prop} {e : Option Fnc} {u : Value} (h : FR w0 w P e u) : ∃ q, u = .pointer q := by cases h <;> exact ⟨_, rfl⟩
/-- The cells of a value. -/
theorem VR.six {w0 w : World} {P : Nat → Prop} {z : Val} {cs : List Value} (h : VR w0 w P z cs) : ∃ (A : Option Addr) (c : Nat) (q : Option Addr), cs = [.int .i64 z.sort, .int .i64 z.n, .string (bstr z.s), .slice none 0 0, .slice A z.l.length c, .pointer q] := by
  cases h with
  | mk sort n s l f A c css u len rd bl cap sub fn =>
    obtain ⟨q, rfl⟩ := fn.ptr
    exact ⟨A, c, q, rfl⟩
section
variable {w0 w : World} {B mb : Nat} {s : St} {t i r v f nx nm : Value} {rcs vcs fcs : List (List Value)}
/-- New memory is none that the machine writes. -/
theorem Rep.mvNew (h : Rep w0 B mb s w t i r v f nx nm rcs vcs fcs) (b : Nat) (hb : w.heap.size ≤ b) : Mv mb t r v f b :=
  ⟨by have := h.lt; omega, fun e => by have := (h.tr.lt b e.symm).2; omega, fun e => by have := (h.rr.lt b e.symm).2; omega, fun e => by have := (h.vr.lt b e.symm).2; omega, fun e => by have := (h.fr.lt b e.symm).2; omega⟩
theorem Tr.below {w w' : World} {P : Nat → Prop} (h : Below w.heap.size w w') : Tr w P w' P := fun b hb hl => ⟨hb, h.block b hl⟩
theorem Post.mono {P : Nat → Prop} {s' : St} {w1 w2 : World} (h : Tr w P w1 (Mv mb t r v f)) (hb : Below B w w1) (hp : Post w0 B mb (Mv mb t r v f) w1 s' w2) : Post w0 B mb P w s' w2 := by
  obtain ⟨t', i', r', v', f', nx', nm', rcs', vcs', fcs', h1, h2, h3⟩ := hp
  exact ⟨t', i', r', v', f', nx', nm', rcs', vcs', fcs', h1, h.trans hb.size h2, hb.trans h3⟩
/-- An expression, and what its names have. -/
def EN (w0 w : World) (P : Nat → Prop) (e : Ex) (env : Env) (eb eo : Nat) (u : Value) : Prop := (e.In w0 ∧ e.d.At w0 eb eo) ∧ ER w0 w P env u

theorem begin_any (h : Rep w0 B mb s w t i r v f nx nm rcs vcs fcs) (e : Ex) (env : Env) (eb eo : Nat) (u : Option Addr) (he : EN w0 w (Mv mb t r v f) e env eb eo (.pointer u)) :
    Calls Tryz.prog 38 #[.pointer (some ⟨mb, 0, none⟩), .pointer (some ⟨eb, eo, none⟩), .pointer u] w fun e1 w' => e1 = .returned (.tuple #[]) ∧ Post w0 B mb (Mv mb t r v f) w { s with next := some (e, env) } w' := by
  have hk : ∀ b, b ≠ mb → (((w.setCell ⟨mb, 9, none⟩ (.pointer (some ⟨eb, eo, none⟩))).setCell ⟨mb, 10, none⟩ (.pointer u))).heap[b]? = w.heap[b]? := fun b hb => (set_other _ mb 10 _ hb).trans (set_other _ mb 9 _ hb)
  obtain ⟨h1, h2, h3⟩ := h.head (s' := { s with next := some (e, env) }) (wz := ((w.setCell ⟨mb, 9, none⟩ (.pointer (some ⟨eb, eo, none⟩))).setCell ⟨mb, 10, none⟩ (.pointer u))) hk ⟨rfl, rfl, rfl, by rw [World.size_setCell, World.size_setCell]⟩ (set_cells (set_cells h.hd 9 _) 10 _) ⟨rfl, rfl, rfl, rfl⟩ h.inp ⟨eb, eo, rfl, he.1, he.2⟩
  have HR := Lib.hid (show Post w0 B mb (Mv mb t r v f) w { s with next := some (e, env) } _ from ⟨_, _, _, _, _, _, _, _, _, _, h1, h2, h3⟩)
  have c9 := (cells11 h.hd).2.2.2.2.2.2.2.2.2.1
  have c10 := (cells11 h.hd).2.2.2.2.2.2.2.2.2.2
  have z9 := frozenN h.hd 9
  have z10 := frozenN h.hd 10
  clear h h1 h2 h3 hk he
  go_enter Tryz.func38, Tryz.ntmps38
  go_wp2_with fail
  go_returns
  exact ⟨rfl, HR.out⟩

end
/-- A function's value. -/
theorem fn_val (w0 w w' : World) (P : Nat → Prop) (hP : ∀ b, w.heap.size ≤ b → P b) (self : Str) (isRec : Bool) (x : Str) (e : Ex) (env : Env) (eb eo : Nat) (u : Value) (he : EN w0 w P e env eb eo u) (hb : Below w.heap.size w w') (g : Nat) (hg : w.heap.size ≤ g)
    (hc : w'.heap[g]? = some (.cells #[.string (bstr self), .bool isRec, .string (bstr x), .pointer (some ⟨eb, eo, none⟩), u] 99)) :
    VR w0 w' P (.mk 3 0 [] [] (some (.mk self isRec x e env))) [.int .i64 3, .int .i64 0, .string (bstr []), .slice none 0 0, .slice none 0 0, .pointer (some ⟨g, 0, none⟩)] :=
  .mk 3 0 [] [] _ none 0 [] _ rfl (Rd.nil w' 6 none) (fun h => absurd h (Nat.lt_irrefl 0)) ⟨Nat.le_refl 0, by decide⟩ (fun i v cs h => by simp at h) (.some self isRec x e eb eo env g u hc (hP g hg) he.1 (he.2.keep (Tr.below hb)))

set_option maxHeartbeats 4000000 in
theorem lambda_any (w0 w : World) (P : Nat → Prop) (hP : ∀ b, w.heap.size ≤ b → P b) (x : Str) (e : Ex) (env : Env) (eb eo : Nat) (u : Option Addr) (he : EN w0 w P e env eb eo (.pointer u)) :
    Calls Tryz.prog 43 #[.string (bstr x), .pointer (some ⟨eb, eo, none⟩), .pointer u] w fun e1 w' => ∃ c5 : Value, e1 = .returned (.agg #[.int .i64 3, .int .i64 0, .string (bstr []), .slice none 0 0, .slice none 0 0, c5]) ∧ VR w0 w' P (.mk 3 0 [] [] (some (.mk [] false x e env))) [.int .i64 3, .int .i64 0, .string (bstr []), .slice none 0 0, .slice none 0 0, c5] ∧ Below w.heap.size w w' := by
  have hb : Below w.heap.size w ((w.alloc (.cells #[.int .i64 3, .int .i64 0, .string (bstr []), .slice none 0 0, .slice none 0 0, .pointer (some ⟨w.heap.size + 1, 0, none⟩)] 60)).alloc (.cells #[.string (bstr []), .bool false, .string (bstr x), .pointer (some ⟨eb, eo, none⟩), .pointer u] 99)) :=
    ((Below.refl _ _).alloc (Nat.le_refl _) _).alloc (by rw [World.size_alloc]; omega) _
  have HV := Lib.hid (fn_val w0 w _ P hP [] false x e env eb eo (.pointer u) he hb (w.heap.size + 1) (by omega) (heap_new (World.size_alloc _ _)))
  have HB := Lib.hid hb
  clear hb he hP
  go_enter Tryz.func43, Tryz.ntmps43
  go_wp2_with fail
  go_returns
  exact ⟨_, rfl, HV.out, HB.out⟩

set_option maxHeartbeats 4000000 in
theorem named_any (w0 w : World) (P : Nat → Prop) (hP : ∀ b, w.heap.size ≤ b → P b) (self x : Str) (e : Ex) (env : Env) (eb eo : Nat) (u : Option Addr) (he : EN w0 w P e env eb eo (.pointer u)) :
    Calls Tryz.prog 45 #[.string (bstr self), .string (bstr x), .pointer (some ⟨eb, eo, none⟩), .pointer u] w fun e1 w' => ∃ c5 : Value, e1 = .returned (.agg #[.int .i64 3, .int .i64 0, .string (bstr []), .slice none 0 0, .slice none 0 0, c5]) ∧ VR w0 w' P (.mk 3 0 [] [] (some (.mk self true x e env))) [.int .i64 3, .int .i64 0, .string (bstr []), .slice none 0 0, .slice none 0 0, c5] ∧ Below w.heap.size w w' := by
  have hb : Below w.heap.size w ((w.alloc (.cells #[.int .i64 3, .int .i64 0, .string (bstr []), .slice none 0 0, .slice none 0 0, .pointer (some ⟨w.heap.size + 1, 0, none⟩)] 60)).alloc (.cells #[.string (bstr self), .bool true, .string (bstr x), .pointer (some ⟨eb, eo, none⟩), .pointer u] 99)) :=
    ((Below.refl _ _).alloc (Nat.le_refl _) _).alloc (by rw [World.size_alloc]; omega) _
  have HV := Lib.hid (fn_val w0 w _ P hP self true x e env eb eo (.pointer u) he hb (w.heap.size + 1) (by omega) (heap_new (World.size_alloc _ _)))
  have HB := Lib.hid hb
  clear hb he hP
  go_enter Tryz.func45, Tryz.ntmps45
  go_wp2_with fail
  go_returns
  exact ⟨_, rfl, HV.out, HB.out⟩
section
variable {w0 w : World} {B mb : Nat} {s : St} {t i r v f nx nm : Value} {rcs vcs fcs : List (List Value)}
theorem bind_any (h : Rep w0 B mb s w t i r v f nx nm rcs vcs fcs) (e : Ex) (env : Env) (eb eo : Nat) (u : Option Addr) (he : EN w0 w (Mv mb t r v f) e env eb eo (.pointer u)) (x : Str) (z : Val) (c0 c1 c2 c3 c4 c5 : Value) (hz : VR w0 w (Mv mb t r v f) z [c0, c1, c2, c3, c4, c5]) :
    Calls Tryz.prog 44 #[.pointer (some ⟨mb, 0, none⟩), .pointer (some ⟨eb, eo, none⟩), .pointer u, .string (bstr x), .agg #[c0, c1, c2, c3, c4, c5]] w fun e1 w' => e1 = .returned (.tuple #[]) ∧ Post w0 B mb (Mv mb t r v f) w { s with next := some (e, (x, z) :: env) } w' := by
  have hb : Below w.heap.size w ((w.alloc (.cells #[c0, c1, c2, c3, c4, c5] 60)).alloc (.cells #[.string (bstr x), c0, c1, c2, c3, c4, c5, .pointer u] 97)) :=
    ((Below.refl _ _).alloc (Nat.le_refl _) _).alloc (by rw [World.size_alloc]; omega) _
  have hen : EN w0 ((w.alloc (.cells #[c0, c1, c2, c3, c4, c5] 60)).alloc (.cells #[.string (bstr x), c0, c1, c2, c3, c4, c5, .pointer u] 97)) (Mv mb t r v f) e ((x, z) :: env) eb eo (.pointer (some ⟨w.heap.size + 1, 0, none⟩)) :=
    ⟨he.1, .cons x z env (w.heap.size + 1) c0 c1 c2 c3 c4 c5 (.pointer u) (heap_new (World.size_alloc _ _)) (h.mvNew _ (by omega)) (hz.keep (Tr.below hb)) (he.2.keep (Tr.below hb))⟩
  have HC := Lib.hid (begin_any (h.below hb) e ((x, z) :: env) eb eo (some ⟨w.heap.size + 1, 0, none⟩) hen)
  have HT := Lib.hid (And.intro (Tr.below (P := Mv mb t r v f) hb) (hb.mono (Nat.le_of_lt (Nat.lt_of_le_of_lt h.base.2 h.lt))))
  obtain ⟨A6, k6, q6, e6⟩ := hz.six
  simp only [List.cons.injEq, and_true] at e6
  obtain ⟨rfl, rfl, rfl, rfl, rfl, rfl⟩ := e6
  clear h he hz hb hen
  go_enter Tryz.func44, Tryz.ntmps44
  go_wp2_with (go_at_call 38; (with_reducible refine HC.out.mono ?_); rintro e1 w1 ⟨rfl, hp⟩; have HP := Lib.hid hp; clear hp HC)
  go_returns
  exact ⟨rfl, HP.out.mono HT.out.1 HT.out.2⟩

def St.ifd (s : St) (z : Val) (e1 e2 : Ex) (env : Env) : St := if z.sort = 1 then (if z.n = 0 then { s with next := some (e2, env) } else { s with next := some (e1, env) }) else { s with err := 11 }
theorem if_any (h : Rep w0 B mb s w t i r v f nx nm rcs vcs fcs) (e1 e2 : Ex) (env : Env) (b1 o1 b2 o2 : Nat) (u : Option Addr) (h1 : EN w0 w (Mv mb t r v f) e1 env b1 o1 (.pointer u)) (h2 : EN w0 w (Mv mb t r v f) e2 env b2 o2 (.pointer u)) (z : Val) (A : Option Addr) (c : Nat) (q : Option Addr) :
    Calls Tryz.prog 50 #[.pointer (some ⟨mb, 0, none⟩), .agg #[.int .i64 z.sort, .int .i64 z.n, .string (bstr z.s), .slice none 0 0, .slice A z.l.length c, .pointer q], .pointer (some ⟨b1, o1, none⟩), .pointer (some ⟨b2, o2, none⟩), .pointer u] w fun e w' => e = .returned (.tuple #[]) ∧ Post w0 B mb (Mv mb t r v f) w (s.ifd z e1 e2 env) w' := by
  have hb : Below w.heap.size w (w.alloc (.cells #[.int .i64 z.sort, .int .i64 z.n, .string (bstr z.s), .slice none 0 0, .slice A z.l.length c, .pointer q] 60)) := (Below.refl _ _).alloc (Nat.le_refl _) _
  have HC0 := Lib.hid (stuck_any (h.below hb))
  have HC1 := Lib.hid (begin_any (h.below hb) e1 env b1 o1 u ⟨h1.1, h1.2.keep (Tr.below hb)⟩)
  have HC2 := Lib.hid (begin_any (h.below hb) e2 env b2 o2 u ⟨h2.1, h2.2.keep (Tr.below hb)⟩)
  have HT := Lib.hid (And.intro (Tr.below (P := Mv mb t r v f) hb) (hb.mono (Nat.le_of_lt (Nat.lt_of_le_of_lt h.base.2 h.lt))))
  clear h h1 h2 hb
  by_cases hs : z.sort = 1
  · by_cases hn : z.n = 0
    · have e : s.ifd z e1 e2 env = { s with next := some (e2, env) } := by rw [St.ifd, if_pos hs, if_pos hn]
      rw [e]; clear e
      rw [hs, hn] at HC0 HC1 HC2 HT ⊢
      clear hs hn
      go_enter Tryz.func50, Tryz.ntmps50
      go_wp2_with (go_at_call 38; (with_reducible refine HC2.out.mono ?_); rintro e1 w1 ⟨rfl, hp⟩; have HP := Lib.hid hp; clear hp HC2)
      go_returns
      exact ⟨rfl, HP.out.mono HT.out.1 HT.out.2⟩
    · have e : s.ifd z e1 e2 env = { s with next := some (e1, env) } := by rw [St.ifd, if_pos hs, if_neg hn]
      rw [e]; clear e
      rw [hs] at HC0 HC1 HC2 HT ⊢
      clear hs
      go_enter Tryz.func50, Tryz.ntmps50
      go_wp2_with (go_at_call 38; (with_reducible refine HC1.out.mono ?_); rintro e1 w1 ⟨rfl, hp⟩; have HP := Lib.hid hp; clear hp HC1)
      go_returns
      exact ⟨rfl, HP.out.mono HT.out.1 HT.out.2⟩
  · have e : s.ifd z e1 e2 env = { s with err := 11 } := by rw [St.ifd, if_neg hs]
    rw [e]; clear e
    go_enter Tryz.func50, Tryz.ntmps50
    go_wp2_with (go_at_call 40; (with_reducible refine HC0.out.mono ?_); rintro e1 w1 ⟨rfl, hp⟩; have HP := Lib.hid hp; clear hp HC0)
    go_returns
    exact ⟨rfl, HP.out.mono HT.out.1 HT.out.2⟩
end
end Go.Proofs.YtpdfjdomjklkbaaGreatDoor
