/-
  Small lemmas on worlds that every text of this seat uses. Plain, about no program.
  What a slice holds: 'Rd w size A n cs': the slice with address A and length n holds the cells cs (size cells an element); and how that lasts.
  Strings and lists of strings: how they lie, and how two are held against each other. About no program.
  Expressions as they lie in memory: their own fields, their parts.
  The tokens of a text, and quoted texts, by themselves: about no program.
  Sets of labels, as lists in order: what sorting, adding and choosing make of them. About no program.
  What the document says of expressions: whether one may be, how deep it is, how many nodes it has, what is free in it. About no program.
  Arguments opened: a slice that came in, whatever its elements.
  Bytes as they lie; a part of them as a text; bytes that came in.
  What a byte is, by the code and by the document's answer; where bytes of a kind end.
-/
import Derived.Test.YtaglmmcjhlehjaaGreatDoorRows
import Derived.WalkKit
import Derived.ProofKit
import Derived.OpenShut
import Derived.Handy
import Derived.Lib.Hide
import Derived.Deep.QuietTactic
import Derived.Deep.Draws
import Derived.BigQuiet
import Derived.Maps.AppendAt
import Derived.Deep.AppendLies
import Derived.Laws.Cover1
import Derived.Lib.ParseIntB
import Derived.Lib.SlicesCompact
import Derived.Deep.Slices
import Derived.Deep.Fields
import Derived.Lib.SmallJoins
import Derived.Laws.IdiomStrings
namespace Go.Proofs.YtaglmmcjhlehjaaGreatDoor
open Go.ChangeShapes Go.WideShapes Go.ChangeAt Go.RowKit
set_option linter.unusedVariables false

theorem below_drewN {B : Nat} {a w : World} (h : Below B a w) (n : Nat) : Below B a (w.drewN n) := ⟨h.os, h.tape, h.output, h.size, h.block⟩
/-- What turned nothing that was there, and then again. -/
theorem below_then {a b c : World} (h : Below a.heap.size a b) (k : Below b.heap.size b c) : Below a.heap.size a c := h.trans (k.mono h.size)
theorem below_cells {W w1 : World} (hb : Below W.heap.size W w1) : (∀ b o, b < W.heap.size → w1.cell? ⟨b, o, none⟩ = W.cell? ⟨b, o, none⟩) ∧ (∀ b o, b < W.heap.size → w1.frozen? ⟨b, o, none⟩ = W.frozen? ⟨b, o, none⟩) :=
  ⟨fun b o h => hb.cell (p := ⟨b, o, none⟩) h, fun b o h => hb.frozen (p := ⟨b, o, none⟩) h⟩
theorem ret_eq {u v : Value} (h : u = v) : Ending.returned u = .returned v := by rw [h]
theorem cell_below {w w' : World} {p : Addr} {v : Value} (hb : Below w.heap.size w w') (h : w.cell? p = some v) : w'.cell? p = some v := (hb.cell (World.block_lt_of_cell? w p h)).trans h
theorem cell_alloc {w : World} {p : Addr} {v : Value} {o : Obj} (h : w.cell? p = some v) : (w.alloc o).cell? p = some v := by rw [World.cell?_alloc_lt w o p (World.block_lt_of_cell? w p h)]; exact h
theorem cell_new (w : World) (C : Array Value) (t : TypeId) (j : Nat) {v : Value} (h : C[j]? = some v) {fr : Nat × Nat} : (w.alloc (.cells C t fr)).cell? ⟨w.heap.size, j, none⟩ = some v := by rw [World.cell?_alloc_mark]; exact h

end Go.Proofs.YtaglmmcjhlehjaaGreatDoor

namespace Go.Proofs.YtaglmmcjhlehjaaGreatDoor
open Go.ChangeShapes Go.WideShapes Go.ChangeAt Go.RowKit
set_option linter.unusedVariables false

@[go_sem] theorem add_block (a : Addr) (n : Nat) : (a.add n).block = a.block := by unfold Addr.add; split <;> rfl
theorem add_add (a : Addr) (i j : Nat) : (a.add i).add j = a.add (i + j) := by
  unfold Addr.add
  by_cases hi : i = 0
  · subst hi; simp
  · by_cases hj : j = 0
    · subst hj; simp [hi]
    · simp [hi, hj, Nat.add_assoc]
theorem add_zero (a : Addr) : a.add 0 = a := by simp [Addr.add]

/-- The cells from an address on. -/
def Held (w : World) (a : Addr) (cs : List Value) : Prop := ∀ j u, cs[j]? = some u → w.cell? (a.add j) = some u

/-- What a slice holds. -/
def Rd (w : World) (size : Nat) (A : Option Addr) (n : Nat) (cs : List Value) : Prop :=
  cs.length = n * size ∧ (0 < cs.length → ∃ a, A = some a ∧ Held w a cs)

section
variable {w w' : World} {size n : Nat} {A : Option Addr} {cs : List Value}
theorem Held.block {a : Addr} (h : Held w a cs) (h0 : 0 < cs.length) : a.block < w.heap.size := by
  have h1 := h 0 cs[0] (List.getElem?_eq_getElem h0)
  rw [add_zero] at h1
  exact World.block_lt_of_cell? w a h1
theorem Held.keep {a : Addr} (h : Held w a cs) (h0 : 0 < cs.length) (hk : ∀ p : Addr, p.block < w.heap.size → w'.cell? p = w.cell? p) : Held w' a cs :=
  fun j u hu => (hk _ (by rw [add_block]; exact h.block h0)).trans (h j u hu)
theorem Rd.nil (w : World) (size : Nat) (A : Option Addr) : Rd w size A 0 [] := ⟨by simp, fun h => absurd h (by simp)⟩
theorem Rd.len (h : Rd w size A n cs) : cs.length = n * size := h.1
theorem Rd.keep (h : Rd w size A n cs) (hk : ∀ p : Addr, p.block < w.heap.size → w'.cell? p = w.cell? p) : Rd w' size A n cs :=
  ⟨h.1, fun hn => let ⟨a, e, hc⟩ := h.2 hn; ⟨a, e, hc.keep hn hk⟩⟩
theorem Rd.below (h : Rd w size A n cs) (hb : Below w.heap.size w w') : Rd w' size A n cs := h.keep fun _ hp => hb.cell hp
theorem Rd.drewN (h : Rd w size A n cs) (k : Nat) : Rd (w.drewN k) size A n cs := h
theorem Rd.drew (h : Rd w size A n cs) : Rd w.drew size A n cs := h
theorem Rd.alloc (h : Rd w size A n cs) (o : Obj) : Rd (w.alloc o) size A n cs := h.keep fun p hp => World.cell?_alloc_lt w o p (by omega)
theorem Rd.at_ (h : Rd w size A n cs) {k : Nat} (hk : k < cs.length) : ∃ a u, A = some a ∧ cs[k]? = some u ∧ w.cell? (a.add k) = some u := by
  obtain ⟨a, e, hc⟩ := h.2 (by omega)
  exact ⟨a, cs[k], e, List.getElem?_eq_getElem hk, hc k _ (List.getElem?_eq_getElem hk)⟩
theorem Rd.addr (h : Rd w size A n cs) (h0 : 0 < cs.length) : ∃ a, A = some a ∧ a.block < w.heap.size ∧ Held w a cs := by
  obtain ⟨a, e, hc⟩ := h.2 h0
  exact ⟨a, e, hc.block h0, hc⟩
theorem Rd.of_own {base : Nat} {e : TypeId} {c : Nat} (h : w.ownsRow base e size (.slice A n c) n cs) : Rd w size A n cs := by
  refine ⟨h.1, fun hn => ?_⟩
  rcases h.2 with ⟨hv, h0⟩ | ⟨g, cap, cur, hv, hb, hg, hnc, hcm, hcs, ht⟩
  · have := h.1; rw [h0] at this; omega
  · have hA : A = some ⟨g, 0, none⟩ := by injection hv
    subst hA
    exact ⟨_, rfl, h.cells (g := g) rfl⟩
end
/-- What the walk wants to know of a slice's type: t is the slice's number, e its element's, z the element's zero. -/
structure ElemTy (P : Program) (t e : TypeId) (z : Value) (size bytes : Nat) : Prop where
  under : P.underlying t = some (.slice e)
  info : (P.info? e).map (fun i => (i.zero, i.size, i.bytes)) = some (some z, size, bytes)
  zs : z.cells.size = size
  pos : 0 < size
  posb : 0 < bytes

/-- A literal's row, just made. -/
theorem Rd.lit (w : World) (cs : Array Value) (e : TypeId) {size n : Nat} (h : cs.size = n * size) {fr : Nat × Nat} : Rd (w.alloc (.cells cs e fr)) size (some ⟨w.heap.size, 0, none⟩) n cs.toList := by
  refine ⟨by simpa using h, fun _ => ⟨_, rfl, fun j u hu => ?_⟩⟩
  rw [Addr.add_lit, Nat.zero_add]
  rw [World.cell?_alloc_mark]
  simpa using hu

theorem own_below {base : Nat} {e : TypeId} {size n : Nat} {v : Value} {xs : List Value} {w w' : World} (h : w.ownsRow base e size v n xs) (hb : Below w.heap.size w w') : w'.ownsRow base e size v n xs := by
  refine ⟨h.1, ?_⟩
  rcases h.2 with hn | ⟨g, cap, cur, rfl, hb', hgg, rest⟩
  · exact .inl hn
  · exact .inr ⟨g, cap, cur, rfl, hb', (hb.block g (Array.getElem?_eq_some_iff.1 hgg).1).trans hgg, rest⟩

theorem own_cap {base : Nat} {e : TypeId} {size n : Nat} {v : Value} {xs : List Value} {w : World} (h : w.ownsRow base e size v n xs) : ∃ A c, v = .slice A n c ∧ n ≤ c ∧ c ≤ maxLen ∧ (A = none → c = 0) := by
  rcases h.2 with ⟨rfl, rfl⟩ | ⟨g, cap, cur, rfl, hb', hgg, h1, h2, _⟩
  · exact ⟨none, 0, rfl, Nat.le_refl _, by simp [maxLen], fun _ => rfl⟩
  · exact ⟨_, cap, rfl, h1, h2, fun h => by cases h⟩

/-- 'append' onto a row of the call's own, of a slice that is nil, empty, or not. -/
theorem run_app {P : Program} {t e : TypeId} {z : Value} {size bytes : Nat} (T : ElemTy P t e z size bytes) (w : World) (ty : TypeId) (base : Nat)
    (v : Value) (n : Nat) (xs : List Value) (hown : w.ownsRow base e size v n xs) (A : Option Addr) (m c : Nat) (news : List Value) (hr : Rd w size A m news) (h1 : ∀ u ∈ news, u.oneCell' = true)
    (hbytes : (n + m) * bytes ≤ 140737488355328) (hbase : base ≤ w.heap.size) :
    ∃ v' w', (Builtin.append_ #[t, t] ty #[v, .slice A m c]).run P w = .ok v' w' ∧ w'.ownsRow base e size v' (n + m) (xs ++ news) ∧ w.grownBy w' v.ownBlock ∧ (v'.ownBlock = v.ownBlock ∨ v'.ownBlock = some w.heap.size) := by
  obtain ⟨i, hi, hz, hs, hb⟩ := info_parts T.info
  have h63 : n + m ≤ maxLen := by
    have := Nat.le_mul_of_pos_right (n + m) T.posb
    simp only [maxLen]; omega
  rcases Nat.eq_zero_or_pos m with h0 | h0
  · subst h0
    have hn : news = [] := List.eq_nil_of_length_eq_zero (by have := hr.1; omega)
    subst hn
    have hrun : (Builtin.append_ #[t, t] ty #[v, .slice A 0 c]).run P w = .ok v w := by
      rcases hown.2 with ⟨rfl, rfl⟩ | ⟨g, cap, cur, rfl, _, _, hnc, _⟩
      · cases A with
        | none => simp [Builtin.append_, run_underlying T.under, sizeOf, typeInfo, hi, Builtin.lenOf, Builtin.firstCells]
        | some a => simp [Builtin.append_, run_underlying T.under, sizeOf, typeInfo, hi, Builtin.lenOf, Builtin.firstCells, loadCells, loadCellsFrom]
      · cases A with
        | none => simp [Builtin.append_, run_underlying T.under, sizeOf, typeInfo, hi, Builtin.lenOf, Builtin.firstCells, hnc, storeCells]
        | some a => simp [Builtin.append_, run_underlying T.under, sizeOf, typeInfo, hi, Builtin.lenOf, Builtin.firstCells, hnc, storeCells, loadCells, loadCellsFrom]
    exact ⟨v, w, hrun, by simpa using hown, World.grownBy.refl w _, .inl rfl⟩
  · have hl : 0 < news.length := by rw [hr.1]; exact Nat.mul_pos h0 T.pos
    obtain ⟨a, rfl, hh⟩ := hr.2 hl
    obtain ⟨v', w', h2, h3, h4, _, h5⟩ := run_append_own_at (P := P) w base t ty e i z size bytes T.under hi hz hs hb T.zs T.pos v n xs hown a m c news hr.1 hh h1 h63 hbytes hbase
    exact ⟨v', w', h2, h3, h4, h5⟩

theorem wpList_app {P : Program} {t e : TypeId} {z : Value} {size bytes : Nat} (T : ElemTy P t e z size bytes) (w : World) {ops : Array Oper} {rest : List Oper} {o : Oper} {a : Act} {Q : Exit → Act → World → Prop} (hgd : o.guard = none) (s x : Operand)
    (ho : o.op = .call { callee := .builtin .append, args := #[s, x], argTypes := #[t, t] }) (base : Nat)
    (v : Value) (n : Nat) (xs : List Value) (hs : a.eval s = v) (hown : w.ownsRow base e size v n xs) (A : Option Addr) (m c : Nat) (news : List Value) (hx : a.eval x = .slice A m c) (hr : Rd w size A m news) (h1 : ∀ u ∈ news, u.oneCell' = true)
    (hbytes : (n + m) * bytes ≤ 140737488355328) (hbase : base ≤ w.heap.size)
    (h : ∀ v' w', w'.ownsRow base e size v' (n + m) (xs ++ news) → Below base w w' → w.grownBy w' v.ownBlock → (v'.ownBlock = v.ownBlock ∨ v'.ownBlock = some w.heap.size) → wpList P ops Q rest (a.put o.dst v') w') : wpList P ops Q (o :: rest) a w :=
  wpList_plain hgd fun _ hK => by
    obtain ⟨v', w', hrun, h2, h3, h4⟩ := run_app T w o.type base v n xs hown A m c news hr h1 hbytes hbase
    unfold Oper.wp execOp
    simp only [ho, resolve, invoke, builtin, Sem.run_bind, Sem.run_pure, Result.andThen_ok, List.map_toArray, List.map_cons, List.map_nil, hs, hx, hrun]
    exact hK _ _ (h v' w' h2 ((Below.refl _ _).grown h3 hbase (fun k hk => (hown.lt k hk).1)) h3 h4)
/-- n zeros, as cells. -/
def zeros (z : Value) : Nat → List Value
  | 0 => []
  | n + 1 => z.cells.toList ++ zeros z n
theorem zeros_length (z : Value) : ∀ n, (zeros z n).length = n * z.cells.size
  | 0 => by simp [zeros]
  | n + 1 => by simp only [zeros, List.length_append, zeros_length z n, Nat.add_mul]; simp; omega
theorem zeros_at (z : Value) : ∀ (n j : Nat), j < n * z.cells.size → (zeros z n)[j]? = z.cells[j % z.cells.size]?
  | 0, j, h => by omega
  | n + 1, j, h => by
    rw [Nat.add_mul] at h
    simp only [zeros, List.getElem?_append]
    by_cases hj : j < z.cells.size
    · rw [if_pos (by simpa using hj), Nat.mod_eq_of_lt hj]; simp
    · rw [if_neg (by simpa using hj)]
      have hlen : z.cells.toList.length = z.cells.size := by simp
      rw [hlen, zeros_at z n (j - z.cells.size) (by omega)]
      congr 1
      rw [Nat.mod_eq_sub_mod (by omega : j ≥ z.cells.size)]
theorem madeCells_zeros (z : Value) (n : Nat) (h : 0 < z.cells.size) : (madeCells z.cells (n * z.cells.size)).toList = zeros z n := by
  apply List.ext_getElem?
  intro j
  by_cases hj : j < n * z.cells.size
  · rw [zeros_at z n j hj]
    have hm : j % z.cells.size < z.cells.size := Nat.mod_lt _ h
    simp [madeCells, hj, hm]
  · rw [List.getElem?_eq_none (by simpa [madeCells] using hj), List.getElem?_eq_none (by rw [zeros_length]; omega)]

theorem below_of_grown {w w' : World} {row : Option Nat} {B : Nat} (hg : w.grownBy w' row) (hB : B ≤ w.heap.size) (hr : ∀ k, row = some k → B ≤ k) : Below B w w' :=
  (Below.refl B w).grown hg hB hr

/-- 'make([]T, n, m)', n and m variables. -/
theorem wpList_mk {P : Program} {t e : TypeId} {z : Value} {size bytes : Nat} (T : ElemTy P t e z size bytes) (w : World) {ops : Array Oper} {rest : List Oper} {o : Oper} {a : Act} {Q : Exit → Act → World → Prop} (hgd : o.guard = none) (l c : Operand)
    (hop : o.op = Op.makeSlice t l c) (base : Nat) (kl kc : IntKind) (L C : Int) (n m : Nat) (hl : a.eval l = .int kl L) (hc : a.eval c = .int kc C) (hL : L = (n : Int)) (hC : C = (m : Int)) (hnm : n ≤ m) (hbytes : bytes * m ≤ 281474976710656) (hbase : base ≤ w.heap.size)
    (hK : ∀ w', w'.ownsRow base e size (.slice (some ⟨w.heap.size, 0, none⟩) n m) n (zeros z n) → Below w.heap.size w w' → w.heap.size < w'.heap.size → wpList P ops Q rest (a.put o.dst (.slice (some ⟨w.heap.size, 0, none⟩) n m)) w') :
    wpList P ops Q (o :: rest) a w := by
  obtain ⟨i, hi, hz, hs, hb⟩ := info_parts T.info
  have hpos := T.pos
  have hposb := T.posb
  have hzs := T.zs
  have hmm : m ≤ 281474976710656 := Nat.le_trans (by have := Nat.le_mul_of_pos_left m hposb; omega) hbytes
  have hbb : (bytes : Int) * (m : Int) ≤ 281474976710656 := by
    have h : ((bytes * m : Nat) : Int) ≤ 281474976710656 := by omega
    rwa [Int.natCast_mul] at h
  refine wpList_plain hgd fun K hK' => ?_
  subst hL
  subst hC
  have hrun := run_make (P := P) w t e i z T.under hi hz kl kc (n : Int) (m : Int) (by omega) (by omega) (by rw [hb]; exact hbb) (by omega)
  rw [hs] at hrun
  simp only [Int.toNat_natCast] at hrun
  unfold Oper.wp
  simp [execOp, hop, hl, hc, hrun, Result.andThen]
  refine hK' _ _ (hK _ ⟨by rw [zeros_length, hzs], .inr ⟨w.heap.size, m, _, rfl, hbase, heap_alloc_new w _, hnm, by simp only [maxLen]; omega, size_madeCells _ _, ?_⟩⟩ ((Below.refl _ _).alloc (Nat.le_refl _) _) (by simp))
  have e1 := madeCells_zeros z m (by omega)
  rw [hzs] at e1
  rw [e1]
  obtain ⟨d, rfl⟩ : ∃ d, m = n + d := ⟨m - n, by omega⟩
  clear hrun e1 hbytes hnm hmm hK hl hc hbb
  induction n with
  | zero => simp [zeros]
  | succ n ih =>
    rw [show n + 1 + d = (n + d) + 1 from by omega]
    simp only [zeros, Nat.add_mul]
    rw [show n * size + 1 * size = z.cells.toList.length + n * size from by simp [hzs]; omega, List.take_length_add_append, ih]

/-- A part of a slice. -/
theorem Rd.cut {w : World} {size n : Nat} {A : Option Addr} {cs : List Value} (h : Rd w size A n cs) {lo hi k : Nat} (h1 : lo ≤ hi) (h2 : hi ≤ n) (hk : k = lo * size) : Rd w size (A.map (fun x => x.add k)) (hi - lo) ((cs.drop (lo * size)).take ((hi - lo) * size)) := by
  subst hk
  have e1 : (hi - lo) * size ≤ n * size - lo * size := by rw [← Nat.sub_mul]; exact Nat.mul_le_mul_right _ (by omega)
  refine ⟨by rw [List.length_take, List.length_drop, h.1]; omega, fun h0 => ?_⟩
  obtain ⟨a, rfl, hh⟩ := h.2 (by rw [List.length_take, List.length_drop] at h0; omega)
  refine ⟨_, rfl, fun j u hu => ?_⟩
  rw [add_add]
  refine hh _ u ?_
  rw [List.getElem?_take] at hu
  split at hu
  · rwa [List.getElem?_drop] at hu
  · cases hu
/-- 's[lo:]', as the model has it. -/
theorem Rd.from_ {w : World} {size n c : Nat} {A : Option Addr} {cs : List Value} (h : Rd w size A n cs) {lo k : Nat} (h1 : lo ≤ n) (hc : n ≤ c) (hk : k = lo * size) : Rd w size (if c = lo then A else A.map (fun x => x.add k)) (n - lo) (cs.drop (lo * size)) := by
  have h2 := h.cut (lo := lo) (hi := n) h1 (Nat.le_refl _) hk
  have e : (cs.drop (lo * size)).take ((n - lo) * size) = cs.drop (lo * size) := by
    apply List.take_of_length_le
    rw [List.length_drop, h.1, Nat.sub_mul]; exact Nat.le_refl _
  rw [e] at h2
  split
  · obtain rfl : n = lo := by omega
    refine ⟨h2.1, fun h0 => ?_⟩
    have := h2.1
    simp only [Nat.sub_self, Nat.zero_mul] at this
    omega
  · exact h2
/-- A slice that holds something: its address written out. -/
theorem Rd.base {w : World} {size n : Nat} {A : Option Addr} {cs : List Value} (h : Rd w size A n cs) (h0 : 0 < cs.length) : ∃ b o, A = some ⟨b, o, none⟩ ∧ b < w.heap.size ∧ ∀ j u, cs[j]? = some u → w.cell? ⟨b, o + j, none⟩ = some u := by
  obtain ⟨⟨b, o, s⟩, rfl, hb, hh⟩ := h.addr h0
  have h1 := hh 0 cs[0] (List.getElem?_eq_getElem h0)
  rw [add_zero] at h1
  have hs : s = none := by simpa using World.cell?_spot h1
  subst hs
  refine ⟨b, o, rfl, hb, fun j u hu => ?_⟩
  have := hh j u hu
  rwa [Addr.add_lit] at this
end Go.Proofs.YtaglmmcjhlehjaaGreatDoor

namespace Go.Proofs.YtaglmmcjhlehjaaGreatDoor
open Go.RowKit
set_option linter.unusedVariables false

abbrev Str := List UInt8
def bstr (l : Str) : ByteArray := ⟨l.toArray⟩
theorem bstr_toList (l : Str) : (bstr l).toList = l := by rw [ByteArray.toList_eq]; simp [bstr]
theorem bstr_data (l : Str) : (bstr l).data.toList = l := by simp [bstr]
theorem bstr_size (l : Str) : (bstr l).size = l.length := by simp [bstr, ByteArray.size]
theorem bstr_inj {a b : Str} (h : bstr a = bstr b) : a = b := by have := congrArg ByteArray.toList h; rwa [bstr_toList, bstr_toList] at this
theorem bstr_of (s : ByteArray) : bstr s.data.toList = s := by simp [bstr]

/-- The cells of a list of strings. -/
def strs (l : List Str) : List Value := l.map fun s => .string (bstr s)
theorem strs_length (l : List Str) : (strs l).length = l.length := by simp [strs]
theorem strs_append (a b : List Str) : strs (a ++ b) = strs a ++ strs b := by simp [strs]
theorem strs_one (l : List Str) : ∀ u ∈ strs l, u.oneCell' = true := by
  intro u hu; obtain ⟨_, _, rfl⟩ := List.mem_map.1 hu; rfl
theorem strs_at (l : List Str) (k : Nat) (h : k < l.length) : (strs l)[k]? = some (.string (bstr l[k])) := by simp [strs, h]
theorem strs_cut (l : List Str) (lo n : Nat) : ((strs l).drop (lo * 1)).take (n * 1) = strs ((l.drop lo).take n) := by simp [strs, List.map_take, List.map_drop]
theorem strs_drop (l : List Str) (lo : Nat) : (strs l).drop (lo * 1) = strs (l.drop lo) := by simp [strs, List.map_drop]
theorem strs_take (l : List Str) (n : Nat) : (strs l).take (n * 1) = strs (l.take n) := by simp [strs, List.map_take]

/-- The first string's bytes come before the second's. -/
def slt (a b : Str) : Bool := Op.bytesLess a b
theorem bytesLess_bstr (a b : Str) : Op.bytesLess (bstr a).toList (bstr b).toList = slt a b := by rw [bstr_toList, bstr_toList]; rfl
theorem beq_bstr (a b : Str) : ((bstr a).toList == (bstr b).toList) = decide (a = b) := by
  rw [bstr_toList, bstr_toList, Bool.eq_iff_iff, beq_iff_eq, decide_eq_true_eq]

theorem slt_eq : ∀ a b : Str, slt a b = decide (a < b)
  | [], [] => by simp [slt, Op.bytesLess]
  | _ :: _, [] => by simp [slt, Op.bytesLess]
  | [], _ :: _ => by simp [slt, Op.bytesLess]
  | x :: a, y :: b => by
    have ih := slt_eq a b
    unfold slt at ih ⊢
    rw [Op.bytesLess, ih, Bool.eq_iff_iff]
    simp [List.cons_lt_cons_iff]

theorem slt_irrefl (a : Str) : slt a a = false := by rw [slt_eq, decide_eq_false_iff_not]; exact List.lt_irrefl a
theorem slt_trans {a b c : Str} (h : slt a b = true) (k : slt b c = true) : slt a c = true := by
  rw [slt_eq, decide_eq_true_eq] at *; exact List.lt_trans h k
theorem slt_tri {a b : Str} (h : slt a b = false) (k : slt b a = false) : a = b := by
  rw [slt_eq, decide_eq_false_iff_not] at *
  exact List.le_antisymm (List.not_lt.1 k) (List.not_lt.1 h)
theorem slt_asymm {a b : Str} (h : slt a b = true) : slt b a = false := by
  cases k : slt b a with
  | false => rfl
  | true => have := slt_trans h k; rw [slt_irrefl] at this; cases this
theorem slt_ne {a b : Str} (h : slt a b = true) : a ≠ b := by rintro rfl; rw [slt_irrefl] at h; cases h
end Go.Proofs.YtaglmmcjhlehjaaGreatDoor

namespace Go.Proofs.YtaglmmcjhlehjaaGreatDoor
open Go.ChangeShapes Go.WideShapes Go.ChangeAt Go.RowKit
set_option linter.unusedVariables false
set_option linter.unusedSimpArgs false

/-- An expression's own fields, and where its lists lie. -/
structure ExD where
  kind : Int
  at_ : Int
  n : Int
  s : Str
  t : Str
  lA : Option Addr
  ln : Nat
  lc : Nat
  labels : List Str
  nA : Option Addr
  nn : Nat
  nc : Nat
  names : List Str
  pA : Option Addr
  pn : Nat
  pc : Nat
inductive Ex where
  | mk (d : ExD) (l : List Ex)
def Ex.d : Ex → ExD
  | .mk d _ => d
def Ex.l : Ex → List Ex
  | .mk _ l => l
def ExD.cells (d : ExD) : List Value := [.int .i64 d.kind, .int .i64 d.at_, .int .i64 d.n, .string (bstr d.s), .string (bstr d.t), .slice d.lA d.ln d.lc, .slice d.nA d.nn d.nc, .slice d.pA d.pn d.pc]
def Ex.cells (e : Ex) : List Value := e.d.cells
abbrev ExD.arr (d : ExD) : Array Value := #[.int .i64 d.kind, .int .i64 d.at_, .int .i64 d.n, .string (bstr d.s), .string (bstr d.t), .slice d.lA d.ln d.lc, .slice d.nA d.nn d.nc, .slice d.pA d.pn d.pc]
theorem Ex.cells_len (e : Ex) : e.cells.length = 8 := rfl

inductive Ex.In (w : World) : Ex → Prop
  | mk (d : ExD) (l : List Ex) (lab : Rd w 1 d.lA d.ln (strs d.labels)) (nam : Rd w 1 d.nA d.nn (strs d.names)) (par : Rd w 8 d.pA d.pn (l.flatMap Ex.cells))
      (cap : (d.ln ≤ d.lc ∧ d.lc ≤ maxLen ∧ d.ln ≤ 9223372036854775807) ∧ (d.nn ≤ d.nc ∧ d.nc ≤ maxLen ∧ d.nn ≤ 9223372036854775807) ∧ (d.pn ≤ d.pc ∧ d.pc ≤ maxLen ∧ d.pn ≤ 9223372036854775807) ∧ d.s.length ≤ 9223372036854775807 ∧ d.t.length ≤ 9223372036854775807 ∧ (∀ s ∈ d.labels, s.length ≤ 9223372036854775807) ∧ (∀ s ∈ d.names, s.length ≤ 9223372036854775807))
      (sub : ∀ x ∈ l, Ex.In w x) : Ex.In w (.mk d l)
theorem Ex.In.lab {w : World} {e : Ex} (h : e.In w) : Rd w 1 e.d.lA e.d.ln (strs e.d.labels) := by cases h; assumption
theorem Ex.In.nam {w : World} {e : Ex} (h : e.In w) : Rd w 1 e.d.nA e.d.nn (strs e.d.names) := by cases h; assumption
theorem Ex.In.par {w : World} {e : Ex} (h : e.In w) : Rd w 8 e.d.pA e.d.pn (e.l.flatMap Ex.cells) := by cases h; assumption
theorem Ex.In.cap {w : World} {e : Ex} (h : e.In w) : (e.d.ln ≤ e.d.lc ∧ e.d.lc ≤ maxLen ∧ e.d.ln ≤ 9223372036854775807) ∧ (e.d.nn ≤ e.d.nc ∧ e.d.nc ≤ maxLen ∧ e.d.nn ≤ 9223372036854775807) ∧ (e.d.pn ≤ e.d.pc ∧ e.d.pc ≤ maxLen ∧ e.d.pn ≤ 9223372036854775807) ∧ e.d.s.length ≤ 9223372036854775807 ∧ e.d.t.length ≤ 9223372036854775807 ∧ (∀ s ∈ e.d.labels, s.length ≤ 9223372036854775807) ∧ (∀ s ∈ e.d.names, s.length ≤ 9223372036854775807) := by cases h; assumption
theorem Ex.In.sub {w : World} {e : Ex} (h : e.In w) : ∀ x ∈ e.l, Ex.In w x := by cases h; assumption
theorem Ex.In.lower {w w' : World} {e : Ex} (h : e.In w) (hb : RowKit.Below w.heap.size w w') : e.In w' := by
  induction h with
  | mk d l lab nam par cap sub ih => exact .mk d l (lab.below hb) (nam.below hb) (par.below hb) cap ih

theorem flat_at {α : Type} {f : α → List Value} {q : Nat} (hq : ∀ y, (f y).length = q) : ∀ (l : List α) (k i : Nat) (hk : k < l.length), i < q → (l.flatMap f)[k * q + i]? = (f l[k])[i]?
  | [], k, i, hk, hi => by simp at hk
  | x :: l, 0, i, hk, hi => by
    rw [List.flatMap_cons, Nat.zero_mul, Nat.zero_add, List.getElem?_append_left (by rw [hq]; exact hi)]; rfl
  | x :: l, k + 1, i, hk, hi => by
    rw [List.flatMap_cons, List.getElem?_append_right (by rw [hq, Nat.add_mul]; omega), hq, show (k + 1) * q + i - q = k * q + i from by rw [Nat.add_mul]; omega]
    rw [flat_at hq l k i (by simpa using hk) hi]; rfl
theorem flat_len {α : Type} {f : α → List Value} {q : Nat} (hq : ∀ y, (f y).length = q) (l : List α) : (l.flatMap f).length = l.length * q := by
  induction l with
  | nil => simp
  | cons x l ih => rw [List.flatMap_cons, List.length_append, hq, ih, List.length_cons, Nat.add_mul]; omega
theorem Ex.In.len {w : World} {e : Ex} (h : e.In w) : e.l.length = e.d.pn := by have := h.par.1; rw [flat_len Ex.cells_len] at this; omega
theorem Ex.In.labLen {w : World} {e : Ex} (h : e.In w) : e.d.labels.length = e.d.ln := by have := h.lab.1; rw [strs_length] at this; omega
theorem Ex.In.namLen {w : World} {e : Ex} (h : e.In w) : e.d.names.length = e.d.nn := by have := h.nam.1; rw [strs_length] at this; omega

theorem Rd.str {w : World} {A : Option Addr} {n : Nat} {l : List Str} (h : Rd w 1 A n (strs l)) {k : Nat} (hk : k < l.length) : ∃ b o, A = some ⟨b, o, none⟩ ∧ ∀ j (hj : j < l.length), w.cell? ⟨b, o + j, none⟩ = some (.string (bstr l[j])) := by
  obtain ⟨b, o, rfl, hb, hh⟩ := h.base (by rw [strs_length]; omega)
  exact ⟨b, o, rfl, fun j hj => hh j _ (by simp [strs, hj])⟩
theorem rd_len {w : World} {A : Option Addr} {n : Nat} {l : List Str} (h : Rd w 1 A n (strs l)) : l.length = n := by have := h.1; rw [strs_length] at this; omega

/-- An expression's own fields lie at a place. -/
structure ExD.At (d : ExD) (w : World) (b o : Nat) : Prop where
  c0 : w.cell? ⟨b, o, none⟩ = some (.int .i64 d.kind)
  c1 : w.cell? ⟨b, o + 1, none⟩ = some (.int .i64 d.at_)
  c2 : w.cell? ⟨b, o + 2, none⟩ = some (.int .i64 d.n)
  c3 : w.cell? ⟨b, o + 3, none⟩ = some (.string (bstr d.s))
  c4 : w.cell? ⟨b, o + 4, none⟩ = some (.string (bstr d.t))
  c5 : w.cell? ⟨b, o + 5, none⟩ = some (.slice d.lA d.ln d.lc)
  c6 : w.cell? ⟨b, o + 6, none⟩ = some (.slice d.nA d.nn d.nc)
  c7 : w.cell? ⟨b, o + 7, none⟩ = some (.slice d.pA d.pn d.pc)
theorem ExD.At.lower {d : ExD} {w w' : World} {b o : Nat} (h : d.At w b o) (hb : RowKit.Below w.heap.size w w') : d.At w' b o :=
  ⟨cell_below hb h.c0, cell_below hb h.c1, cell_below hb h.c2, cell_below hb h.c3, cell_below hb h.c4, cell_below hb h.c5, cell_below hb h.c6, cell_below hb h.c7⟩
theorem ExD.At.lt {d : ExD} {w : World} {b o : Nat} (h : d.At w b o) : b < w.heap.size := World.block_lt_of_cell? w _ h.c0
/-- The parts, each where it lies. -/
theorem Ex.In.part {w : World} {e : Ex} (h : e.In w) {k : Nat} (hk : k < e.l.length) : ∃ b o, e.d.pA = some ⟨b, o, none⟩ ∧ ∀ j (hj : j < e.l.length), (e.l[j]).d.At w b (o + j * 8) := by
  obtain ⟨b, o, ee, hb, hh⟩ := h.par.base (by rw [flat_len Ex.cells_len]; omega)
  refine ⟨b, o, ee, fun j hj => ⟨?_, ?_, ?_, ?_, ?_, ?_, ?_, ?_⟩⟩
  · exact hh (j * 8 + 0) _ (flat_at Ex.cells_len e.l j 0 hj (by omega))
  · exact hh (j * 8 + 1) _ (flat_at Ex.cells_len e.l j 1 hj (by omega))
  · exact hh (j * 8 + 2) _ (flat_at Ex.cells_len e.l j 2 hj (by omega))
  · exact hh (j * 8 + 3) _ (flat_at Ex.cells_len e.l j 3 hj (by omega))
  · exact hh (j * 8 + 4) _ (flat_at Ex.cells_len e.l j 4 hj (by omega))
  · exact hh (j * 8 + 5) _ (flat_at Ex.cells_len e.l j 5 hj (by omega))
  · exact hh (j * 8 + 6) _ (flat_at Ex.cells_len e.l j 6 hj (by omega))
  · exact hh (j * 8 + 7) _ (flat_at Ex.cells_len e.l j 7 hj (by omega))
end Go.Proofs.YtaglmmcjhlehjaaGreatDoor

namespace Go.Proofs.YtaglmmcjhlehjaaGreatDoor
set_option linter.unusedVariables false
set_option linter.unusedSimpArgs false

def lowB (c : UInt8) : Bool := decide (97 ≤ c.toNat ∧ c.toNat ≤ 122)
def highB (c : UInt8) : Bool := decide (65 ≤ c.toNat ∧ c.toNat ≤ 90)
def digB (c : UInt8) : Bool := decide (48 ≤ c.toNat ∧ c.toNat ≤ 57)
def nameB (c : UInt8) : Bool := lowB c || digB c
def tagB (c : UInt8) : Bool := lowB c || highB c || digB c
def spcB (c : UInt8) : Bool := decide (c.toNat = 32 ∨ c.toNat = 10 ∨ c.toNat = 9)
def plainB (c : UInt8) : Bool := decide (32 ≤ c.toNat ∧ c.toNat ≤ 126)
def escB (c : UInt8) : Bool := decide (c.toNat = 34 ∨ c.toNat = 92 ∨ c.toNat = 110)
def unesc (c : UInt8) : UInt8 := if c.toNat = 110 then 10 else c
def wordsL : List Str := [[102, 110], [108, 101, 116], [114, 101, 99], [105, 110], [109, 97, 116, 99, 104], [119, 105, 116, 104], [101, 110, 100], [105, 102], [116, 104, 101, 110], [101, 108, 115, 101], [114, 101, 102], [112, 114, 105, 110, 116], [115, 104, 111, 119], [114, 101, 97, 100]]
def isWordB (s : Str) : Bool := decide (s ∈ wordsL)
def signsL : Str := [40, 41, 123, 125, 61, 46, 44, 124, 92, 43, 45, 42, 47, 60, 94, 35, 33, 59]
def signB (c : UInt8) : Bool := decide (c ∈ signsL)
def twosL : List Str := [[45, 62], [61, 61], [58, 61]]
def twoB (s : Str) : Bool := decide (s ∈ twosL)

theorem nat_u8 {c d : UInt8} (h : c.toNat = d.toNat) : c = d := UInt8.toNat_inj.1 h

/-! ### Texts -/
inductive TxtR where
  | ok (s : Str) (n : Nat)
  | bad (o : Nat)
def TxtR.more (k : Nat) (l : Str) : TxtR → TxtR
  | .ok s n => .ok (l ++ s) (n + k)
  | .bad o => .bad (o + k)
theorem TxtR.more_more (k j : Nat) (l m : Str) (r : TxtR) : (r.more k l).more j m = r.more (k + j) (m ++ l) := by
  cases r <;> simp [TxtR.more, Nat.add_assoc]
theorem TxtR.more_nil (r : TxtR) : r.more 0 [] = r := by cases r <;> simp [TxtR.more]
def txt : Str → TxtR
  | [] => .bad 0
  | [c] => if c.toNat = 34 then .ok [] 1 else if c.toNat = 92 then .bad 1 else if plainB c then .bad 1 else .bad 0
  | c :: d :: r =>
    if c.toNat = 34 then .ok [] 1
    else if c.toNat = 92 then (if escB d then (txt r).more 2 [unesc d] else .bad 1)
    else if plainB c then (txt (d :: r)).more 1 [c]
    else .bad 0
theorem txt_end (c : UInt8) (r : Str) (h : c.toNat = 34) : txt (c :: r) = .ok [] 1 := by
  cases r <;> simp [txt, h]
theorem txt_plain (c : UInt8) (r : Str) (h : c.toNat ≠ 34) (h2 : c.toNat ≠ 92) (hp : plainB c = true) : txt (c :: r) = (txt r).more 1 [c] := by
  cases r <;> simp [txt, h, h2, hp, TxtR.more]
theorem txt_unplain (c : UInt8) (r : Str) (hp : plainB c = false) : txt (c :: r) = .bad 0 := by
  have h : c.toNat ≠ 34 := fun e => by unfold plainB at hp; rw [e] at hp; simp at hp
  have h2 : c.toNat ≠ 92 := fun e => by unfold plainB at hp; rw [e] at hp; simp at hp
  cases r <;> simp [txt, h, h2, hp]
theorem txt_back0 (c : UInt8) (h : c.toNat = 92) : txt [c] = .bad 1 := by simp [txt, h]
theorem txt_back (c d : UInt8) (r : Str) (h : c.toNat = 92) (hd : escB d = true) : txt (c :: d :: r) = (txt r).more 2 [unesc d] := by simp [txt, h, hd]
theorem txt_backbad (c d : UInt8) (r : Str) (h : c.toNat = 92) (hd : escB d = false) : txt (c :: d :: r) = .bad 1 := by simp [txt, h, hd]

/-- What is behind a text makes no difference. -/
theorem txt_front : ∀ (l : Str) (s : Str) (n : Nat), txt l = .ok s n → 0 < n ∧ n ≤ l.length ∧ ∀ m, txt (l.take n ++ m) = .ok s n
  | [], s, n, h => by simp [txt] at h
  | [c], s, n, h => by
    simp only [txt] at h
    split at h
    · rename_i hc
      injection h with h1 h2
      subst h1
      subst h2
      exact ⟨by omega, by simp, fun m => by simpa using txt_end c m hc⟩
    · split at h
      · cases h
      · split at h <;> cases h
  | c :: d :: r, s, n, h => by
    by_cases hc : c.toNat = 34
    · rw [txt_end c _ hc] at h
      injection h with h1 h2
      subst h1
      subst h2
      exact ⟨by omega, by simp, fun m => by simpa using txt_end c m hc⟩
    · by_cases h92 : c.toNat = 92
      · cases hd : escB d with
        | false => rw [txt_backbad c d r h92 hd] at h; cases h
        | true =>
          rw [txt_back c d r h92 hd] at h
          cases hr : txt r with
          | bad o => rw [hr] at h; cases h
          | ok s' n' =>
            rw [hr] at h
            injection h with h1 h2
            subst h1
            subst h2
            obtain ⟨k0, k1, k2⟩ := txt_front r s' n' hr
            refine ⟨by omega, by simp; omega, fun m => ?_⟩
            rw [List.take_succ_cons, List.take_succ_cons, List.cons_append, List.cons_append, txt_back c d _ h92 hd, k2 m]; rfl
      · cases hp : plainB c with
        | false => rw [txt_unplain c _ hp] at h; cases h
        | true =>
          rw [txt_plain c _ hc h92 hp] at h
          cases hr : txt (d :: r) with
          | bad o => rw [hr] at h; cases h
          | ok s' n' =>
            rw [hr] at h
            injection h with h1 h2
            subst h1
            subst h2
            obtain ⟨k0, k1, k2⟩ := txt_front (d :: r) s' n' hr
            refine ⟨by omega, by simp at k1 ⊢; omega, fun m => ?_⟩
            rw [List.take_succ_cons, List.cons_append, txt_plain c _ hc h92 hp, k2 m]; rfl

/-! ### One token -/
structure Tk where
  kind : Int
  n : Int
  s : Str
inductive OneR where
  | ok (t : Tk) (n : Nat)
  | bad (o : Nat)
def nameR (k : Int) (s : Str) : OneR := if 20 < s.length then .bad 0 else .ok ⟨if k = 1 ∧ isWordB s = true then 2 else k, 0, s⟩ s.length
def numR (ds : Str) : OneR :=
  match Lib.parseIntB 64 ds with
  | .ok v => if ds.head? = some 48 ∧ 1 < ds.length then .bad 0 else .ok ⟨4, v, []⟩ ds.length
  | _ => .bad 0
def textR : TxtR → OneR
  | .ok s n => if 2000 < s.length then .bad 0 else .ok ⟨5, 0, s⟩ (n + 1)
  | .bad o => .bad (o + 1)
def signR (c : UInt8) (l : Str) : OneR := if twoB (l.take 2) then .ok ⟨6, 0, l.take 2⟩ 2 else if signB c then .ok ⟨6, 0, [c]⟩ 1 else .bad 0
def one : Str → OneR
  | [] => .bad 0
  | c :: r =>
    if lowB c then nameR 1 ((c :: r).takeWhile nameB)
    else if highB c then nameR 3 ((c :: r).takeWhile tagB)
    else if digB c then numR ((c :: r).takeWhile digB)
    else if c.toNat = 34 then textR (txt r)
    else signR c (c :: r)

theorem one_cons (c : UInt8) (r : Str) : one (c :: r) =
    if lowB c then nameR 1 ((c :: r).takeWhile nameB)
    else if highB c then nameR 3 ((c :: r).takeWhile tagB)
    else if digB c then numR ((c :: r).takeWhile digB)
    else if c.toNat = 34 then textR (txt r)
    else signR c (c :: r) := rfl

theorem tw_take {p : UInt8 → Bool} : ∀ l : Str, l.take (l.takeWhile p).length = l.takeWhile p
  | [] => rfl
  | c :: r => by
    cases h : p c <;> simp [List.takeWhile_cons, h, tw_take r]
theorem tw_le {p : UInt8 → Bool} (l : Str) : (l.takeWhile p).length ≤ l.length := by
  have := congrArg List.length (tw_take (p := p) l)
  rw [List.length_take] at this; omega
theorem tw_pos {p : UInt8 → Bool} {c : UInt8} {r : Str} (h : p c = true) : 0 < ((c :: r).takeWhile p).length := by simp [List.takeWhile_cons, h]
theorem spc_not {c : UInt8} (h : spcB c = true) : nameB c = false ∧ tagB c = false ∧ digB c = false := by
  unfold spcB at h
  have := of_decide_eq_true h
  unfold nameB tagB lowB highB digB
  simp only [Bool.or_eq_false_iff, decide_eq_false_iff_not]
  omega
theorem tw_front {p : UInt8 → Bool} (hp : ∀ c, spcB c = true → p c = false) : ∀ (l sp : Str), (∀ c ∈ sp, spcB c = true) → (l.takeWhile p ++ sp).takeWhile p = l.takeWhile p
  | [], [], h => rfl
  | [], c :: r, h => by simp [List.takeWhile_cons, hp c (h c (by simp))]
  | c :: r, sp, h => by
    cases hc : p c with
    | true => simp [List.takeWhile_cons, hc, tw_front hp r sp h]
    | false =>
      have := tw_front hp [] sp h
      simpa [List.takeWhile_cons, hc] using this

/-- The length of a token, and that spaces behind it make no difference. -/
theorem one_front (l : Str) (t : Tk) (n : Nat) (h : one l = .ok t n) : 0 < n ∧ n ≤ l.length ∧ ∀ sp, (∀ c ∈ sp, spcB c = true) → one (l.take n ++ sp) = .ok t n := by
  cases l with
  | nil => simp [one] at h
  | cons c r =>
    have hcons : ∀ (k : Nat) sp, 0 < k → ∃ r', (c :: r).take k ++ sp = c :: r' := fun k sp hk => by
      cases k with
      | zero => omega
      | succ k => exact ⟨r.take k ++ sp, by simp⟩
    rw [one_cons] at h
    by_cases h1 : lowB c = true
    · rw [if_pos h1] at h
      unfold nameR at h
      split at h
      · cases h
      · rename_i hl
        injection h with e1 e2
        have hp : 0 < n := by rw [← e2]; exact tw_pos (by unfold nameB; rw [h1]; rfl)
        refine ⟨hp, by rw [← e2]; exact tw_le _, fun sp hsp => ?_⟩
        have ef := tw_front (p := nameB) (fun c h => (spc_not h).1) (c :: r) sp hsp
        rw [← tw_take (c :: r), e2] at ef
        obtain ⟨r', er⟩ := hcons n sp hp
        rw [er] at ef ⊢
        rw [one_cons]
        rw [if_pos h1, ef, ← e2, tw_take]
        unfold nameR
        rw [if_neg hl, ← e1]
    · rw [if_neg h1] at h
      by_cases h2 : highB c = true
      · rw [if_pos h2] at h
        unfold nameR at h
        split at h
        · cases h
        · rename_i hl
          injection h with e1 e2
          have hp : 0 < n := by rw [← e2]; exact tw_pos (by unfold tagB; rw [h2]; simp)
          refine ⟨hp, by rw [← e2]; exact tw_le _, fun sp hsp => ?_⟩
          have ef := tw_front (p := tagB) (fun c h => (spc_not h).2.1) (c :: r) sp hsp
          rw [← tw_take (c :: r), e2] at ef
          obtain ⟨r', er⟩ := hcons n sp hp
          rw [er] at ef ⊢
          rw [one_cons]
          rw [if_neg h1, if_pos h2, ef, ← e2, tw_take]
          unfold nameR
          rw [if_neg hl, ← e1]
      · rw [if_neg h2] at h
        by_cases h3 : digB c = true
        · rw [if_pos h3] at h
          have h0 := h
          unfold numR at h
          split at h
          · split at h
            · cases h
            · injection h with e1 e2
              have hp : 0 < n := by rw [← e2]; exact tw_pos h3
              refine ⟨hp, by rw [← e2]; exact tw_le _, fun sp hsp => ?_⟩
              have ef := tw_front (p := digB) (fun c h => (spc_not h).2.2) (c :: r) sp hsp
              rw [← tw_take (c :: r), e2] at ef
              obtain ⟨r', er⟩ := hcons n sp hp
              rw [er] at ef ⊢
              rw [one_cons]
              rw [if_neg h1, if_neg h2, if_pos h3, ef, ← e2, tw_take, h0, e2]
          · cases h
        · rw [if_neg h3] at h
          by_cases h4 : c.toNat = 34
          · rw [if_pos h4] at h
            cases ht : txt r with
            | bad o => rw [ht] at h; cases h
            | ok s m =>
              obtain ⟨k0, k1, k2⟩ := txt_front r s m ht
              rw [ht] at h
              unfold textR at h
              simp only at h
              split at h
              · cases h
              · rename_i hl
                injection h with e1 e2
                subst e2
                refine ⟨by omega, by simp; omega, fun sp hsp => ?_⟩
                rw [List.take_succ_cons, List.cons_append]
                rw [one_cons]
                rw [if_neg h1, if_neg h2, if_neg h3, if_pos h4, k2 sp]
                unfold textR
                simp only
                rw [if_neg hl, ← e1]
          · rw [if_neg h4] at h
            unfold signR at h
            split at h
            · rename_i h5
              injection h with e1 e2
              subst e2
              have hl : 2 ≤ (c :: r).length := by
                rcases Nat.lt_or_ge (c :: r).length 2 with hlt | hge
                · have hr : r = [] := by cases r with | nil => rfl | cons a b => simp only [List.length_cons] at hlt; omega
                  subst hr
                  simp [twoB, twosL] at h5
                · exact hge
              refine ⟨by omega, hl, fun sp hsp => ?_⟩
              obtain ⟨r', er⟩ := hcons 2 sp (by omega)
              have et : (c :: r').take 2 = (c :: r).take 2 := by
                rw [← er, List.take_append_of_le_length (by rw [List.length_take]; omega), List.take_take, Nat.min_self]
              rw [er]
              rw [one_cons]
              rw [if_neg h1, if_neg h2, if_neg h3, if_neg h4]
              unfold signR
              rw [et, if_pos h5, ← e1]
            · rename_i h5
              split at h
              · rename_i h6
                injection h with e1 e2
                subst e2
                refine ⟨by omega, by simp, fun sp hsp => ?_⟩
                have et : twoB (([c] ++ sp).take 2) = false := by
                  cases sp with
                  | nil => simp [twoB, twosL]
                  | cons d r' =>
                    have hd := hsp d (by simp)
                    unfold spcB at hd
                    have hd2 := of_decide_eq_true hd
                    have a1 : d ≠ 62 := fun e => by subst e; simp at hd2
                    have a2 : d ≠ 61 := fun e => by subst e; simp at hd2
                    simp [twoB, twosL, a1, a2]
                show one (c :: sp) = _
                have er : [c] ++ sp = c :: sp := rfl
                rw [one_cons]
                rw [if_neg h1, if_neg h2, if_neg h3, if_neg h4]
                unfold signR
                rw [er] at et
                rw [et, if_neg (by simp), if_pos h6, ← e1]
              · cases h

/-! ### All tokens -/
structure Tok where
  kind : Int
  place : Nat
  n : Int
  s : Str
def Tk.put (t : Tk) (p : Nat) : Tok := ⟨t.kind, p, t.n, t.s⟩
inductive CutR where
  | ok (l : List Tok)
  | bad (p : Nat)
def CutR.pre (a : List Tok) : CutR → CutR
  | .ok l => .ok (a ++ l)
  | .bad p => .bad p
theorem CutR.pre_nil (r : CutR) : r.pre [] = r := by cases r <;> rfl
theorem CutR.pre_pre (a b : List Tok) (r : CutR) : (r.pre a).pre b = r.pre (b ++ a) := by cases r <;> simp [CutR.pre]
def cutF : Nat → Str → Nat → CutR
  | 0, _, _ => .ok []
  | _ + 1, [], _ => .ok []
  | f + 1, c :: r, p => if spcB c then cutF f r (p + 1) else
    match one (c :: r) with
    | .bad o => .bad (p + o)
    | .ok t n => (cutF f ((c :: r).drop n) (p + n)).pre [t.put p]
theorem cutF_fuel : ∀ (f g : Nat) (l : Str) (p : Nat), l.length ≤ f → l.length ≤ g → cutF f l p = cutF g l p
  | f, g, [], p, _, _ => by cases f <;> cases g <;> rfl
  | 0, g, c :: r, p, h, _ => by simp at h
  | f, 0, c :: r, p, _, h => by simp at h
  | f + 1, g + 1, c :: r, p, h, k => by
    simp only [List.length_cons] at h k
    simp only [cutF]
    split
    · exact cutF_fuel f g r (p + 1) (by omega) (by omega)
    · split
      · rfl
      · rename_i t n ho
        obtain ⟨h0, h1, _⟩ := one_front _ _ _ ho
        rw [cutF_fuel f g _ _ (by rw [List.length_drop, List.length_cons]; omega) (by rw [List.length_drop, List.length_cons]; omega)]
def cutS (l : Str) (p : Nat) : CutR := cutF l.length l p
theorem cutS_nil (p : Nat) : cutS [] p = .ok [] := rfl
theorem cutS_spc (c : UInt8) (r : Str) (p : Nat) (h : spcB c = true) : cutS (c :: r) p = cutS r (p + 1) := by
  unfold cutS
  rw [List.length_cons, cutF, if_pos h]
theorem cutS_bad (c : UInt8) (r : Str) (p o : Nat) (h : spcB c = false) (ho : one (c :: r) = .bad o) : cutS (c :: r) p = .bad (p + o) := by
  unfold cutS
  rw [List.length_cons, cutF, if_neg (by simp [h]), ho]
theorem cutS_ok (c : UInt8) (r : Str) (p n : Nat) (t : Tk) (h : spcB c = false) (ho : one (c :: r) = .ok t n) : cutS (c :: r) p = (cutS ((c :: r).drop n) (p + n)).pre [t.put p] := by
  obtain ⟨h0, h1, _⟩ := one_front _ _ _ ho
  unfold cutS
  rw [List.length_cons, cutF, if_neg (by simp [h]), ho]
  simp only
  rw [cutF_fuel r.length ((c :: r).drop n).length _ _ (by rw [List.length_drop, List.length_cons]; omega) (Nat.le_refl _)]
theorem cutS_skip : ∀ (l : Str) (p : Nat), cutS l p = cutS (l.drop (l.takeWhile spcB).length) (p + (l.takeWhile spcB).length)
  | [], p => rfl
  | c :: r, p => by
    cases h : spcB c with
    | false => simp [List.takeWhile_cons, h]
    | true =>
      rw [cutS_spc c r p h, cutS_skip r (p + 1)]
      simp [List.takeWhile_cons, h, Nat.add_assoc, Nat.add_comm 1]
theorem cutS_spaces : ∀ (l : Str) (p : Nat), (∀ c ∈ l, spcB c = true) → cutS l p = .ok []
  | [], p, h => rfl
  | c :: r, p, h => by rw [cutS_spc c r p (h c (by simp))]; exact cutS_spaces r _ (fun d hd => h d (by simp [hd]))

theorem pre_ok {r : CutR} {a l : List Tok} (h : r.pre a = .ok l) : ∃ l', r = .ok l' ∧ l = a ++ l' := by
  cases r with
  | bad p => cases h
  | ok l' => exact ⟨l', rfl, by injection h with h; exact h.symm⟩

/-- Where the first token begins (or where the text ends); what is ahead of it is spaces. -/
def firstAt (l : Str) (p : Nat) (ts : List Tok) : Nat :=
  match ts with
  | [] => p + l.length
  | t :: _ => t.place
theorem first_spaces : ∀ (f : Nat) (l : Str) (p : Nat) (ts : List Tok), l.length ≤ f → cutS l p = .ok ts → p ≤ firstAt l p ts ∧ firstAt l p ts ≤ p + l.length ∧ ∀ c ∈ l.take (firstAt l p ts - p), spcB c = true
  | f, [], p, ts, _, h => by
    rw [cutS_nil] at h
    injection h with h
    subst h
    simp [firstAt]
  | 0, c :: r, p, ts, hf, h => by simp at hf
  | f + 1, c :: r, p, ts, hf, h => by
    cases hs : spcB c with
    | true =>
      rw [cutS_spc c r p hs] at h
      obtain ⟨a1, a2, a3⟩ := first_spaces f r (p + 1) ts (by simp at hf; omega) h
      have e : firstAt (c :: r) p ts = firstAt r (p + 1) ts := by
        cases ts with
        | nil => simp [firstAt]; omega
        | cons t _ => rfl
      rw [e]
      refine ⟨by omega, by simp; omega, fun d hd => ?_⟩
      obtain ⟨q, hq⟩ : ∃ q, firstAt r (p + 1) ts - p = q + 1 := ⟨firstAt r (p + 1) ts - p - 1, by omega⟩
      rw [hq, List.take_succ_cons] at hd
      rcases List.mem_cons.1 hd with rfl | hd
      · exact hs
      · exact a3 d (by rw [show firstAt r (p + 1) ts - (p + 1) = q from by omega]; exact hd)
    | false =>
      cases ho : one (c :: r) with
      | bad o => rw [cutS_bad c r p o hs ho] at h; cases h
      | ok t n =>
        rw [cutS_ok c r p n t hs ho] at h
        obtain ⟨l', _, rfl⟩ := pre_ok h
        refine ⟨Nat.le_refl _, by show p ≤ _; omega, fun d hd => ?_⟩
        have e : firstAt (c :: r) p ([t.put p] ++ l') = p := rfl
        rw [e, Nat.sub_self] at hd
        cases hd

/-- A token that was cut out is that token. -/
theorem cut_again : ∀ (f : Nat) (l : Str) (p : Nat) (ts : List Tok), l.length ≤ f → cutS l p = .ok ts → ∀ (i : Nat) (hi : i < ts.length),
    p ≤ ts[i].place ∧ ts[i].place < firstAt l p (ts.drop (i + 1)) ∧ firstAt l p (ts.drop (i + 1)) ≤ p + l.length ∧
      cutS ((l.drop (ts[i].place - p)).take (firstAt l p (ts.drop (i + 1)) - ts[i].place)) 0 = .ok [⟨ts[i].kind, 0, ts[i].n, ts[i].s⟩]
  | f, [], p, ts, _, h, i, hi => by
    rw [cutS_nil] at h
    injection h with h
    subst h
    cases hi
  | 0, c :: r, p, ts, hf, h, i, hi => by simp at hf
  | f + 1, c :: r, p, ts, hf, h, i, hi => by
    cases hs : spcB c with
    | true =>
      rw [cutS_spc c r p hs] at h
      obtain ⟨a1, a2, a3, a4⟩ := cut_again f r (p + 1) ts (by simp at hf; omega) h i hi
      have e : firstAt (c :: r) p (ts.drop (i + 1)) = firstAt r (p + 1) (ts.drop (i + 1)) := by
        cases ts.drop (i + 1) with
        | nil => simp [firstAt]; omega
        | cons t _ => rfl
      rw [e]
      refine ⟨by omega, a2, by simp; omega, ?_⟩
      rw [show ts[i].place - p = (ts[i].place - (p + 1)) + 1 from by omega, List.drop_succ_cons]
      exact a4
    | false =>
      cases ho : one (c :: r) with
      | bad o => rw [cutS_bad c r p o hs ho] at h; cases h
      | ok t n =>
        obtain ⟨n0, n1, n2⟩ := one_front _ _ _ ho
        rw [cutS_ok c r p n t hs ho] at h
        obtain ⟨l', hl', rfl⟩ := pre_ok h
        have hlen : ((c :: r).drop n).length = (c :: r).length - n := List.length_drop
        simp only [List.length_cons] at hf n1 hlen
        cases i with
        | zero =>
          obtain ⟨b1, b2, b3⟩ := first_spaces _ _ _ _ (Nat.le_refl _) hl'
          have e : firstAt (c :: r) p (([t.put p] ++ l').drop (0 + 1)) = firstAt ((c :: r).drop n) (p + n) l' := by
            show firstAt (c :: r) p l' = _
            cases l' with
            | nil => simp [firstAt]; omega
            | cons t _ => rfl
          rw [e]
          have ep : ([t.put p] ++ l')[0].place = p := rfl
          have ek : ([t.put p] ++ l')[0] = t.put p := rfl
          rw [ek]
          show p ≤ p ∧ p < _ ∧ _ ∧ cutS (((c :: r).drop (p - p)).take (_ - p)) 0 = .ok [t.put 0]
          refine ⟨Nat.le_refl _, by omega, by simp only [List.length_cons]; omega, ?_⟩
          rw [Nat.sub_self, List.drop_zero]
          obtain ⟨q, hq⟩ : ∃ q, firstAt ((c :: r).drop n) (p + n) l' = p + n + q := ⟨firstAt ((c :: r).drop n) (p + n) l' - (p + n), by omega⟩
          rw [hq] at b3 ⊢
          rw [show p + n + q - (p + n) = q from by omega] at b3
          rw [show p + n + q - p = n + q from by omega, List.take_add]
          have hone := n2 _ b3
          obtain ⟨r', er⟩ : ∃ r', (c :: r).take n ++ ((c :: r).drop n).take q = c :: r' := by
            cases n with
            | zero => omega
            | succ n => exact ⟨_, by rw [List.take_succ_cons, List.cons_append]⟩
          have elen : ((c :: r).take n).length = n := by rw [List.length_take, List.length_cons]; omega
          have hd : (c :: r').drop n = ((c :: r).drop n).take q := by rw [← er, List.drop_append, elen, Nat.sub_self, List.drop_zero, List.drop_of_length_le (by omega), List.nil_append]
          rw [er] at hone ⊢
          rw [cutS_ok c r' 0 n t hs hone, hd, cutS_spaces _ _ b3]
          rfl
        | succ j =>
          have hj : j < l'.length := by simp at hi; omega
          obtain ⟨a1, a2, a3, a4⟩ := cut_again f ((c :: r).drop n) (p + n) l' (by omega) hl' j hj
          have e : firstAt (c :: r) p (([t.put p] ++ l').drop (j + 1 + 1)) = firstAt ((c :: r).drop n) (p + n) (l'.drop (j + 1)) := by
            show firstAt (c :: r) p (l'.drop (j + 1)) = _
            cases l'.drop (j + 1) with
            | nil => simp [firstAt]; omega
            | cons t _ => rfl
          have ek : ([t.put p] ++ l')[j + 1] = l'[j] := rfl
          rw [e, ek]
          refine ⟨by omega, a2, by simp only [List.length_cons]; omega, ?_⟩
          rw [List.drop_drop, show n + (l'[j].place - (p + n)) = l'[j].place - p from by omega] at a4
          exact a4

/-! ### Quoted -/
def qch (c : UInt8) : Option Str := if c.toNat = 10 then some [92, 110] else if plainB c then (if c.toNat = 34 ∨ c.toNat = 92 then some [92, c] else some [c]) else none
def qbody : Str → Option Str
  | [] => some []
  | c :: r => match qch c, qbody r with
    | some a, some b => some (a ++ b)
    | _, _ => none
def quoteS (s : Str) : Option Str := if 2000 < s.length then none else (qbody s).map fun b => [34] ++ b ++ [34]
theorem qbody_len : ∀ (s b : Str), qbody s = some b → b.length ≤ 2 * s.length
  | [], b, h => by injection h with h; subst h; simp
  | c :: r, b, h => by
    unfold qbody at h
    cases h1 : qch c with
    | none => rw [h1] at h; cases h
    | some a =>
      cases h2 : qbody r with
      | none => rw [h1, h2] at h; cases h
      | some d =>
        rw [h1, h2] at h
        injection h with h
        subst h
        have := qbody_len r d h2
        have ha : a.length ≤ 2 := by
          unfold qch at h1
          split at h1
          · injection h1 with h1; subst h1; simp
          · split at h1
            · split at h1 <;> (injection h1 with h1; subst h1; simp)
            · cases h1
        simp; omega
theorem txt_quoted : ∀ (s b rest : Str), qbody s = some b → txt (b ++ 34 :: rest) = .ok s (b.length + 1)
  | [], b, rest, h => by
    injection h with h; subst h
    exact txt_end 34 rest rfl
  | c :: r, b, rest, h => by
    unfold qbody at h
    cases h1 : qch c with
    | none => rw [h1] at h; cases h
    | some a =>
      cases h2 : qbody r with
      | none => rw [h1, h2] at h; cases h
      | some d =>
        rw [h1, h2] at h
        injection h with h
        subst h
        have ih := txt_quoted r d rest h2
        unfold qch at h1
        split at h1
        · rename_i hc
          injection h1 with h1; subst h1
          rw [List.append_assoc]
          show txt (92 :: 110 :: (d ++ 34 :: rest)) = _
          rw [txt_back 92 110 _ rfl rfl, ih]
          have e : unesc 110 = c := nat_u8 (by rw [hc]; rfl)
          simp [TxtR.more, e]
        · rename_i hc
          split at h1
          · rename_i hp
            split at h1
            · rename_i hq
              injection h1 with h1; subst h1
              rw [List.append_assoc]
              show txt (92 :: c :: (d ++ 34 :: rest)) = _
              have he : escB c = true := by unfold escB; rw [decide_eq_true_iff]; omega
              have hu : unesc c = c := by unfold unesc; rw [if_neg (by omega)]
              rw [txt_back 92 c _ rfl he, ih, hu]
              simp [TxtR.more]
            · rename_i hq
              injection h1 with h1; subst h1
              rw [List.append_assoc]
              show txt (c :: (d ++ 34 :: rest)) = _
              rw [txt_plain c _ (by omega) (by omega) hp, ih]
              simp [TxtR.more]
          · cases h1
/-- What was quoted is one text. -/
theorem cut_quoted (s q : Str) (h : quoteS s = some q) : cutS q 0 = .ok [⟨5, 0, 0, s⟩] ∧ q.length ≤ 2 * s.length + 2 := by
  unfold quoteS at h
  split at h
  · cases h
  · rename_i hl
    cases hb : qbody s with
    | none => rw [hb] at h; cases h
    | some b =>
      rw [hb] at h
      injection h with h
      subst h
      have ht := txt_quoted s b [] hb
      have ho : one (34 :: (b ++ [34])) = .ok ⟨5, 0, s⟩ (b.length + 1 + 1) := by
        rw [one_cons]
        rw [if_neg (by decide), if_neg (by decide), if_neg (by decide), if_pos (by rfl), ht]
        unfold textR
        simp only
        rw [if_neg hl]
      refine ⟨?_, by have := qbody_len s b hb; simp; omega⟩
      show cutS (34 :: (b ++ [34])) 0 = _
      rw [cutS_ok 34 _ 0 _ _ rfl ho, List.drop_of_length_le (by simp), cutS_nil]
      rfl
end Go.Proofs.YtaglmmcjhlehjaaGreatDoor

namespace Go.Proofs.YtaglmmcjhlehjaaGreatDoor
open Go.RowKit
set_option linter.unusedVariables false

/-- In order, none twice. -/
def inOrder (l : List Str) : Prop := l.Pairwise (fun a b => slt a b = true)

theorem inOrder_nil : inOrder [] := List.Pairwise.nil
theorem inOrder_ext : ∀ {a b : List Str}, inOrder a → inOrder b → (∀ x, x ∈ a ↔ x ∈ b) → a = b
  | [], [], _, _, _ => rfl
  | [], y :: b, _, _, h => by have := (h y).2 (by simp); cases this
  | x :: a, [], _, _, h => by have := (h x).1 (by simp); cases this
  | x :: a, y :: b, ha, hb, h => by
    have ha' := List.pairwise_cons.1 ha
    have hb' := List.pairwise_cons.1 hb
    have hxy : x = y := by
      rcases List.mem_cons.1 ((h x).1 (by simp)) with h1 | h1
      · exact h1
      · rcases List.mem_cons.1 ((h y).2 (by simp)) with h2 | h2
        · exact h2.symm
        · have h3 := hb'.1 x h1
          have h4 := ha'.1 y h2
          rw [slt_asymm h3] at h4
          cases h4
    subst hxy
    rw [inOrder_ext ha'.2 hb'.2 (fun z => ?_)]
    constructor
    · intro hz
      rcases List.mem_cons.1 ((h z).1 (by simp [hz])) with h1 | h1
      · subst h1; have := ha'.1 z hz; rw [slt_irrefl] at this; cases this
      · exact h1
    · intro hz
      rcases List.mem_cons.1 ((h z).2 (by simp [hz])) with h1 | h1
      · subst h1; have := hb'.1 z hz; rw [slt_irrefl] at this; cases this
      · exact h1

theorem inOrder_nodup {l : List Str} (h : inOrder l) : l.Nodup := h.imp fun hab => slt_ne hab
theorem inOrder_filter {l : List Str} (h : inOrder l) (p : Str → Bool) : inOrder (l.filter p) := List.Pairwise.filter p h

/-- What sort and compact make of labels. -/
def setOf (l : List Str) : List Str := Lib.compact (l.mergeSort fun x y => decide (x ≤ y))

theorem le_slt (a b : Str) : decide (a ≤ b) = !slt b a := by
  rw [slt_eq, Bool.eq_iff_iff]; simp

theorem sorted_ms (l : List Str) : (l.mergeSort fun x y => decide (x ≤ y)).Pairwise (fun a b => slt b a = false) := by
  have h := List.pairwise_mergeSort (le := fun x y : Str => decide (x ≤ y))
    (fun a b c h1 h2 => by simp only [decide_eq_true_eq] at *; exact List.le_trans h1 h2)
    (fun a b => by simp only [Bool.or_eq_true, decide_eq_true_eq]; exact List.le_total a b) l
  refine h.imp fun {a b} hab => ?_
  rw [le_slt] at hab
  simpa using hab

theorem compact_set (d : List Str) (hd : d.Pairwise (fun a b => slt b a = false)) :
    ∀ m, m ≤ d.length → inOrder (Lib.compactUpTo d.toArray m) ∧ ∀ x, x ∈ Lib.compactUpTo d.toArray m ↔ x ∈ d.take m
  | 0, _ => ⟨by simp [Lib.compactUpTo, inOrder], by simp [Lib.compactUpTo]⟩
  | m + 1, hm => by
    obtain ⟨h1, h2⟩ := compact_set d hd m (by omega)
    have hget : d.toArray[m]! = d[m] := by simp [getElem!_pos, show m < d.length by omega]
    rw [Lib.compactUpTo_succ, List.take_succ_eq_append_getElem (by omega), hget]
    rcases Nat.eq_zero_or_pos m with h0 | h0
    · subst h0
      have : Lib.compactUpTo d.toArray 0 = [] := by simp [Lib.compactUpTo]
      simp [this, Lib.keeps, inOrder]
    · have hget' : d.toArray[m - 1]! = d[m - 1] := by
        have : m - 1 < d.length := by omega
        simp [getElem!_pos, this]
      by_cases he : d[m] = d[m - 1]
      · have hk : Lib.keeps d.toArray m = false := Lib.keeps_neg h0 (by rw [hget, hget', he])
        rw [hk]
        simp only [Bool.false_eq_true, if_false, List.append_nil]
        refine ⟨h1, fun x => ?_⟩
        rw [h2 x, List.mem_append, List.mem_singleton]
        constructor
        · exact Or.inl
        · rintro (h | h)
          · exact h
          · subst h
            rw [he]
            exact List.mem_take_iff_getElem.2 ⟨m - 1, by omega, rfl⟩
      · have hk : Lib.keeps d.toArray m = true := Lib.keeps_pos (by rw [hget, hget']; exact he)
        rw [hk]
        simp only [if_true]
        have hlast : slt d[m - 1] d[m] = true := by
          cases hc : slt d[m - 1] d[m] with
          | true => rfl
          | false =>
            have h3 := List.pairwise_iff_getElem.1 hd (m - 1) m (by omega) (by omega) (by omega)
            exact absurd (slt_tri h3 hc) he
        refine ⟨?_, fun x => by rw [List.mem_append, List.mem_append, h2 x]⟩
        unfold inOrder
        rw [List.pairwise_append]
        refine ⟨h1, by simp, ?_⟩
        intro a ha b hb
        simp at hb
        subst hb
        obtain ⟨j, hj, rfl⟩ := List.mem_take_iff_getElem.1 ((h2 a).1 ha)
        rcases Nat.lt_or_ge j (m - 1) with hjm | hjm
        · have h3 := List.pairwise_iff_getElem.1 hd j (m - 1) (by omega) (by omega) hjm
          cases h4 : slt d[j] d[m - 1] with
          | true => exact slt_trans h4 hlast
          | false => rw [slt_tri h4 h3]; exact hlast
        · obtain rfl : j = m - 1 := by omega
          exact hlast

theorem setOf_order (l : List Str) : inOrder (setOf l) := (compact_set _ (sorted_ms l) _ (Nat.le_refl _)).1
theorem setOf_mem (l : List Str) (x : Str) : x ∈ setOf l ↔ x ∈ l := by
  have h := (compact_set _ (sorted_ms l) _ (Nat.le_refl _)).2 x
  rw [List.take_length] at h
  exact h.trans List.mem_mergeSort
theorem setOf_length_le (l : List Str) : (setOf l).length ≤ l.length := by
  unfold setOf Lib.compact Lib.compactUpTo
  rw [List.length_map]
  refine Nat.le_trans (List.length_filter_le _ _) ?_
  simp
theorem setOf_self {l : List Str} (h : inOrder l) : setOf l = l := inOrder_ext (setOf_order l) h (setOf_mem l)

/-- How many come before a label. -/
def offs (l : List Str) (s : Str) : Nat := l.countP (fun x => slt x s)
theorem offs_le (l : List Str) (s : Str) : offs l s ≤ l.length := List.countP_le_length
theorem offs_split : ∀ (l : List Str) (s : Str), inOrder l → (∀ x ∈ l.take (offs l s), slt x s = true) ∧ (∀ x ∈ l.drop (offs l s), slt x s = false)
  | [], s, _ => by simp [offs]
  | y :: l, s, h => by
    have h' := List.pairwise_cons.1 h
    obtain ⟨h1, h2⟩ := offs_split l s h'.2
    cases hy : slt y s with
    | true =>
      have e : offs (y :: l) s = offs l s + 1 := by simp [offs, hy]
      rw [e, List.take_succ_cons, List.drop_succ_cons]
      refine ⟨fun x hx => ?_, h2⟩
      rcases List.mem_cons.1 hx with rfl | hx
      · exact hy
      · exact h1 x hx
    | false =>
      have hall : ∀ x ∈ l, slt x s = false := by
        intro x hx
        cases hc : slt x s with
        | false => rfl
        | true => have := slt_trans (h'.1 x hx) hc; rw [hy] at this; cases this
      have e : offs (y :: l) s = 0 := by
        simp only [offs, List.countP_eq_zero]
        intro x hx
        rcases List.mem_cons.1 hx with rfl | hx
        · rw [hy]; simp
        · rw [hall x hx]; simp
      rw [e]
      refine ⟨by simp, fun x hx => ?_⟩
      rcases List.mem_cons.1 hx with rfl | hx
      · exact hy
      · exact hall x hx
/-- The place is told by what lies before it and behind. -/
theorem offs_unique (l : List Str) (s : Str) (i : Nat) (hi : i ≤ l.length) (h1 : ∀ k (h : k < i), slt (l[k]'(by omega)) s = true) (h2 : ∀ k (h : k < l.length), i ≤ k → slt l[k] s = false) : offs l s = i := by
  have e : l = l.take i ++ l.drop i := (List.take_append_drop i l).symm
  unfold offs
  rw [e, List.countP_append]
  have e1 : (l.take i).countP (fun x => slt x s) = (l.take i).length := by
    rw [List.countP_eq_length]
    intro x hx
    obtain ⟨k, hk, rfl⟩ := List.mem_take_iff_getElem.1 hx
    exact h1 k (by omega)
  have e2 : (l.drop i).countP (fun x => slt x s) = 0 := by
    rw [List.countP_eq_zero]
    intro x hx
    obtain ⟨k, hk, rfl⟩ := List.mem_drop_iff_getElem.1 hx
    rw [h2 (i + k) (by omega) (by omega)]
    simp
  rw [e1, e2, List.length_take]
  omega

/-- One comes where it stands. -/
def addL (l : List Str) (s : Str) : List Str := if s ∈ l then l else l.take (offs l s) ++ [s] ++ l.drop (offs l s)
theorem insert_order {l : List Str} {s : Str} (h : inOrder l) (hs : s ∉ l) : inOrder (l.take (offs l s) ++ [s] ++ l.drop (offs l s)) := by
  obtain ⟨h1, h2⟩ := offs_split l s h
  have e : l = l.take (offs l s) ++ l.drop (offs l s) := (List.take_append_drop _ l).symm
  have h0 := h
  rw [e] at h0
  obtain ⟨ha, hb, hab⟩ := List.pairwise_append.1 h0
  have h2' : ∀ x ∈ l.drop (offs l s), slt s x = true := by
    intro x hx
    cases hc : slt s x with
    | true => rfl
    | false =>
      have := slt_tri (h2 x hx) hc
      subst this
      exact absurd (List.mem_of_mem_drop hx) hs
  unfold inOrder
  rw [List.append_assoc, List.pairwise_append]
  refine ⟨ha, List.pairwise_cons.2 ⟨h2', hb⟩, fun a ha' b hb' => ?_⟩
  rcases List.mem_append.1 hb' with hb' | hb'
  · simp at hb'; subst hb'; exact h1 a ha'
  · exact hab a ha' b hb'
theorem addL_order {l : List Str} {s : Str} (h : inOrder l) : inOrder (addL l s) := by
  unfold addL
  split
  · exact h
  · rename_i hs; exact insert_order h hs
theorem addL_mem (l : List Str) (s x : Str) : x ∈ addL l s ↔ x ∈ l ∨ x = s := by
  unfold addL
  split
  · rename_i hs
    constructor
    · exact Or.inl
    · rintro (h | h)
      · exact h
      · subst h; exact hs
  · have e : x ∈ l ↔ x ∈ l.take (offs l s) ∨ x ∈ l.drop (offs l s) := by
      rw [← List.mem_append, List.take_append_drop]
    rw [List.mem_append, List.mem_append, List.mem_singleton, e]
    constructor
    · rintro ((h | h) | h)
      · exact .inl (.inl h)
      · exact .inr h
      · exact .inl (.inr h)
    · rintro ((h | h) | h)
      · exact .inl (.inl h)
      · exact .inr h
      · exact .inl (.inr h)
def ofTo (l : List Str) (k : Nat) : List Str := (l.take k).foldl addL []
theorem ofTo_succ (l : List Str) (k : Nat) (h : k < l.length) : ofTo l (k + 1) = addL (ofTo l k) l[k] := by
  unfold ofTo
  rw [List.take_succ_eq_append_getElem h, List.foldl_append]
  rfl
theorem ofTo_spec (l : List Str) : ∀ k, k ≤ l.length → inOrder (ofTo l k) ∧ ∀ x, x ∈ ofTo l k ↔ x ∈ l.take k
  | 0, _ => by simp [ofTo, inOrder]
  | k + 1, h => by
    obtain ⟨h1, h2⟩ := ofTo_spec l k (by omega)
    rw [ofTo_succ l k (by omega)]
    refine ⟨addL_order h1, fun x => ?_⟩
    rw [addL_mem, h2, List.take_succ_eq_append_getElem (by omega), List.mem_append, List.mem_singleton]
theorem ofTo_all (l : List Str) : ofTo l l.length = setOf l := by
  obtain ⟨h1, h2⟩ := ofTo_spec l l.length (Nat.le_refl _)
  rw [List.take_length] at h2
  exact inOrder_ext h1 (setOf_order l) fun x => (h2 x).trans (setOf_mem l x).symm
theorem addL_length (l : List Str) (s : Str) : (addL l s).length ≤ l.length + 1 := by
  unfold addL
  split
  · omega
  · simp only [List.length_append, List.length_take, List.length_drop, List.length_cons, List.length_nil]; omega
theorem ofTo_length (l : List Str) : ∀ k, k ≤ l.length → (ofTo l k).length ≤ k
  | 0, _ => by simp [ofTo]
  | k + 1, h => by
    rw [ofTo_succ l k (by omega)]
    have := addL_length (ofTo l k) l[k]
    have := ofTo_length l k (by omega)
    omega

/-- Those of the one that the other one hasn't; those of both. -/
def lessL (a b : List Str) : List Str := a.filter fun x => !decide (x ∈ b)
def meetL (a b : List Str) : List Str := a.filter fun x => decide (x ∈ b)
theorem less_less (a b : List Str) : lessL a (lessL a b) = meetL a b := by
  unfold lessL meetL
  apply List.filter_congr
  intro x hx
  by_cases h : x ∈ b <;> simp [hx, h]
theorem less_meet_length (a b : List Str) : a.length = (lessL a b).length + (meetL a b).length := by
  unfold lessL meetL
  induction a with
  | nil => rfl
  | cons x r ih =>
    by_cases h : x ∈ b <;> simp [h] <;> omega
theorem join_length {a b : List Str} (ha : inOrder a) (hb : inOrder b) : (setOf (a ++ b)).length = a.length + (lessL b a).length := by
  have hp : (setOf (a ++ b)).Perm (a ++ lessL b a) := by
    rw [List.perm_ext_iff_of_nodup (inOrder_nodup (setOf_order _))]
    · intro x
      rw [setOf_mem, List.mem_append, List.mem_append, lessL, List.mem_filter]
      by_cases h : x ∈ a <;> simp [h]
    · refine List.nodup_append.2 ⟨inOrder_nodup ha, inOrder_nodup (inOrder_filter hb _), ?_⟩
      intro x hx y hy hxy
      subst hxy
      rw [lessL, List.mem_filter] at hy
      simp [hx] at hy
  rw [hp.length_eq, List.length_append]

/-- Are labels in order, none twice? -/
def isB (l : List Str) : Bool := (List.range (l.length - 1)).all fun i => slt (l.getD i []) (l.getD (i + 1) [])
theorem isB_iff (l : List Str) : isB l = true ↔ ∀ i (h : i + 1 < l.length), slt l[i] l[i + 1] = true := by
  unfold isB
  rw [List.all_eq_true]
  constructor
  · intro h i hi
    have := h i (List.mem_range.2 (by omega))
    simpa [List.getD, hi, show i < l.length by omega] using this
  · intro h i hi
    have hi' := List.mem_range.1 hi
    have := h i (by omega)
    simpa [List.getD, show i < l.length by omega, show i + 1 < l.length by omega] using this
theorem isB_order (l : List Str) : isB l = true ↔ inOrder l := by
  rw [isB_iff]
  constructor
  · intro h
    unfold inOrder
    rw [List.pairwise_iff_getElem]
    intro i j hi hj hij
    induction j with
    | zero => omega
    | succ j ih =>
      rcases Nat.lt_or_ge i j with h1 | h1
      · exact slt_trans (ih (by omega) h1) (h j hj)
      · obtain rfl : i = j := by omega
        exact h i hj
  · intro h i hi
    exact List.pairwise_iff_getElem.1 h i (i + 1) (by omega) hi (by omega)
theorem isB_false {l : List Str} {i : Nat} (h : i + 1 < l.length) (hs : slt l[i] l[i + 1] = false) : isB l = false := by
  cases hb : isB l with
  | false => rfl
  | true => rw [(isB_iff l).1 hb i h] at hs; cases hs
end Go.Proofs.YtaglmmcjhlehjaaGreatDoor

namespace Go.Proofs.YtaglmmcjhlehjaaGreatDoor
open Go.RowKit
set_option linter.unusedVariables false
set_option linter.unusedSimpArgs false

/-! ### An expression's own fields -/
/-- Is a text one token of a kind, and nothing beside? -/
def tokR (s : Str) (k : Int) : CutR → Bool
  | .ok [t] => decide (t.kind = k) && decide (t.s = s)
  | _ => false
def tokB (s : Str) (k : Int) : Bool := if 20 < s.length then false else tokR s k (cutS s 0)
def opsL : List Str := [[43], [45], [42], [47], [60], [61, 61], [94], [35]]
def opB (s : Str) : Bool := decide (s ∈ opsL)
def partsF (kind labels : Int) (other : Bool) : Int :=
  if kind = 1 ∨ kind = 2 ∨ kind = 3 ∨ kind = 22 then 0
  else if kind = 4 ∨ kind = 9 ∨ kind = 11 ∨ kind = 13 ∨ kind = 17 ∨ kind = 18 ∨ kind = 20 ∨ kind = 21 then 1
  else if kind = 5 ∨ kind = 6 ∨ kind = 7 ∨ kind = 10 ∨ kind = 12 ∨ kind = 16 ∨ kind = 19 then 2
  else if kind = 15 then 3
  else if kind = 8 then labels
  else if kind = 14 then (if other then wrap64 (labels + 2) else wrap64 (labels + 1))
  else -1
def ExD.sB (d : ExD) : Bool :=
  if d.kind = 3 ∨ d.kind = 4 ∨ d.kind = 6 ∨ d.kind = 7 ∨ d.kind = 9 ∨ d.kind = 10 ∨ d.kind = 11 ∨ d.kind = 12 then tokB d.s 1
  else if d.kind = 13 then tokB d.s 3
  else if d.kind = 2 then (quoteS d.s).isSome
  else if d.kind = 16 then opB d.s
  else decide (d.s = [])
def ExD.tB (d : ExD) : Bool :=
  if d.kind = 7 then tokB d.t 1
  else if d.kind = 14 then decide (d.t = []) || tokB d.t 1
  else decide (d.t = [])
def labB (l : List Str) (k : Int) : Bool := decide (l.length ≤ 30) && isB l && l.all fun s => tokB s k
def ExD.listsB (d : ExD) : Bool :=
  if d.kind = 8 then labB d.labels 1 && decide (d.nn = 0)
  else if d.kind = 14 then labB d.labels 3 && decide (d.nn = d.ln) && (d.names.all fun s => tokB s 1) && (decide (0 < d.ln) || !decide (d.t = []))
  else decide (d.ln = 0) && decide (d.nn = 0)
def ExD.fieldsB (d : ExD) : Bool := decide ((d.pn : Int) = partsF d.kind d.ln (!decide (d.t = []))) && (decide (d.n = 0) || (decide (d.kind = 1) && decide (0 < d.n))) && d.sB && d.tB && d.listsB

/-! ### Depth, nodes -/
mutual
def Ex.depth : Ex → Nat
  | .mk _ l => depthL l + 1
def depthL : List Ex → Nat
  | [] => 0
  | x :: l => max x.depth (depthL l)
end
mutual
def Ex.nodes : Ex → Nat
  | .mk _ l => 1 + enodesL l
def enodesL : List Ex → Nat
  | [] => 0
  | x :: l => x.nodes + enodesL l
end
theorem depthL_snoc : ∀ (l : List Ex) (x : Ex), depthL (l ++ [x]) = max (depthL l) x.depth
  | [], x => by simp [depthL]
  | y :: l, x => by simp only [List.cons_append, depthL, depthL_snoc l x]; omega
theorem enodesL_snoc : ∀ (l : List Ex) (x : Ex), enodesL (l ++ [x]) = enodesL l + x.nodes
  | [], x => by simp [enodesL]
  | y :: l, x => by simp only [List.cons_append, enodesL, enodesL_snoc l x]; omega
theorem depthL_mem : ∀ (l : List Ex) (x : Ex), x ∈ l → x.depth ≤ depthL l
  | [], x, h => by cases h
  | y :: l, x, h => by
    simp only [depthL]
    rcases List.mem_cons.1 h with rfl | h
    · omega
    · have := depthL_mem l x h; omega
theorem enodesL_mem : ∀ (l : List Ex) (x : Ex), x ∈ l → x.nodes ≤ enodesL l
  | [], x, h => by cases h
  | y :: l, x, h => by
    simp only [enodesL]
    rcases List.mem_cons.1 h with rfl | h
    · omega
    · have := enodesL_mem l x h; omega
theorem enodesL_take (l : List Ex) (k : Nat) : enodesL (l.take k) ≤ enodesL l := by
  have h : ∀ a b : List Ex, enodesL (a ++ b) = enodesL a + enodesL b := by
    intro a b
    induction a with
    | nil => simp [enodesL]
    | cons x a ih => simp only [List.cons_append, enodesL, ih]; omega
  have := h (l.take k) (l.drop k)
  rw [List.take_append_drop] at this
  omega
theorem depthL_take (l : List Ex) (k : Nat) : depthL (l.take k) ≤ depthL l := by
  have h : ∀ a b : List Ex, depthL (a ++ b) = max (depthL a) (depthL b) := by
    intro a b
    induction a with
    | nil => simp [depthL]
    | cons x a ih => simp only [List.cons_append, depthL, ih]; omega
  have := h (l.take k) (l.drop k)
  rw [List.take_append_drop] at this
  omega
theorem depth_le_nodes : ∀ (e : Ex), e.depth ≤ e.nodes
  | .mk d l => by
    have h : ∀ l : List Ex, (∀ x ∈ l, x.depth ≤ x.nodes) → depthL l ≤ enodesL l := by
      intro l hl
      induction l with
      | nil => simp [depthL]
      | cons x r ih => have := hl x (by simp); have := ih (fun y hy => hl y (by simp [hy])); simp only [depthL, enodesL]; omega
    have := h l (fun x hx => depth_le_nodes x)
    simp only [Ex.depth, Ex.nodes]; omega
theorem Ex.nodes_pos (e : Ex) : 1 ≤ e.nodes := by cases e; simp only [Ex.nodes]; omega
theorem Ex.depth_pos (e : Ex) : 1 ≤ e.depth := by cases e; simp only [Ex.depth]; omega

/-! ### Whether one may be -/
mutual
/-- How many nodes are met behind so many, so deep, if all may be. -/
def mayE : Ex → Nat → Nat → Option Nat
  | .mk d l, dep, k => if 60 < dep ∨ 1500 < k + 1 then none else if d.fieldsB = true then mayEL l (dep + 1) (k + 1) else none
def mayEL : List Ex → Nat → Nat → Option Nat
  | [], _, k => some k
  | x :: l, dep, k => match mayE x dep k with
    | none => none
    | some j => mayEL l dep j
end
mutual
def Ex.fineE : Ex → Bool
  | .mk d l => d.fieldsB && fineEL l
def fineEL : List Ex → Bool
  | [] => true
  | x :: l => x.fineE && fineEL l
end
theorem mayEL_snoc : ∀ (l : List Ex) (x : Ex) (dep k : Nat), mayEL (l ++ [x]) dep k = (match mayEL l dep k with | none => none | some j => mayE x dep j)
  | [], x, dep, k => by simp only [List.nil_append, mayEL]; cases mayE x dep k <;> rfl
  | y :: l, x, dep, k => by
    simp only [List.cons_append, mayEL]
    cases mayE y dep k with
    | none => rfl
    | some j => exact mayEL_snoc l x dep j
theorem mayEL_none : ∀ (l r : List Ex) (dep k : Nat), mayEL l dep k = none → mayEL (l ++ r) dep k = none
  | [], r, dep, k, h => by simp [mayEL] at h
  | y :: l, r, dep, k, h => by
    simp only [List.cons_append, mayEL] at h ⊢
    cases hy : mayE y dep k with
    | none => rfl
    | some j => rw [hy] at h; exact mayEL_none l r dep j h
theorem mayEL_take_none {l : List Ex} {i dep k : Nat} (h : mayEL (l.take i) dep k = none) : mayEL l dep k = none := by
  rw [← List.take_append_drop i l]; exact mayEL_none _ _ _ _ h
theorem fineEL_mem : ∀ {l : List Ex} {x : Ex}, fineEL l = true → x ∈ l → x.fineE = true
  | [], x, _, h => by cases h
  | y :: l, x, hf, h => by
    simp only [fineEL, Bool.and_eq_true] at hf
    rcases List.mem_cons.1 h with rfl | h
    · exact hf.1
    · exact fineEL_mem hf.2 h
mutual
theorem mayE_spec : ∀ (e : Ex) (dep k : Nat), mayE e dep k = if e.fineE = true ∧ dep + e.depth ≤ 61 ∧ k + e.nodes ≤ 1500 then some (k + e.nodes) else none
  | .mk d l, dep, k => by
    have hL := mayEL_spec l (dep + 1) (k + 1)
    unfold mayE
    simp only [Ex.fineE, Ex.depth, Ex.nodes, Bool.and_eq_true]
    by_cases h1 : 60 < dep ∨ 1500 < k + 1
    · rw [if_pos h1, if_neg (by omega)]
    · rw [if_neg h1]
      by_cases h2 : d.fieldsB = true
      · rw [if_pos h2, hL (by omega) (by omega)]
        by_cases h3 : fineEL l = true ∧ dep + 1 + depthL l ≤ 61 ∧ k + 1 + enodesL l ≤ 1500
        · rw [if_pos h3, if_pos ⟨⟨h2, h3.1⟩, by omega, by omega⟩]; congr 1; omega
        · rw [if_neg h3, if_neg (fun h => h3 ⟨h.1.2, by omega, by omega⟩)]
      · rw [if_neg h2, if_neg (fun h => h2 h.1.1)]
theorem mayEL_spec : ∀ (l : List Ex) (dep k : Nat), dep ≤ 61 → k ≤ 1500 → mayEL l dep k = if fineEL l = true ∧ dep + depthL l ≤ 61 ∧ k + enodesL l ≤ 1500 then some (k + enodesL l) else none
  | [], dep, k, hd, hk => by simp only [mayEL, fineEL, depthL, enodesL]; rw [if_pos ⟨trivial, by omega, by omega⟩]; simp
  | x :: l, dep, k, hd, hk => by
    unfold mayEL
    rw [mayE_spec x dep k]
    simp only [fineEL, depthL, enodesL, Bool.and_eq_true]
    by_cases h1 : x.fineE = true ∧ dep + x.depth ≤ 61 ∧ k + x.nodes ≤ 1500
    · rw [if_pos h1]
      show mayEL l dep (k + x.nodes) = _
      rw [mayEL_spec l dep (k + x.nodes) hd h1.2.2]
      by_cases h2 : fineEL l = true ∧ dep + depthL l ≤ 61 ∧ k + x.nodes + enodesL l ≤ 1500
      · rw [if_pos h2, if_pos ⟨⟨h1.1, h2.1⟩, by omega, by omega⟩]; congr 1; omega
      · rw [if_neg h2, if_neg (fun h => h2 ⟨h.1.2, by omega, by omega⟩)]
    · rw [if_neg h1, if_neg (fun h => h1 ⟨h.1.1, by omega, by omega⟩)]
end
theorem may_part {d : ExD} {l : List Ex} {x : Ex} (h : (mayE (.mk d l) 1 0).isSome = true) (hx : x ∈ l) : (mayE x 1 0).isSome = true := by
  rw [mayE_spec] at h ⊢
  split at h
  · rename_i hc
    simp only [Ex.fineE, Ex.depth, Ex.nodes, Bool.and_eq_true] at hc
    have h1 := fineEL_mem hc.1.2 hx
    have h2 := depthL_mem l x hx
    have h3 := enodesL_mem l x hx
    rw [if_pos ⟨h1, by omega, by omega⟩]; rfl
  · cases h
theorem may_le {e : Ex} (h : (mayE e 1 0).isSome = true) : e.depth ≤ 60 ∧ e.nodes ≤ 1500 := by
  rw [mayE_spec] at h
  split at h
  · rename_i hc; omega
  · cases h

/-! ### What is free -/
/-- The names that an expression binds in its part number i. -/
def ExD.boundF (d : ExD) (i : Nat) : List Str :=
  if (d.kind = 4 ∧ i = 0) ∨ (d.kind = 6 ∧ i = 1) ∨ (d.kind = 7 ∧ i = 1) then [d.s]
  else if d.kind = 7 ∧ i = 0 then [d.s, d.t]
  else if d.kind = 14 ∧ d.ln < i then [d.t]
  else if d.kind = 14 ∧ 0 < i ∧ i ≤ d.nn then (d.names.drop (i - 1)).take 1
  else []
mutual
def Ex.freeB : Ex → Str → Bool
  | .mk d l, x => (decide (d.kind = 3) && decide (x = d.s)) || freeLB d l 0 x
def freeLB (d : ExD) : List Ex → Nat → Str → Bool
  | [], _, _ => false
  | y :: l, i, x => (y.freeB x && !decide (x ∈ d.boundF i)) || freeLB d l (i + 1) x
end
theorem freeLB_snoc (d : ExD) (x : Str) (y : Ex) : ∀ (l : List Ex) (i : Nat), freeLB d (l ++ [y]) i x = (freeLB d l i x || (y.freeB x && !decide (x ∈ d.boundF (i + l.length))))
  | [], i => by simp [freeLB]
  | z :: l, i => by
    simp only [List.cons_append, freeLB, freeLB_snoc d x y l (i + 1), List.length_cons, Bool.or_assoc]
    rw [show i + 1 + l.length = i + (l.length + 1) from by omega]
theorem freeLB_at (d : ExD) (x : Str) : ∀ (l : List Ex) (i k : Nat) (hk : k < l.length), l[k].freeB x = true → x ∉ d.boundF (i + k) → freeLB d l i x = true
  | [], i, k, hk, _, _ => by simp at hk
  | y :: l, i, 0, hk, h, hb => by
    simp only [freeLB]
    have h' : y.freeB x = true := h
    have hb' : x ∉ d.boundF i := by simpa using hb
    simp [h', hb']
  | y :: l, i, k + 1, hk, h, hb => by
    simp only [freeLB]
    rw [freeLB_at d x l (i + 1) k (by simpa using hk) h (by rw [show i + 1 + k = i + (k + 1) from by omega]; exact hb)]
    simp
theorem free_part {d : ExD} {l : List Ex} {k : Nat} {x : Str} (hk : k < l.length) (h : l[k].freeB x = true) : x = d.s ∨ x = d.t ∨ (Ex.mk d l).freeB x = true ∨ x ∈ d.names := by
  by_cases hb : x ∈ d.boundF k
  · unfold ExD.boundF at hb
    split at hb
    · simp at hb; exact .inl hb
    split at hb
    · simp at hb; rcases hb with h | h
      · exact .inl h
      · exact .inr (.inl h)
    split at hb
    · simp at hb; exact .inr (.inl hb)
    split at hb
    · exact .inr (.inr (.inr (List.mem_of_mem_drop (List.mem_of_mem_take hb))))
    · cases hb
  · right; right; left
    simp only [Ex.freeB]
    rw [freeLB_at d x l 0 k hk h (by simpa using hb)]
    simp
end Go.Proofs.YtaglmmcjhlehjaaGreatDoor

namespace Go.Proofs.YtaglmmcjhlehjaaGreatDoor
open Go.ChangeShapes Go.WideShapes Go.ChangeAt Go.RowKit
set_option linter.unusedVariables false

section
variable {H : Type} {enc : TypeId × Value → H} {P : Program} {W : World} {base : Nat} {sp : Nat → Bool} {held : Bool}

/-- A slice's elements, each read as one of a kind of your own ('cells': its cells; 'good': what the reading says of it); by the slice's one cell. -/
theorem open_row {α : Type} {cells : α → List Value} {good : α → Prop} {t e : TypeId} {size : Nat} (ht : P.underlying t = some (.slice e)) (hC : P.cellsOf e = size) (hsz : ∀ y, (cells y).length = size) (h0 : 0 < size)
    (hel : ∀ (n : Nat) (cs : List Value) (x : DataW H × List MemPlace), DataW.trod enc P W base sp held n e cs = some x → ∃ y, cells y = cs ∧ good y)
    {fuel : Nat} {cs : List Value} {x : DataW H × List MemPlace} (hf : DataW.trod enc P W base sp held fuel t cs = some x) :
    ∃ (A : Option Addr) (n c : Nat) (l : List α), cs = [.slice A n c] ∧ n ≤ c ∧ c ≤ maxLen ∧ l.length = n ∧ Rd W size A n (l.flatMap cells) ∧ (A = none → c = 0) ∧ ∀ y ∈ l, good y := by
  rcases Go.Deep.open_slice ht hf with ⟨hcs, _⟩ | ⟨a, n, c, m, k, D, Pl, hcs, _, hl, hm, hmm, _, hi⟩
  · exact ⟨none, 0, 0, [], hcs, Nat.le_refl _, by simp [maxLen], rfl, Rd.nil _ _ _, fun _ => rfl, fun y hy => by cases hy⟩
  · rw [hC] at hi
    have hlm : n ≤ m := by rw [hmm]; split <;> omega
    have key : ∀ q, q ≤ n → ∃ l : List α, l.length = q ∧ (∀ y ∈ l, good y) ∧ Held W a (l.flatMap cells) := by
      intro q
      induction q with
      | zero => intro _; exact ⟨[], rfl, (fun y hy => by cases hy), (fun j u hu => by simp at hu)⟩
      | succ q ih =>
        intro hq
        obtain ⟨l, hlen, hg, hh⟩ := ih (by omega)
        obtain ⟨cs', hc, htr⟩ := hi q (by omega)
        obtain ⟨y, rfl, hy⟩ := hel _ _ _ htr
        obtain ⟨_, hcl, hat⟩ := World.cells?_some hc
        have hfl : (l.flatMap cells).length = q * size := by
          rw [← hlen]
          clear ih hh hg hlen
          induction l with
          | nil => simp
          | cons z r ih => simp only [List.flatMap_cons, List.length_append, hsz, ih, List.length_cons, Nat.add_mul]; omega
        refine ⟨l ++ [y], by simp [hlen], ?_, ?_⟩
        · intro z hz
          rcases List.mem_append.1 hz with hz | hz
          · exact hg z hz
          · simp at hz; subst hz; exact hy
        · intro j u hu
          simp only [List.flatMap_append, List.flatMap_cons, List.flatMap_nil, List.append_nil] at hu
          rw [List.getElem?_append] at hu
          split at hu
          · exact hh j u hu
          · rename_i hj
            rw [hfl] at hu hj
            have hjs : j - q * size < size := by
              have := (List.getElem?_eq_some_iff.1 hu).1; rw [hsz] at this; omega
            have := hat _ hjs
            rw [add_add, show q * size + (j - q * size) = j from by omega] at this
            rw [this, hu]
    obtain ⟨l, hlen, hg, hh⟩ := key n (Nat.le_refl _)
    refine ⟨some a, n, c, l, hcs, hl, hm, hlen, ⟨?_, fun _ => ⟨a, rfl, hh⟩⟩, (fun h => by cases h), hg⟩
    rw [← hlen]
    clear key hh hg hlen
    induction l with
    | nil => simp
    | cons z r ih => simp only [List.flatMap_cons, List.length_append, hsz, ih, List.length_cons, Nat.add_mul]; omega

theorem weights_mem {P : Program} {e : TypeId} {d : DataW H} : ∀ {ds : List (DataW H)}, d ∈ ds → ∀ q ∈ DataW.weights P e d, q ∈ DataW.weightsAll P e ds
  | [], h, q, hq => by cases h
  | d0 :: ds, h, q, hq => by
    simp only [DataW.weightsAll, List.mem_append]
    rcases List.mem_cons.1 h with rfl | h
    · exact .inl hq
    · exact .inr (weights_mem h q hq)

/-- The same, with how large what is read may be: no slice, no text in it takes more than B bytes. -/
theorem open_rowZ (B : Nat) {α : Type} {cells : α → List Value} {good : α → Prop} {t e : TypeId} {size : Nat} (ht : P.underlying t = some (.slice e)) (hC : P.cellsOf e = size) (hsz : ∀ y, (cells y).length = size) (h0 : 0 < size)
    (hel : ∀ (n : Nat) (cs : List Value) (x : DataW H × List MemPlace), DataW.trod enc P W base sp held n e cs = some x → (∀ q ∈ DataW.weights P e x.1, q ≤ B) → ∃ y, cells y = cs ∧ good y)
    {fuel : Nat} {cs : List Value} {x : DataW H × List MemPlace} (hf : DataW.trod enc P W base sp held fuel t cs = some x) (hB : ∀ q ∈ DataW.weights P t x.1, q ≤ B) :
    ∃ (A : Option Addr) (n c : Nat) (l : List α), cs = [.slice A n c] ∧ n ≤ c ∧ c ≤ maxLen ∧ l.length = n ∧ n * P.bytesOf e ≤ B ∧ Rd W size A n (l.flatMap cells) ∧ (A = none → c = 0) ∧ ∀ y ∈ l, good y := by
  rcases Go.Deep.open_slice ht hf with ⟨hcs, _⟩ | ⟨a, n, c, m, k, D, Pl, hcs, _, hl, hm, hmm, hx, hi⟩
  · exact ⟨none, 0, 0, [], hcs, Nat.le_refl _, by simp [maxLen], rfl, by simp, Rd.nil _ _ _, fun _ => rfl, fun y hy => by cases hy⟩
  · rw [hC] at hi
    rw [hx] at hB
    have hB1 : n * P.bytesOf e ≤ B := by
      refine Nat.le_trans ?_ (hB _ (by simp only [DataW.weights, ht]; exact List.mem_cons_self))
      rw [List.length_map, List.length_map, List.length_range, List.length_range]
      exact Nat.mul_le_mul_right _ (by omega)
    have hB2 : ∀ i, i < n → ∀ q ∈ DataW.weights P e (D i), q ≤ B := by
      intro i hi q hq
      refine hB q ?_
      simp only [DataW.weights, ht]
      exact List.mem_cons_of_mem _ (List.mem_append_left _ (weights_mem (List.mem_map.2 ⟨i, List.mem_range.2 hi, rfl⟩) q hq))
    have hlm : n ≤ m := by rw [hmm]; split <;> omega
    have key : ∀ q, q ≤ n → ∃ l : List α, l.length = q ∧ (∀ y ∈ l, good y) ∧ Held W a (l.flatMap cells) := by
      intro q
      induction q with
      | zero => intro _; exact ⟨[], rfl, (fun y hy => by cases hy), (fun j u hu => by simp at hu)⟩
      | succ q ih =>
        intro hq
        obtain ⟨l, hlen, hg, hh⟩ := ih (by omega)
        obtain ⟨cs', hc, htr⟩ := hi q (by omega)
        obtain ⟨y, rfl, hy⟩ := hel _ _ _ htr (hB2 q (by omega))
        obtain ⟨_, hcl, hat⟩ := World.cells?_some hc
        have hfl : (l.flatMap cells).length = q * size := by
          rw [← hlen]
          clear ih hh hg hlen
          induction l with
          | nil => simp
          | cons z r ih => simp only [List.flatMap_cons, List.length_append, hsz, ih, List.length_cons, Nat.add_mul]; omega
        refine ⟨l ++ [y], by simp [hlen], ?_, ?_⟩
        · intro z hz
          rcases List.mem_append.1 hz with hz | hz
          · exact hg z hz
          · simp at hz; subst hz; exact hy
        · intro j u hu
          simp only [List.flatMap_append, List.flatMap_cons, List.flatMap_nil, List.append_nil] at hu
          rw [List.getElem?_append] at hu
          split at hu
          · exact hh j u hu
          · rename_i hj
            rw [hfl] at hu hj
            have hjs : j - q * size < size := by
              have := (List.getElem?_eq_some_iff.1 hu).1; rw [hsz] at this; omega
            have := hat _ hjs
            rw [add_add, show q * size + (j - q * size) = j from by omega] at this
            rw [this, hu]
    obtain ⟨l, hlen, hg, hh⟩ := key n (Nat.le_refl _)
    refine ⟨some a, n, c, l, hcs, hl, hm, hlen, hB1, ⟨?_, fun _ => ⟨a, rfl, hh⟩⟩, (fun h => by cases h), hg⟩
    rw [← hlen]
    clear key hh hg hlen
    induction l with
    | nil => simp
    | cons z r ih => simp only [List.flatMap_cons, List.length_append, hsz, ih, List.length_cons, Nat.add_mul]; omega

/-- The same of an argument. -/
theorem open_elems {α : Type} {cells : α → List Value} {good : α → Prop} {t e : TypeId} {size : Nat} (ht : P.underlying t = some (.slice e)) (hC : P.cellsOf e = size) (hsz : ∀ y, (cells y).length = size) (h0 : 0 < size)
    (hel : ∀ (n : Nat) (cs : List Value) (x : DataW H × List MemPlace), DataW.trod enc P W base sp held n e cs = some x → ∃ y, cells y = cs ∧ good y)
    {b0 : Nat} {r : Reach} {v : Value} {d : DataW H} {ps : List MemPlace} (hv : Value.okWide P W r b0 t v) (h : DataW.Trod enc P W base sp held t v d ps) :
    ∃ (A : Option Addr) (n c : Nat) (l : List α), v = .slice A n c ∧ n ≤ c ∧ c ≤ maxLen ∧ l.length = n ∧ Rd W size A n (l.flatMap cells) ∧ ∀ y ∈ l, good y := by
  obtain ⟨A, n, c, rfl⟩ := okWide_slice ht hv
  obtain ⟨fuel, hf⟩ := h
  obtain ⟨A', n', c', l, hcs, h1, h2, h3, h4, _, h5⟩ := open_row ht hC hsz h0 hel hf
  simp [Value.cells] at hcs
  obtain ⟨rfl, rfl, rfl⟩ := hcs
  exact ⟨A, n, c, l, rfl, h1, h2, h3, h4, h5⟩
end
end Go.Proofs.YtaglmmcjhlehjaaGreatDoor

namespace Go.Proofs.YtaglmmcjhlehjaaGreatDoor
open Go.ChangeShapes Go.WideShapes Go.ChangeAt Go.RowKit
set_option linter.unusedVariables false

/-- The cells of bytes. -/
def u8s (l : List UInt8) : List Value := l.map fun b => .int .u8 b.toNat
theorem u8s_length (l : List UInt8) : (u8s l).length = l.length := by simp [u8s]
theorem u8s_append (a b : List UInt8) : u8s (a ++ b) = u8s a ++ u8s b := by simp [u8s]
theorem u8s_one (l : List UInt8) : ∀ u ∈ u8s l, u.oneCell' = true := by
  intro u hu; obtain ⟨_, _, rfl⟩ := List.mem_map.1 hu; rfl
theorem u8s_at (l : List UInt8) (k : Nat) (h : k < l.length) : (u8s l)[k]? = some (.int .u8 l[k].toNat) := by simp [u8s, h]
theorem u8s_cut (l : List UInt8) (lo n : Nat) : ((u8s l).drop (lo * 1)).take (n * 1) = u8s ((l.drop lo).take n) := by simp [u8s, List.map_take, List.map_drop]
theorem u8s_flat (l : List UInt8) : u8s l = l.flatMap fun b => [.int .u8 b.toNat] := by
  induction l with
  | nil => rfl
  | cons x r ih => simp [u8s] at ih ⊢; exact ih
theorem elU8 : ElemTy Tryz.prog 61 5 (.int .u8 0) 1 1 := ⟨Tryz.underlying61, by kernel_rfl, rfl, by decide, by decide⟩
theorem one_u8 (x : Int) : ∀ u ∈ (#[Value.int .u8 x] : Array Value).toList, u.oneCell' = true := by
  intro u hu; simp at hu; subst hu; rfl
theorem two_u8 (x y : Int) : ∀ u ∈ (#[Value.int .u8 x, .int .u8 y] : Array Value).toList, u.oneCell' = true := by
  intro u hu; simp at hu; rcases hu with rfl | rfl <;> rfl
theorem Rd.bytesN {w : World} {A : Option Addr} {n : Nat} {l : List UInt8} (h : Rd w 1 A n (u8s l)) : l.length = n := by have := h.1; rw [u8s_length] at this; omega
theorem Rd.byte {w : World} {A : Option Addr} {n : Nat} {l : List UInt8} (h : Rd w 1 A n (u8s l)) {k : Nat} (hk : k < l.length) : ∃ b o, A = some ⟨b, o, none⟩ ∧ b < w.heap.size ∧ ∀ j (hj : j < l.length), w.cell? ⟨b, o + j, none⟩ = some (.int .u8 l[j].toNat) := by
  obtain ⟨b, o, rfl, hb, hh⟩ := h.base (by rw [u8s_length]; omega)
  exact ⟨b, o, rfl, hb, fun j hj => hh j _ (u8s_at l j hj)⟩
theorem Rd.part {w : World} {b o n : Nat} {l : List UInt8} (h : Rd w 1 (some ⟨b, o, none⟩) n (u8s l)) (k m : Nat) (hm : k + m ≤ l.length) : Rd w 1 (some ⟨b, o + k, none⟩) m (u8s ((l.drop k).take m)) := by
  have hn := h.bytesN
  have h1 := h.cut (lo := k) (hi := k + m) (k := k) (by omega) (by omega) (by omega)
  rw [show k + m - k = m from by omega, u8s_cut] at h1
  have e2 : (some (⟨b, o, none⟩ : Addr)).map (fun x => x.add k) = some ⟨b, o + k, none⟩ := by simp [Addr.add_lit]
  rwa [e2] at h1

theorem conv_bytes {w : World} {A : Option Addr} {l : List UInt8} {n c : Nat} (hn : l.length = n) (h : Rd w 1 A n (u8s l)) : (convert 61 9 (.slice A n c)).run Tryz.prog w = .ok (.string (bstr l)) w := by
  subst hn
  cases A with
  | none =>
    have hl : l = [] := by
      cases l with
      | nil => rfl
      | cons a t => obtain ⟨a, e, _⟩ := h.2 (by simp [u8s]); cases e
    subst hl
    rw [show ([] : List UInt8).length = 0 from rfl, run_convert_bytes_string w _ _ 5 none 0 c Tryz.underlying61 Tryz.underlying5 Tryz.underlying9]
    simp [Conv.bytesToString]
    rfl
  | some a =>
    refine run_convert_bytes_back w _ _ 5 a c l Tryz.underlying61 Tryz.underlying5 Tryz.underlying9 (fun j hj => ?_)
    obtain ⟨a', e, hh⟩ := h.2 (by rw [u8s_length]; omega)
    injection e with e
    subst e
    exact hh j _ (u8s_at l j hj)
theorem conv_part {w : World} {b o n : Nat} {l : List UInt8} (h : Rd w 1 (some ⟨b, o, none⟩) n (u8s l)) (k m c : Nat) (hm : k + m ≤ l.length) : (convert 61 9 (.slice (some ⟨b, o + k, none⟩) m c)).run Tryz.prog w = .ok (.string (bstr ((l.drop k).take m))) w :=
  conv_bytes (by rw [List.length_take, List.length_drop]; omega) (h.part k m hm)

/- Bytes that came in. -/
set_option maxRecDepth 100000 in
theorem open_u8s {H : Type} {enc : TypeId × Value → H} {W : World} {base : Nat} {sp : Nat → Bool} {held : Bool} {b0 : Nat} {r : Reach} {v : Value} {d : DataW H} {ps : List MemPlace}
    (hv : Value.okWide Tryz.prog W r b0 61 v) (h : DataW.Trod enc Tryz.prog W base sp held 61 v d ps) :
    ∃ (A : Option Addr) (n c : Nat) (l : List UInt8), v = .slice A n c ∧ n ≤ c ∧ c ≤ maxLen ∧ n = l.length ∧ Rd W 1 A n (u8s l) := by
  obtain ⟨A, n, c, l, h1, h2, h3, h4, h5, _⟩ := open_elems (α := UInt8) (cells := fun b => [.int .u8 b.toNat]) (good := fun _ => True) Tryz.underlying61 (by kernel_rfl : Tryz.prog.cellsOf 5 = 1) (fun _ => rfl) (by omega)
    (fun n cs x hx => by
      obtain ⟨m, rfl, _, hm⟩ := DataW.trod_int Tryz.underlying5 hx
      have hr : 0 ≤ m ∧ m ≤ 255 := by simpa [Lit.wf, IntKind.min, IntKind.max, IntKind.signed, IntKind.bits] using hm
      refine ⟨UInt8.ofNat m.toNat, ?_, trivial⟩
      simp only [List.cons.injEq, Value.int.injEq, true_and, and_true]
      have : (UInt8.ofNat m.toNat).toNat = m.toNat := by simp; omega
      omega) hv h
  refine ⟨A, n, c, l, h1, h2, h3, h4.symm, ?_⟩
  rw [u8s_flat]; exact h5
end Go.Proofs.YtaglmmcjhlehjaaGreatDoor

namespace Go.Proofs.YtaglmmcjhlehjaaGreatDoor
open Go.ChangeShapes Go.WideShapes Go.ChangeAt Go.RowKit
set_option linter.unusedVariables false

theorem isLower_any (c : UInt8) (w : World) : Calls Tryz.prog 145 #[.int .u8 (c.toNat : Int)] w fun e w' => e = .returned (.bool (lowB c)) ∧ w = w' := by
  go_enter Tryz.func145, Tryz.ntmps145
  go_wp2_with fail
  all_goals
    go_returns
    exact ⟨ret_eq (congrArg Value.bool (by unfold lowB; rw [Bool.eq_iff_iff]; simp <;> omega)), rfl⟩
theorem isUpper_any (c : UInt8) (w : World) : Calls Tryz.prog 148 #[.int .u8 (c.toNat : Int)] w fun e w' => e = .returned (.bool (highB c)) ∧ w = w' := by
  go_enter Tryz.func148, Tryz.ntmps148
  go_wp2_with fail
  all_goals
    go_returns
    exact ⟨ret_eq (congrArg Value.bool (by unfold highB; rw [Bool.eq_iff_iff]; simp <;> omega)), rfl⟩
theorem isDigit_any (c : UInt8) (w : World) : Calls Tryz.prog 150 #[.int .u8 (c.toNat : Int)] w fun e w' => e = .returned (.bool (digB c)) ∧ w = w' := by
  go_enter Tryz.func150, Tryz.ntmps150
  go_wp2_with fail
  all_goals
    go_returns
    exact ⟨ret_eq (congrArg Value.bool (by unfold digB; rw [Bool.eq_iff_iff]; simp <;> omega)), rfl⟩
theorem isPlain_any (c : UInt8) (w : World) : Calls Tryz.prog 82 #[.int .u8 (c.toNat : Int)] w fun e w' => e = .returned (.bool (plainB c)) ∧ w = w' := by
  go_enter Tryz.func82, Tryz.ntmps82
  go_wp2_with fail
  all_goals
    go_returns
    exact ⟨ret_eq (congrArg Value.bool (by unfold plainB; rw [Bool.eq_iff_iff]; simp <;> omega)), rfl⟩
theorem isSpc_any (c : UInt8) (w : World) : Calls Tryz.prog 144 #[.int .u8 (c.toNat : Int)] w fun e w' => e = .returned (.bool (spcB c)) ∧ w = w' := by
  go_enter Tryz.func144, Tryz.ntmps144
  go_wp2_with fail
  all_goals
    go_returns
    exact ⟨ret_eq (congrArg Value.bool (by unfold spcB; rw [Bool.eq_iff_iff]; simp <;> omega)), rfl⟩
theorem refLow_any (c : UInt8) (w : World) : Calls Tryz.prog 132 #[.int .u8 (c.toNat : Int)] w fun e w' => e = .returned (.bool (lowB c)) ∧ w = w' := by
  go_enter Tryz.func132, Tryz.ntmps132
  go_wp2_with fail
  all_goals
    go_returns
    exact ⟨ret_eq (congrArg Value.bool (by unfold lowB; rw [Bool.eq_iff_iff]; simp <;> omega)), rfl⟩
theorem refHigh_any (c : UInt8) (w : World) : Calls Tryz.prog 133 #[.int .u8 (c.toNat : Int)] w fun e w' => e = .returned (.bool (highB c)) ∧ w = w' := by
  go_enter Tryz.func133, Tryz.ntmps133
  go_wp2_with fail
  all_goals
    go_returns
    exact ⟨ret_eq (congrArg Value.bool (by unfold highB; rw [Bool.eq_iff_iff]; simp <;> omega)), rfl⟩
theorem refDigit_any (c : UInt8) (w : World) : Calls Tryz.prog 134 #[.int .u8 (c.toNat : Int)] w fun e w' => e = .returned (.bool (digB c)) ∧ w = w' := by
  go_enter Tryz.func134, Tryz.ntmps134
  go_wp2_with fail
  all_goals
    go_returns
    exact ⟨ret_eq (congrArg Value.bool (by unfold digB; rw [Bool.eq_iff_iff]; simp <;> omega)), rfl⟩
theorem inName_any (c : UInt8) (w : World) : Calls Tryz.prog 147 #[.int .u8 (c.toNat : Int)] w fun e w' => e = .returned (.bool (nameB c)) ∧ w = w' := by
  cases h1 : lowB c with
  | false =>
    have e : nameB c = digB c := by unfold nameB; rw [h1]; rfl
    rw [e]
    have H1 := Lib.hid h1
    clear h1 e
    go_enter Tryz.func147, Tryz.ntmps147
    go_wp2_with fail
    refine (isLower_any c w).mono ?_
    rw [H1.out]
    rintro e w1 ⟨rfl, rfl⟩
    go_wp2_with fail
    refine (isDigit_any c w).mono ?_
    rintro e w1 ⟨rfl, rfl⟩
    go_wp2_with fail
    go_returns
    exact ⟨rfl, rfl⟩
  | true =>
    have e : nameB c = true := by unfold nameB; rw [h1]; rfl
    rw [e]
    have H1 := Lib.hid h1
    clear h1 e
    go_enter Tryz.func147, Tryz.ntmps147
    go_wp2_with fail
    refine (isLower_any c w).mono ?_
    rw [H1.out]
    rintro e w1 ⟨rfl, rfl⟩
    go_wp2_with fail
    go_returns
    exact ⟨rfl, rfl⟩
theorem inTag_any (c : UInt8) (w : World) : Calls Tryz.prog 149 #[.int .u8 (c.toNat : Int)] w fun e w' => e = .returned (.bool (tagB c)) ∧ w = w' := by
  cases h1 : lowB c with
  | false =>
    cases h2 : highB c with
    | false =>
      have e : tagB c = digB c := by unfold tagB; rw [h1, h2]; rfl
      rw [e]
      have H1 := Lib.hid h1
      have H2 := Lib.hid h2
      clear h1 h2 e
      go_enter Tryz.func149, Tryz.ntmps149
      go_wp2_with fail
      refine (isLower_any c w).mono ?_
      rw [H1.out]
      rintro e w1 ⟨rfl, rfl⟩
      go_wp2_with fail
      refine (isUpper_any c w).mono ?_
      rw [H2.out]
      rintro e w1 ⟨rfl, rfl⟩
      go_wp2_with fail
      refine (isDigit_any c w).mono ?_
      rintro e w1 ⟨rfl, rfl⟩
      go_wp2_with fail
      go_returns
      exact ⟨rfl, rfl⟩
    | true =>
      have e : tagB c = true := by unfold tagB; rw [h1, h2]; rfl
      rw [e]
      have H1 := Lib.hid h1
      have H2 := Lib.hid h2
      clear h1 h2 e
      go_enter Tryz.func149, Tryz.ntmps149
      go_wp2_with fail
      refine (isLower_any c w).mono ?_
      rw [H1.out]
      rintro e w1 ⟨rfl, rfl⟩
      go_wp2_with fail
      refine (isUpper_any c w).mono ?_
      rw [H2.out]
      rintro e w1 ⟨rfl, rfl⟩
      go_wp2_with fail
      go_returns
      exact ⟨rfl, rfl⟩
  | true =>
    have e : tagB c = true := by unfold tagB; rw [h1]; rfl
    rw [e]
    have H1 := Lib.hid h1
    clear h1 e
    go_enter Tryz.func149, Tryz.ntmps149
    go_wp2_with fail
    refine (isLower_any c w).mono ?_
    rw [H1.out]
    rintro e w1 ⟨rfl, rfl⟩
    go_wp2_with fail
    go_returns
    exact ⟨rfl, rfl⟩
theorem escaped_any (c : UInt8) (w : World) : Calls Tryz.prog 157 #[.int .u8 (c.toNat : Int)] w fun e w' => e = .returned (.tuple #[.int .u8 (if escB c then ((unesc c).toNat : Int) else 0), .bool (escB c)]) ∧ w = w' := by
  by_cases h1 : c.toNat = 34
  · have hc : c = 34 := nat_u8 h1
    subst hc
    go_enter Tryz.func157, Tryz.ntmps157
    go_wp2
    go_returns
    exact ⟨rfl, rfl⟩
  · by_cases h2 : c.toNat = 92
    · have hc : c = 92 := nat_u8 h2
      subst hc
      go_enter Tryz.func157, Tryz.ntmps157
      go_wp2
      go_returns
      exact ⟨rfl, rfl⟩
    · by_cases h3 : c.toNat = 110
      · have hc : c = 110 := nat_u8 h3
        subst hc
        go_enter Tryz.func157, Tryz.ntmps157
        go_wp2
        go_returns
        exact ⟨rfl, rfl⟩
      · have he : escB c = false := by unfold escB; rw [decide_eq_false_iff_not]; omega
        rw [he]
        have g1 : ((c.toNat : Int) == 34) = false := by rw [beq_eq_false_iff_ne]; omega
        have g2 : ((c.toNat : Int) == 92) = false := by rw [beq_eq_false_iff_ne]; omega
        have g3 : ((c.toNat : Int) == 110) = false := by rw [beq_eq_false_iff_ne]; omega
        clear he h1 h2 h3
        go_enter Tryz.func157, Tryz.ntmps157
        go_wp2
        go_returns
        exact ⟨rfl, rfl⟩

/-- Where bytes of a kind end. -/
def endB (p : UInt8 → Bool) (l : Str) (k : Nat) : Nat := k + ((l.drop k).takeWhile p).length
theorem endB_le (p : UInt8 → Bool) (l : Str) (k : Nat) (h : k ≤ l.length) : k ≤ endB p l k ∧ endB p l k ≤ l.length := by
  unfold endB
  have := tw_le (p := p) (l.drop k)
  rw [List.length_drop] at this; omega
theorem endB_yes (p : UInt8 → Bool) (l : Str) (k : Nat) (h : k < l.length) (hp : p l[k] = true) : endB p l (k + 1) = endB p l k := by
  unfold endB
  rw [List.drop_eq_getElem_cons h, List.takeWhile_cons, hp]
  simp; omega
theorem endB_no (p : UInt8 → Bool) (l : Str) (k : Nat) (h : k < l.length) (hp : p l[k] = false) : endB p l k = k := by
  unfold endB
  rw [List.drop_eq_getElem_cons h, List.takeWhile_cons, hp]
  simp
theorem endB_end (p : UInt8 → Bool) (l : Str) (k : Nat) (h : l.length ≤ k) : endB p l k = k := by
  unfold endB
  rw [List.drop_of_length_le h]
  simp

theorem afterSpc_any (A : Option Addr) (l : Str) (cp k : Nat) (w : World) (hr : Rd w 1 A l.length (u8s l)) (hk : k ≤ l.length) (hm : l.length ≤ 1048576) :
    Calls Tryz.prog 143 #[.slice A l.length cp, .int .i64 (k : Int), .func (.func 144) #[] #[]] w fun e w' => e = .returned (.int .i64 ((endB spcB l k : Nat) : Int)) ∧ w = w' := by
  go_enter Tryz.func143, Tryz.ntmps143
  go_wp2_with fail
  go_loop [1] (fun i => ∃ q : Nat, i = .int .i64 q ∧ q ≤ l.length ∧ endB spcB l q = endB spcB l k) (fun i => l.length - (intOf i).toNat)
  case atStart => exact ⟨k, rfl, hk, rfl⟩
  case round =>
    obtain ⟨q, rfl, hq, he⟩ := hrel
    have HE := Lib.hid he
    clear he
    by_cases hlt : q < l.length
    · obtain ⟨b, o, rfl, hb, hc⟩ := hr.byte (k := q) hlt
      have g0 := hc q hlt
      have HR := Lib.hid hr
      clear hc hr
      have e0 : (q : Int) < (l.length : Int) := by omega
      cases hp : spcB l[q] with
      | true =>
        have HP := Lib.hid (endB_yes spcB l q hlt hp)
        have HPP := Lib.hid hp
        clear hp
        go_wp2_with fail
        refine (isSpc_any l[q] w).mono ?_
        rw [HPP.out]
        rintro e w1 ⟨rfl, rfl⟩
        go_wp2_with fail
        go_round
        case rel => exact ⟨q + 1, by go_num, by omega, HP.out.trans HE.out⟩
        case measure => simp [intOf] <;> omega
      | false =>
        have HP := Lib.hid (endB_no spcB l q hlt hp)
        have HPP := Lib.hid hp
        clear hp
        go_wp2_with fail
        refine (isSpc_any l[q] w).mono ?_
        rw [HPP.out]
        rintro e w1 ⟨rfl, rfl⟩
        go_wp2_with fail
        go_returns
        exact ⟨by rw [← HE.out, HP.out]; rfl, rfl⟩
    · have e0 : ¬ (q : Int) < (l.length : Int) := by omega
      go_wp2_with fail
      go_returns
      exact ⟨by rw [← HE.out, endB_end spcB l q (by omega)]; rfl, rfl⟩

theorem afterName_any (A : Option Addr) (l : Str) (cp k : Nat) (w : World) (hr : Rd w 1 A l.length (u8s l)) (hk : k ≤ l.length) (hm : l.length ≤ 1048576) :
    Calls Tryz.prog 143 #[.slice A l.length cp, .int .i64 (k : Int), .func (.func 147) #[] #[]] w fun e w' => e = .returned (.int .i64 ((endB nameB l k : Nat) : Int)) ∧ w = w' := by
  go_enter Tryz.func143, Tryz.ntmps143
  go_wp2_with fail
  go_loop [1] (fun i => ∃ q : Nat, i = .int .i64 q ∧ q ≤ l.length ∧ endB nameB l q = endB nameB l k) (fun i => l.length - (intOf i).toNat)
  case atStart => exact ⟨k, rfl, hk, rfl⟩
  case round =>
    obtain ⟨q, rfl, hq, he⟩ := hrel
    have HE := Lib.hid he
    clear he
    by_cases hlt : q < l.length
    · obtain ⟨b, o, rfl, hb, hc⟩ := hr.byte (k := q) hlt
      have g0 := hc q hlt
      have HR := Lib.hid hr
      clear hc hr
      have e0 : (q : Int) < (l.length : Int) := by omega
      cases hp : nameB l[q] with
      | true =>
        have HP := Lib.hid (endB_yes nameB l q hlt hp)
        have HPP := Lib.hid hp
        clear hp
        go_wp2_with fail
        refine (inName_any l[q] w).mono ?_
        rw [HPP.out]
        rintro e w1 ⟨rfl, rfl⟩
        go_wp2_with fail
        go_round
        case rel => exact ⟨q + 1, by go_num, by omega, HP.out.trans HE.out⟩
        case measure => simp [intOf] <;> omega
      | false =>
        have HP := Lib.hid (endB_no nameB l q hlt hp)
        have HPP := Lib.hid hp
        clear hp
        go_wp2_with fail
        refine (inName_any l[q] w).mono ?_
        rw [HPP.out]
        rintro e w1 ⟨rfl, rfl⟩
        go_wp2_with fail
        go_returns
        exact ⟨by rw [← HE.out, HP.out]; rfl, rfl⟩
    · have e0 : ¬ (q : Int) < (l.length : Int) := by omega
      go_wp2_with fail
      go_returns
      exact ⟨by rw [← HE.out, endB_end nameB l q (by omega)]; rfl, rfl⟩

theorem afterTag_any (A : Option Addr) (l : Str) (cp k : Nat) (w : World) (hr : Rd w 1 A l.length (u8s l)) (hk : k ≤ l.length) (hm : l.length ≤ 1048576) :
    Calls Tryz.prog 143 #[.slice A l.length cp, .int .i64 (k : Int), .func (.func 149) #[] #[]] w fun e w' => e = .returned (.int .i64 ((endB tagB l k : Nat) : Int)) ∧ w = w' := by
  go_enter Tryz.func143, Tryz.ntmps143
  go_wp2_with fail
  go_loop [1] (fun i => ∃ q : Nat, i = .int .i64 q ∧ q ≤ l.length ∧ endB tagB l q = endB tagB l k) (fun i => l.length - (intOf i).toNat)
  case atStart => exact ⟨k, rfl, hk, rfl⟩
  case round =>
    obtain ⟨q, rfl, hq, he⟩ := hrel
    have HE := Lib.hid he
    clear he
    by_cases hlt : q < l.length
    · obtain ⟨b, o, rfl, hb, hc⟩ := hr.byte (k := q) hlt
      have g0 := hc q hlt
      have HR := Lib.hid hr
      clear hc hr
      have e0 : (q : Int) < (l.length : Int) := by omega
      cases hp : tagB l[q] with
      | true =>
        have HP := Lib.hid (endB_yes tagB l q hlt hp)
        have HPP := Lib.hid hp
        clear hp
        go_wp2_with fail
        refine (inTag_any l[q] w).mono ?_
        rw [HPP.out]
        rintro e w1 ⟨rfl, rfl⟩
        go_wp2_with fail
        go_round
        case rel => exact ⟨q + 1, by go_num, by omega, HP.out.trans HE.out⟩
        case measure => simp [intOf] <;> omega
      | false =>
        have HP := Lib.hid (endB_no tagB l q hlt hp)
        have HPP := Lib.hid hp
        clear hp
        go_wp2_with fail
        refine (inTag_any l[q] w).mono ?_
        rw [HPP.out]
        rintro e w1 ⟨rfl, rfl⟩
        go_wp2_with fail
        go_returns
        exact ⟨by rw [← HE.out, HP.out]; rfl, rfl⟩
    · have e0 : ¬ (q : Int) < (l.length : Int) := by omega
      go_wp2_with fail
      go_returns
      exact ⟨by rw [← HE.out, endB_end tagB l q (by omega)]; rfl, rfl⟩

theorem afterDigit_any (A : Option Addr) (l : Str) (cp k : Nat) (w : World) (hr : Rd w 1 A l.length (u8s l)) (hk : k ≤ l.length) (hm : l.length ≤ 1048576) :
    Calls Tryz.prog 143 #[.slice A l.length cp, .int .i64 (k : Int), .func (.func 150) #[] #[]] w fun e w' => e = .returned (.int .i64 ((endB digB l k : Nat) : Int)) ∧ w = w' := by
  go_enter Tryz.func143, Tryz.ntmps143
  go_wp2_with fail
  go_loop [1] (fun i => ∃ q : Nat, i = .int .i64 q ∧ q ≤ l.length ∧ endB digB l q = endB digB l k) (fun i => l.length - (intOf i).toNat)
  case atStart => exact ⟨k, rfl, hk, rfl⟩
  case round =>
    obtain ⟨q, rfl, hq, he⟩ := hrel
    have HE := Lib.hid he
    clear he
    by_cases hlt : q < l.length
    · obtain ⟨b, o, rfl, hb, hc⟩ := hr.byte (k := q) hlt
      have g0 := hc q hlt
      have HR := Lib.hid hr
      clear hc hr
      have e0 : (q : Int) < (l.length : Int) := by omega
      cases hp : digB l[q] with
      | true =>
        have HP := Lib.hid (endB_yes digB l q hlt hp)
        have HPP := Lib.hid hp
        clear hp
        go_wp2_with fail
        refine (isDigit_any l[q] w).mono ?_
        rw [HPP.out]
        rintro e w1 ⟨rfl, rfl⟩
        go_wp2_with fail
        go_round
        case rel => exact ⟨q + 1, by go_num, by omega, HP.out.trans HE.out⟩
        case measure => simp [intOf] <;> omega
      | false =>
        have HP := Lib.hid (endB_no digB l q hlt hp)
        have HPP := Lib.hid hp
        clear hp
        go_wp2_with fail
        refine (isDigit_any l[q] w).mono ?_
        rw [HPP.out]
        rintro e w1 ⟨rfl, rfl⟩
        go_wp2_with fail
        go_returns
        exact ⟨by rw [← HE.out, HP.out]; rfl, rfl⟩
    · have e0 : ¬ (q : Int) < (l.length : Int) := by omega
      go_wp2_with fail
      go_returns
      exact ⟨by rw [← HE.out, endB_end digB l q (by omega)]; rfl, rfl⟩

theorem afterSpace_any (A : Option Addr) (l : Str) (cp k : Nat) (w : World) (hr : Rd w 1 A l.length (u8s l)) (hk : k ≤ l.length) (hm : l.length ≤ 1048576) :
    Calls Tryz.prog 140 #[.slice A l.length cp, .int .i64 (k : Int)] w fun e w' => e = .returned (.int .i64 ((endB spcB l k : Nat) : Int)) ∧ w = w' := by
  go_enter Tryz.func140, Tryz.ntmps140
  go_wp2_with fail
  refine (afterSpc_any A l cp k w hr hk hm).mono ?_
  rintro e w1 ⟨rfl, rfl⟩
  go_wp2_with fail
  go_returns
  exact ⟨rfl, rfl⟩
end Go.Proofs.YtaglmmcjhlehjaaGreatDoor
