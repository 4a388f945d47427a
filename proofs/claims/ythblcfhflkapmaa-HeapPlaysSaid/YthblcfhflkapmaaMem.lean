/-
  What a slice holds: 'Rd w size A n cs': the slice with address A and length n holds the cells cs (size cells an element); and how that lasts.
-/
import Derived.Test.YthblcfhflkapmaaBase
import Derived.Maps.AppendAt
import Derived.Deep.AppendLies
namespace Go.Proofs.Ythblcfhflkapmaa
open Go.ChangeShapes Go.WideShapes Go.ChangeAt Go.RowKit
set_option linter.unusedVariables false

@[go_sem] theorem add_block (a : Addr) (n : Nat) : (a.add n).block = a.block := by unfold Addr.add; split <;> rfl
theorem add_add (a : Addr) (i j : Nat) : (a.add i).add j = a.add (i + j) := by
  unfold Addr.add
  by_cases hi : i = 0
  · subst hi; simp
  · by_cases hj : j = 0
    · subst hj; simp [hi]
    · simp [hi, hj, Nat.add_assoc]
theorem add_zero (a : Addr) : a.add 0 = a := by simp [Addr.add]

/-- The cells from an address on. -/
def Held (w : World) (a : Addr) (cs : List Value) : Prop := ∀ j u, cs[j]? = some u → w.cell? (a.add j) = some u

/-- What a slice holds. -/
def Rd (w : World) (size : Nat) (A : Option Addr) (n : Nat) (cs : List Value) : Prop :=
  cs.length = n * size ∧ (0 < cs.length → ∃ a, A = some a ∧ Held w a cs)

section
variable {w w' : World} {size n : Nat} {A : Option Addr} {cs : List Value}
theorem Held.block {a : Addr} (h : Held w a cs) (h0 : 0 < cs.length) : a.block < w.heap.size := by
  have h1 := h 0 cs[0] (List.getElem?_eq_getElem h0)
  rw [add_zero] at h1
  exact World.block_lt_of_cell? w a h1
theorem Held.keep {a : Addr} (h : Held w a cs) (h0 : 0 < cs.length) (hk : ∀ p : Addr, p.block < w.heap.size → w'.cell? p = w.cell? p) : Held w' a cs :=
  fun j u hu => (hk _ (by rw [add_block]; exact h.block h0)).trans (h j u hu)
theorem Rd.nil (w : World) (size : Nat) (A : Option Addr) : Rd w size A 0 [] := ⟨by simp, fun h => absurd h (by simp)⟩
theorem Rd.len (h : Rd w size A n cs) : cs.length = n * size := h.1
theorem Rd.keep (h : Rd w size A n cs) (hk : ∀ p : Addr, p.block < w.heap.size → w'.cell? p = w.cell? p) : Rd w' size A n cs :=
  ⟨h.1, fun hn => let ⟨a, e, hc⟩ := h.2 hn; ⟨a, e, hc.keep hn hk⟩⟩
theorem Rd.below (h : Rd w size A n cs) (hb : Below w.heap.size w w') : Rd w' size A n cs := h.keep fun _ hp => hb.cell hp
theorem Rd.drewN (h : Rd w size A n cs) (k : Nat) : Rd (w.drewN k) size A n cs := h
theorem Rd.drew (h : Rd w size A n cs) : Rd w.drew size A n cs := h
theorem Rd.alloc (h : Rd w size A n cs) (o : Obj) : Rd (w.alloc o) size A n cs := h.keep fun p hp => World.cell?_alloc_lt w o p (by omega)
theorem Rd.at_ (h : Rd w size A n cs) {k : Nat} (hk : k < cs.length) : ∃ a u, A = some a ∧ cs[k]? = some u ∧ w.cell? (a.add k) = some u := by
  obtain ⟨a, e, hc⟩ := h.2 (by omega)
  exact ⟨a, cs[k], e, List.getElem?_eq_getElem hk, hc k _ (List.getElem?_eq_getElem hk)⟩
theorem Rd.addr (h : Rd w size A n cs) (h0 : 0 < cs.length) : ∃ a, A = some a ∧ a.block < w.heap.size ∧ Held w a cs := by
  obtain ⟨a, e, hc⟩ := h.2 h0
  exact ⟨a, e, hc.block h0, hc⟩
theorem Rd.of_own {base : Nat} {e : TypeId} {c : Nat} (h : w.ownsRow base e size (.slice A n c) n cs) : Rd w size A n cs := by
  refine ⟨h.1, fun hn => ?_⟩
  rcases h.2 with ⟨hv, h0⟩ | ⟨g, cap, cur, hv, hb, hg, hnc, hcm, hcs, ht⟩
  · have := h.1; rw [h0] at this; omega
  · have hA : A = some ⟨g, 0, none⟩ := by injection hv
    subst hA
    exact ⟨_, rfl, h.cells (g := g) rfl⟩
end
/-- What the walk wants to know of a slice's type: t is the slice's number, e its element's, z the element's zero. -/
structure ElemTy (P : Program) (t e : TypeId) (z : Value) (size bytes : Nat) : Prop where
  under : P.underlying t = some (.slice e)
  info : (P.info? e).map (fun i => (i.zero, i.size, i.bytes)) = some (some z, size, bytes)
  zs : z.cells.size = size
  pos : 0 < size
  posb : 0 < bytes

/-- A literal's row, just made. -/
theorem Rd.lit (w : World) (cs : Array Value) (e : TypeId) {size n : Nat} (h : cs.size = n * size) {fr : Nat × Nat} : Rd (w.alloc (.cells cs e fr)) size (some ⟨w.heap.size, 0, none⟩) n cs.toList := by
  refine ⟨by simpa using h, fun _ => ⟨_, rfl, fun j u hu => ?_⟩⟩
  rw [Addr.add_lit, Nat.zero_add]
  rw [World.cell?_alloc_mark]
  simpa using hu

theorem own_below {base : Nat} {e : TypeId} {size n : Nat} {v : Value} {xs : List Value} {w w' : World} (h : w.ownsRow base e size v n xs) (hb : Below w.heap.size w w') : w'.ownsRow base e size v n xs := by
  refine ⟨h.1, ?_⟩
  rcases h.2 with hn | ⟨g, cap, cur, rfl, hb', hgg, rest⟩
  · exact .inl hn
  · exact .inr ⟨g, cap, cur, rfl, hb', (hb.block g (Array.getElem?_eq_some_iff.1 hgg).1).trans hgg, rest⟩

theorem own_cap {base : Nat} {e : TypeId} {size n : Nat} {v : Value} {xs : List Value} {w : World} (h : w.ownsRow base e size v n xs) : ∃ A c, v = .slice A n c ∧ n ≤ c ∧ c ≤ maxLen ∧ (A = none → c = 0) := by
  rcases h.2 with ⟨rfl, rfl⟩ | ⟨g, cap, cur, rfl, hb', hgg, h1, h2, _⟩
  · exact ⟨none, 0, rfl, Nat.le_refl _, by simp [maxLen], fun _ => rfl⟩
  · exact ⟨_, cap, rfl, h1, h2, fun h => by cases h⟩

/-- 'append' onto a row of the call's own, of a slice that is nil, empty, or not. -/
theorem run_app {P : Program} {t e : TypeId} {z : Value} {size bytes : Nat} (T : ElemTy P t e z size bytes) (w : World) (ty : TypeId) (base : Nat)
    (v : Value) (n : Nat) (xs : List Value) (hown : w.ownsRow base e size v n xs) (A : Option Addr) (m c : Nat) (news : List Value) (hr : Rd w size A m news) (h1 : ∀ u ∈ news, u.oneCell' = true)
    (hbytes : (n + m) * bytes ≤ 140737488355328) (hbase : base ≤ w.heap.size) :
    ∃ v' w', (Builtin.append_ #[t, t] ty #[v, .slice A m c]).run P w = .ok v' w' ∧ w'.ownsRow base e size v' (n + m) (xs ++ news) ∧ w.grownBy w' v.ownBlock ∧ (v'.ownBlock = v.ownBlock ∨ v'.ownBlock = some w.heap.size) := by
  obtain ⟨i, hi, hz, hs, hb⟩ := info_parts T.info
  have h63 : n + m ≤ maxLen := by
    have := Nat.le_mul_of_pos_right (n + m) T.posb
    simp only [maxLen]; omega
  rcases Nat.eq_zero_or_pos m with h0 | h0
  · subst h0
    have hn : news = [] := List.eq_nil_of_length_eq_zero (by have := hr.1; omega)
    subst hn
    have hrun : (Builtin.append_ #[t, t] ty #[v, .slice A 0 c]).run P w = .ok v w := by
      rcases hown.2 with ⟨rfl, rfl⟩ | ⟨g, cap, cur, rfl, _, _, hnc, _⟩
      · cases A with
        | none => simp [Builtin.append_, run_underlying T.under, sizeOf, typeInfo, hi, Builtin.lenOf, Builtin.firstCells]
        | some a => simp [Builtin.append_, run_underlying T.under, sizeOf, typeInfo, hi, Builtin.lenOf, Builtin.firstCells, loadCells, loadCellsFrom]
      · cases A with
        | none => simp [Builtin.append_, run_underlying T.under, sizeOf, typeInfo, hi, Builtin.lenOf, Builtin.firstCells, hnc, storeCells]
        | some a => simp [Builtin.append_, run_underlying T.under, sizeOf, typeInfo, hi, Builtin.lenOf, Builtin.firstCells, hnc, storeCells, loadCells, loadCellsFrom]
    exact ⟨v, w, hrun, by simpa using hown, World.grownBy.refl w _, .inl rfl⟩
  · have hl : 0 < news.length := by rw [hr.1]; exact Nat.mul_pos h0 T.pos
    obtain ⟨a, rfl, hh⟩ := hr.2 hl
    obtain ⟨v', w', h2, h3, h4, _, h5⟩ := run_append_own_at (P := P) w base t ty e i z size bytes T.under hi hz hs hb T.zs T.pos v n xs hown a m c news hr.1 hh h1 h63 hbytes hbase
    exact ⟨v', w', h2, h3, h4, h5⟩

theorem wpList_app {P : Program} {t e : TypeId} {z : Value} {size bytes : Nat} (T : ElemTy P t e z size bytes) (w : World) {ops : Array Oper} {rest : List Oper} {o : Oper} {a : Act} {Q : Exit → Act → World → Prop} (hgd : o.guard = none) (s x : Operand)
    (ho : o.op = .call { callee := .builtin .append, args := #[s, x], argTypes := #[t, t] }) (base : Nat)
    (v : Value) (n : Nat) (xs : List Value) (hs : a.eval s = v) (hown : w.ownsRow base e size v n xs) (A : Option Addr) (m c : Nat) (news : List Value) (hx : a.eval x = .slice A m c) (hr : Rd w size A m news) (h1 : ∀ u ∈ news, u.oneCell' = true)
    (hbytes : (n + m) * bytes ≤ 140737488355328) (hbase : base ≤ w.heap.size)
    (h : ∀ v' w', w'.ownsRow base e size v' (n + m) (xs ++ news) → Below base w w' → w.grownBy w' v.ownBlock → (v'.ownBlock = v.ownBlock ∨ v'.ownBlock = some w.heap.size) → wpList P ops Q rest (a.put o.dst v') w') : wpList P ops Q (o :: rest) a w :=
  wpList_plain hgd fun _ hK => by
    obtain ⟨v', w', hrun, h2, h3, h4⟩ := run_app T w o.type base v n xs hown A m c news hr h1 hbytes hbase
    unfold Oper.wp execOp
    simp only [ho, resolve, invoke, builtin, Sem.run_bind, Sem.run_pure, Result.andThen_ok, List.map_toArray, List.map_cons, List.map_nil, hs, hx, hrun]
    exact hK _ _ (h v' w' h2 ((Below.refl _ _).grown h3 hbase (fun k hk => (hown.lt k hk).1)) h3 h4)
/-- n zeros, as cells. -/
def zeros (z : Value) : Nat → List Value
  | 0 => []
  | n + 1 => z.cells.toList ++ zeros z n
theorem zeros_length (z : Value) : ∀ n, (zeros z n).length = n * z.cells.size
  | 0 => by simp [zeros]
  | n + 1 => by simp only [zeros, List.length_append, zeros_length z n, Nat.add_mul]; simp; omega
theorem zeros_at (z : Value) : ∀ (n j : Nat), j < n * z.cells.size → (zeros z n)[j]? = z.cells[j % z.cells.size]?
  | 0, j, h => by omega
  | n + 1, j, h => by
    rw [Nat.add_mul] at h
    simp only [zeros, List.getElem?_append]
    by_cases hj : j < z.cells.size
    · rw [if_pos (by simpa using hj), Nat.mod_eq_of_lt hj]; simp
    · rw [if_neg (by simpa using hj)]
      have hlen : z.cells.toList.length = z.cells.size := by simp
      rw [hlen, zeros_at z n (j - z.cells.size) (by omega)]
      congr 1
      rw [Nat.mod_eq_sub_mod (by omega : j ≥ z.cells.size)]
theorem madeCells_zeros (z : Value) (n : Nat) (h : 0 < z.cells.size) : (madeCells z.cells (n * z.cells.size)).toList = zeros z n := by
  apply List.ext_getElem?
  intro j
  by_cases hj : j < n * z.cells.size
  · rw [zeros_at z n j hj]
    have hm : j % z.cells.size < z.cells.size := Nat.mod_lt _ h
    simp [madeCells, hj, hm]
  · rw [List.getElem?_eq_none (by simpa [madeCells] using hj), List.getElem?_eq_none (by rw [zeros_length]; omega)]

theorem below_of_grown {w w' : World} {row : Option Nat} {B : Nat} (hg : w.grownBy w' row) (hB : B ≤ w.heap.size) (hr : ∀ k, row = some k → B ≤ k) : Below B w w' :=
  (Below.refl B w).grown hg hB hr

/-- 'make([]T, n, m)', n and m variables. -/
theorem wpList_mk {P : Program} {t e : TypeId} {z : Value} {size bytes : Nat} (T : ElemTy P t e z size bytes) (w : World) {ops : Array Oper} {rest : List Oper} {o : Oper} {a : Act} {Q : Exit → Act → World → Prop} (hgd : o.guard = none) (l c : Operand)
    (hop : o.op = Op.makeSlice t l c) (base : Nat) (kl kc : IntKind) (L C : Int) (n m : Nat) (hl : a.eval l = .int kl L) (hc : a.eval c = .int kc C) (hL : L = (n : Int)) (hC : C = (m : Int)) (hnm : n ≤ m) (hbytes : bytes * m ≤ 281474976710656) (hbase : base ≤ w.heap.size)
    (hK : ∀ w', w'.ownsRow base e size (.slice (some ⟨w.heap.size, 0, none⟩) n m) n (zeros z n) → Below w.heap.size w w' → w.heap.size < w'.heap.size → wpList P ops Q rest (a.put o.dst (.slice (some ⟨w.heap.size, 0, none⟩) n m)) w') :
    wpList P ops Q (o :: rest) a w := by
  obtain ⟨i, hi, hz, hs, hb⟩ := info_parts T.info
  have hpos := T.pos
  have hposb := T.posb
  have hzs := T.zs
  have hmm : m ≤ 281474976710656 := Nat.le_trans (by have := Nat.le_mul_of_pos_left m hposb; omega) hbytes
  have hbb : (bytes : Int) * (m : Int) ≤ 281474976710656 := by
    have h : ((bytes * m : Nat) : Int) ≤ 281474976710656 := by omega
    rwa [Int.natCast_mul] at h
  refine wpList_plain hgd fun K hK' => ?_
  subst hL
  subst hC
  have hrun := run_make (P := P) w t e i z T.under hi hz kl kc (n : Int) (m : Int) (by omega) (by omega) (by rw [hb]; exact hbb) (by omega)
  rw [hs] at hrun
  simp only [Int.toNat_natCast] at hrun
  unfold Oper.wp
  simp [execOp, hop, hl, hc, hrun, Result.andThen]
  refine hK' _ _ (hK _ ⟨by rw [zeros_length, hzs], .inr ⟨w.heap.size, m, _, rfl, hbase, heap_alloc_new w _, hnm, by simp only [maxLen]; omega, size_madeCells _ _, ?_⟩⟩ ((Below.refl _ _).alloc (Nat.le_refl _) _) (by simp))
  have e1 := madeCells_zeros z m (by omega)
  rw [hzs] at e1
  rw [e1]
  obtain ⟨d, rfl⟩ : ∃ d, m = n + d := ⟨m - n, by omega⟩
  clear hrun e1 hbytes hnm hmm hK hl hc hbb
  induction n with
  | zero => simp [zeros]
  | succ n ih =>
    rw [show n + 1 + d = (n + d) + 1 from by omega]
    simp only [zeros, Nat.add_mul]
    rw [show n * size + 1 * size = z.cells.toList.length + n * size from by simp [hzs]; omega, List.take_length_add_append, ih]

/-- A part of a slice. -/
theorem Rd.cut {w : World} {size n : Nat} {A : Option Addr} {cs : List Value} (h : Rd w size A n cs) {lo hi k : Nat} (h1 : lo ≤ hi) (h2 : hi ≤ n) (hk : k = lo * size) : Rd w size (A.map (fun x => x.add k)) (hi - lo) ((cs.drop (lo * size)).take ((hi - lo) * size)) := by
  subst hk
  have e1 : (hi - lo) * size ≤ n * size - lo * size := by rw [← Nat.sub_mul]; exact Nat.mul_le_mul_right _ (by omega)
  refine ⟨by rw [List.length_take, List.length_drop, h.1]; omega, fun h0 => ?_⟩
  obtain ⟨a, rfl, hh⟩ := h.2 (by rw [List.length_take, List.length_drop] at h0; omega)
  refine ⟨_, rfl, fun j u hu => ?_⟩
  rw [add_add]
  refine hh _ u ?_
  rw [List.getElem?_take] at hu
  split at hu
  · rwa [List.getElem?_drop] at hu
  · cases hu
/-- 's[lo:]', as the model has it. -/
theorem Rd.from_ {w : World} {size n c : Nat} {A : Option Addr} {cs : List Value} (h : Rd w size A n cs) {lo k : Nat} (h1 : lo ≤ n) (hc : n ≤ c) (hk : k = lo * size) : Rd w size (if c = lo then A else A.map (fun x => x.add k)) (n - lo) (cs.drop (lo * size)) := by
  have h2 := h.cut (lo := lo) (hi := n) h1 (Nat.le_refl _) hk
  have e : (cs.drop (lo * size)).take ((n - lo) * size) = cs.drop (lo * size) := by
    apply List.take_of_length_le
    rw [List.length_drop, h.1, Nat.sub_mul]; exact Nat.le_refl _
  rw [e] at h2
  split
  · obtain rfl : n = lo := by omega
    refine ⟨h2.1, fun h0 => ?_⟩
    have := h2.1
    simp only [Nat.sub_self, Nat.zero_mul] at this
    omega
  · exact h2
/-- A slice that holds something: its address written out. -/
theorem Rd.base {w : World} {size n : Nat} {A : Option Addr} {cs : List Value} (h : Rd w size A n cs) (h0 : 0 < cs.length) : ∃ b o, A = some ⟨b, o, none⟩ ∧ b < w.heap.size ∧ ∀ j u, cs[j]? = some u → w.cell? ⟨b, o + j, none⟩ = some u := by
  obtain ⟨⟨b, o, s⟩, rfl, hb, hh⟩ := h.addr h0
  have h1 := hh 0 cs[0] (List.getElem?_eq_getElem h0)
  rw [add_zero] at h1
  have hs : s = none := by simpa using World.cell?_spot h1
  subst hs
  refine ⟨b, o, rfl, hb, fun j u hu => ?_⟩
  have := hh j u hu
  rwa [Addr.add_lit] at this
end Go.Proofs.Ythblcfhflkapmaa
