/-
  'copy' onto a row of the call's own, of elements of more than one cell.
-/
import Derived.Test.YthblcfhflkapmaaHpAC
import Derived.Laws.CopyOwn
namespace Go.Proofs.Ythblcfhflkapmaa
open Go Go.ChangeShapes Go.WideShapes Go.ChangeAt Go.RowKit Go.Sort
set_option linter.unusedVariables false
set_option linter.unusedSimpArgs false

theorem run_copyN {P : Program} (w : World) (dT sT ty elem : TypeId) (size : Nat) (g dLen dCap : Nat) (a : Addr) (sLen sCap : Nat) (cur : Array Value) (t : TypeId) (cs : List Value)
    (hu : P.underlying dT = some (.slice elem)) (hs : (P.info? elem).map (·.size) = some size)
    (hg : w.heap[g]? = some (.cells cur t (0, 0))) (hn : cs.length = Nat.min sLen dLen * size)
    (hsrc : ∀ j v, cs[j]? = some v → w.cell? (a.add j) = some v) (hfit : cs.length ≤ cur.size) (h1 : ∀ v ∈ cs, v.oneCell' = true) :
    (Builtin.copy_ #[dT, sT] ty #[.slice (some ⟨g, 0, none⟩) dLen dCap, .slice (some a) sLen sCap]).run P w =
      .ok (goInt (Nat.min sLen dLen)) (w.setRow g (cs ++ cur.toList.drop cs.length).toArray) := by
  have hl := run_loadCells_list (P := P) w a cs hsrc
  have hst := run_storeCells_at P g 0 t cs 0 cur w hg (by simpa using hfit) h1
  cases hq : P.info? elem with
  | none => simp [hq] at hs
  | some i =>
    have hi : i.size = size := by simpa [hq] using hs
    simp only [Nat.add_zero, Nat.zero_add, List.take_zero, List.nil_append] at hst
    simp [Builtin.copy_, run_underlying hu, Builtin.lenOf, Builtin.firstCells, sizeOf, typeInfo, hq, hi, ← hn, hl, hst]
theorem wpList_copyR {P : Program} (w : World) {ops : Array Oper} {rest : List Oper} {o : Oper} {a : Act} {Q : Exit → Act → World → Prop} (hgd : o.guard = none) (d s : Operand) (t t' : TypeId)
    (ho : o.op = .call { callee := .builtin .copy, args := #[d, s], argTypes := #[t, t'] }) (v u : Value) (hd : a.eval d = v) (hs : a.eval s = u) {v' : Value} {w' : World}
    (hr : (Builtin.copy_ #[t, t'] o.type #[v, u]).run P w = .ok v' w') (h : wpList P ops Q rest (a.put o.dst v') w') : wpList P ops Q (o :: rest) a w :=
  wpList_plain hgd fun _ hK => by
    unfold Oper.wp execOp
    simp only [ho, resolve, invoke, builtin, Sem.run_bind, Sem.run_pure, Result.andThen_ok, List.map_toArray, List.map_cons, List.map_nil, hd, hs, hr]
    exact hK _ _ h
/-- 'copy' onto a row of one's own, of a row that is no shorter. -/
theorem run_copy_own {P : Program} {t e : TypeId} {z : Value} {size bytes : Nat} (T : ElemTy P t e z size bytes) (w : World) (ty : TypeId) {base n : Nat} {v : Value} {xs : List Value} (hv : w.ownsRow base e size v n xs) (A : Option Addr) (m c : Nat) (news : List Value) (hr : Rd w size A m news) (hnm : n ≤ m) (h1 : ∀ u ∈ news, u.oneCell' = true) :
    ∃ w', (Builtin.copy_ #[t, t] ty #[v, .slice A m c]).run P w = .ok (goInt n) w' ∧ w'.ownsRow base e size v n (news.take (n * size)) ∧ (∀ b, some b ≠ v.ownBlock → w'.heap[b]? = w.heap[b]?) ∧ w.heap.size ≤ w'.heap.size ∧ Below base w w' := by
  obtain ⟨i, hi, hz, hs, hb⟩ := info_parts T.info
  rcases Nat.eq_zero_or_pos n with h0 | h0
  · subst h0
    have hrun : (Builtin.copy_ #[t, t] ty #[v, .slice A m c]).run P w = .ok (goInt 0) w := by
      rcases hv.2 with ⟨rfl, _⟩ | ⟨g, cap, cur, rfl, _⟩
      · cases A with
        | none => simp [Builtin.copy_, run_underlying T.under, Builtin.lenOf, Builtin.firstCells, sizeOf, typeInfo, hi, storeCells]
        | some a => simp [Builtin.copy_, run_underlying T.under, Builtin.lenOf, Builtin.firstCells, sizeOf, typeInfo, hi, loadCells, loadCellsFrom, storeCells]
      · cases A with
        | none => simp [Builtin.copy_, run_underlying T.under, Builtin.lenOf, Builtin.firstCells, sizeOf, typeInfo, hi, storeCells]
        | some a => simp [Builtin.copy_, run_underlying T.under, Builtin.lenOf, Builtin.firstCells, sizeOf, typeInfo, hi, loadCells, loadCellsFrom, storeCells]
    refine ⟨w, hrun, ?_, fun _ _ => rfl, Nat.le_refl _, Below.refl _ _⟩
    rw [Nat.zero_mul, List.take_zero]
    have hx : xs = [] := List.eq_nil_of_length_eq_zero (by have := hv.1; omega)
    rw [← hx]
    exact hv
  · rcases hv.2 with ⟨_, e⟩ | ⟨g, cap, cur, rfl, hg, hh, hc1, hc2, hc3, hc4⟩
    · omega
    · have hnl : 0 < n * size := Nat.mul_pos h0 T.pos
      have hml : n * size ≤ m * size := Nat.mul_le_mul_right size hnm
      have hlen : (news.take (n * size)).length = n * size := by rw [List.length_take, hr.1]; exact Nat.min_eq_left hml
      obtain ⟨a, rfl, hsrc⟩ := hr.2 (by rw [hr.1]; omega)
      have hcs : n * size ≤ cur.size := by
        have := congrArg List.length hc4
        rw [List.length_take, hv.1, Array.length_toList] at this
        omega
      have hrun := run_copyN (P := P) w t t ty e size g n cap a m c cur e (news.take (n * size)) T.under (by rw [hi]; simp [hs]) hh (by rw [hlen]; show n * size = min m n * size; rw [Nat.min_eq_right hnm]) (fun j u hj => hsrc j u (by rw [List.getElem?_take] at hj; split at hj; exact hj; cases hj)) (by rw [hlen]; exact hcs) (fun u hu => h1 u (List.mem_of_mem_take hu))
      rw [show Nat.min m n = n from Nat.min_eq_right hnm] at hrun
      refine ⟨_, hrun, ⟨hlen, .inr ⟨g, cap, _, rfl, hg, setRow_heap w g cur _ e _ hh, hc1, hc2, ?_, ?_⟩⟩, fun b hb' => setRow_other w g b _ (fun e' => hb' (by rw [e']; rfl)), by simp [World.setRow], below_setRow (Below.refl _ _) hg _⟩
      · simp only [List.size_toArray, List.length_append, List.length_drop, hlen, Array.length_toList]
        have := hc3
        omega
      · rw [List.take_append_of_le_length (by rw [hlen]; exact Nat.le_refl _), List.take_of_length_le (by rw [hlen]; exact Nat.le_refl _)]
end Go.Proofs.Ythblcfhflkapmaa
