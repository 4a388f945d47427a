/-
  The law's own text, from its n-th statement on; where its arguments lie.
-/
import Derived.Test.YtlgmddnpmmggdaaDoorNeC
import Derived.Deep.CutRange
namespace Go.Proofs.YtlgmddnpmmggdaaDoor
open Go.ChangeShapes Go.WideShapes Go.ChangeAt Go.RowKit Go.Sort Go.Maps
set_option linter.unusedVariables false
set_option linter.unusedSimpArgs false

def dropSeq : Nat → Code → Code
  | 0, c => c
  | n + 1, .seq _ b => dropSeq n b
  | _ + 1, c => c
/-- The law's text from its n-th statement on. -/
noncomputable def tl (n : Nat) : Code := dropSeq n (Tryd.f3.body.getD .skip)
def headSeq : Code → Code
  | .seq a _ => a
  | c => c
/-- Its n-th statement. -/
noncomputable def hd (n : Nat) : Code := headSeq (tl n)
abbrev Fin3 (w0 : World) (e : Ending) (w' : World) : Prop := e = .returned (.bool true) ∧ Below w0.heap.size w0 w'
theorem wpQuiet_skip2 {P : Program} {ops : Array Oper} {C : World → Prop} {Q : Act → Prop} {a : Act} {o : Oper} {rest : List Oper} (h1 : Region.wanted o (yielded ops a.tmps) = false) (h : wpQuiet P ops C Q rest (a.put o.dst undef)) : wpQuiet P ops C Q (o :: rest) a := by
  unfold wpQuiet
  rw [if_neg (by rw [h1]; simp)]
  exact h

theorem needs_at (L : List Lk) (R : List Int) (k j : Nat) (hk : k < R.length) (hj : j < (lackV L R[k]).l.length) : (needsOf L R)[(needsOf L (R.take k)).length + j]? = some (R[k], (lackV L R[k]).l[j]) := by
  have e : needsOf L R = needsOf L (R.take k) ++ (((lackV L R[k]).l.map fun s => (R[k], s)) ++ needsOf L (R.drop (k + 1))) := by
    have h : R = R.take k ++ (R[k] :: R.drop (k + 1)) := by rw [List.getElem_cons_drop hk, List.take_append_drop]
    conv => lhs; rw [h]
    unfold needsOf
    rw [List.flatMap_append, List.flatMap_cons]
  rw [e, List.getElem?_append_right (by omega), Nat.add_sub_cancel_left, List.getElem?_append_left (by simpa using hj), List.getElem?_map, List.getElem?_eq_getElem hj]
  rfl
theorem needs_at2 {L : List Lk} {R : List Int} {k j c : Nat} {x : Int} {y : Str} {lk : Lk} (hk : k < R.length) (hx : R[k] = x) (hl : lackV L x = lk) (hj : j < lk.l.length) (hy : lk.l[j] = y) (hc : (needsOf L (R.take k)).length + j = c) : (needsOf L R)[c]? = some (x, y) := by
  subst hx hl hy hc
  exact needs_at L R k j hk hj
theorem needs_succ (L : List Lk) (R : List Int) (k : Nat) (hk : k < R.length) : (needsOf L (R.take (k + 1))).length = (needsOf L (R.take k)).length + (lackV L R[k]).l.length := by
  rw [List.take_succ_eq_append_getElem hk, needs_snoc, List.length_append, List.length_map]
theorem needs_succ2 {L : List Lk} {R : List Int} {k c m : Nat} {x : Int} {lk : Lk} (hk : k < R.length) (hx : R[k] = x) (hl : lackV L x = lk) (hm : lk.l.length = m) (hc : (needsOf L (R.take k)).length + m = c) : (needsOf L (R.take (k + 1))).length = c := by
  subst hx hl hm hc
  exact needs_succ L R k hk
theorem needs_le (L : List Lk) (R : List Int) (k : Nat) (hk : k ≤ R.length) : (needsOf L (R.take k)).length ≤ (needsOf L R).length := by
  have e : needsOf L R = needsOf L (R.take k) ++ needsOf L (R.drop k) := by
    conv => lhs; rw [← List.take_append_drop k R]
    unfold needsOf
    rw [List.flatMap_append]
  rw [e, List.length_append]; omega
theorem nds_cells {w : World} {A : Option Addr} {n : Nat} {l : List (Int × Str)} (h : Rd w 2 A n (nds l)) {p : Nat} {x : Int × Str} (hx : l[p]? = some x) : ∃ b o, A = some ⟨b, o, none⟩ ∧ w.cell? ⟨b, o + p * 2, none⟩ = some (.int .i64 x.1) ∧ w.cell? ⟨b, o + p * 2 + 1, none⟩ = some (.string (bstr x.2)) := by
  obtain ⟨hp, rfl⟩ := List.getElem?_eq_some_iff.1 hx
  obtain ⟨b, o, rfl, hb, hh⟩ := h.base (by rw [nds_len]; omega)
  refine ⟨b, o, rfl, ?_, ?_⟩
  · exact hh (p * 2 + 0) _ (by rw [nds, flat_at (q := 2) (fun _ => rfl) l p 0 hp (by omega)]; rfl)
  · have := hh (p * 2 + 1) _ (by rw [nds, flat_at (q := 2) (fun _ => rfl) l p 1 hp (by omega)]; rfl)
    rwa [← Nat.add_assoc] at this

/-- Where the arguments lie: the type, the evidence, what rows lack. -/
structure EB (w : World) (b : Nat) (d : TyD) (n row : Int) (lab : Str) (LA : Option Addr) (ll lc : Nat) : Prop where
  ty : d.At w b 0
  e0 : w.cell? ⟨b + 1, 0, none⟩ = some (.int .i64 n)
  e1 : w.cell? ⟨b + 1, 1, none⟩ = some (.int .i64 row)
  e2 : w.cell? ⟨b + 1, 2, none⟩ = some (.string (bstr lab))
  lk : w.cell? ⟨b + 1 + 1, 0, none⟩ = some (.slice LA ll lc)
theorem EB.below {w w1 : World} {b : Nat} {d : TyD} {n row : Int} {lab : Str} {LA : Option Addr} {ll lc : Nat} (h : EB w b d n row lab LA ll lc) (hb : Below w.heap.size w w1) : EB w1 b d n row lab LA ll lc :=
  ⟨h.ty.lower hb, cell_below hb h.e0, cell_below hb h.e1, cell_below hb h.e2, cell_below hb h.lk⟩
end Go.Proofs.YtlgmddnpmmggdaaDoor
