/-
  core.told: what stands to be told, and where.
  core.told: a value as it is handed out.
-/
import Derived.Test.YtpdfjdomjklkbaaGreatDoorK15
import Derived.Deep.LoopGhost
namespace Go.Proofs.YtpdfjdomjklkbaaGreatDoor
open Go.ChangeShapes Go.WideShapes Go.ChangeAt Go.RowKit Go.Sort
set_option linter.unusedVariables false
set_option linter.unusedSimpArgs false

abbrev zeroT : Obj := .cells #[.int .i64 0, .int .i64 0, .string ⟨#[]⟩, .slice none 0 0] 34
theorem elTel : ElemTy Tryz.prog 89 88 (.agg #[.pointer none, .pointer none]) 2 16 :=
  ⟨Tryz.underlying89, by kernel_rfl, rfl, by omega, by omega⟩
theorem elCV : ElemTy Tryz.prog 32 34 (.agg #[.int .i64 0, .int .i64 0, .string ⟨#[]⟩, .slice none 0 0]) 4 56 :=
  ⟨Tryz.underlying32, by kernel_rfl, rfl, by omega, by omega⟩
structure Ent where
  z : Val
  d : Nat
  fb : Nat
  fo : Nat
  tb : Nat
  tf : Nat
def Ent.cells (e : Ent) : List Value := [.pointer (some ⟨e.fb, e.fo, none⟩), .pointer (some ⟨e.tb, e.tf, none⟩)]
theorem ent_len (E : List Ent) : (E.flatMap Ent.cells).length = E.length * 2 := flat_len (q := 2) (fun _ => rfl) E
structure Ent.From (e : Ent) (w0 w : World) (P : Nat → Prop) (R M : Nat) : Prop where
  vg : VG R M e.d e.z
  at_ : ∃ (A : Option Addr) (c : Nat) (p : Option Addr), VR w0 w P e.z [.int .i64 e.z.sort, .int .i64 e.z.n, .string (bstr e.z.s), .slice none 0 0, .slice A e.z.l.length c, .pointer p] ∧
      (w.cell? ⟨e.fb, e.fo, none⟩ = some (.int .i64 e.z.sort) ∧ w.cell? ⟨e.fb, e.fo + 1, none⟩ = some (.int .i64 e.z.n) ∧ w.cell? ⟨e.fb, e.fo + 2, none⟩ = some (.string (bstr e.z.s)) ∧ w.cell? ⟨e.fb, e.fo + 3, none⟩ = some (.slice none 0 0) ∧ w.cell? ⟨e.fb, e.fo + 4, none⟩ = some (.slice A e.z.l.length c) ∧ w.cell? ⟨e.fb, e.fo + 5, none⟩ = some (.pointer p))
def Tgt (wr : World) (tb tf : Nat) : Prop := ∃ cs T, wr.heap[tb]? = some (.cells cs T (0, 0)) ∧ tf + 4 ≤ cs.size
structure TD (w0 w : World) (P : Nat → Prop) (R M D0 r2 r3 : Nat) (E : List Ent) (u : Value) (wr : World) : Prop where
  row : wr.ownsRow w.heap.size 88 2 u E.length (E.flatMap Ent.cells)
  frm : ∀ e ∈ E, e.From w0 w P R M
  tgt : ∀ e ∈ E, Tgt wr e.tb e.tf ∧ w.heap.size ≤ e.tb ∧ u.ownBlock ≠ some e.tb ∧ e.tb ≠ r2
  pos : ∀ (i : Nat) (e : Ent), E[i]? = some e → i + M * e.d ≤ M * D0
  bel : Below w.heap.size w wr
  two : wr.heap[r2]? = some zeroT ∧ u.ownBlock ≠ some r2 ∧ u.ownBlock ≠ some r3 ∧ w.heap.size ≤ r2 ∧ w.heap.size ≤ r3 ∧ r2 ≠ r3 ∧ r3 < wr.heap.size
def TopT (z : Val) (r3 : Nat) (E : List Ent) (wr : World) : Prop :=
  (∃ e0, E = [e0] ∧ e0.z = z ∧ e0.tb = r3 ∧ e0.tf = 0 ∧ wr.heap[r3]? = some zeroT) ∨
  (∃ A' c', wr.heap[r3]? = some (.cells #[.int .i64 z.sort, .int .i64 z.n, .string (bstr z.s), .slice A' z.l.length c'] 34) ∧ ∀ e ∈ E, e.tb ≠ r3)
def wtE (M : Nat) (E : List Ent) : Nat := (E.map (fun e => (M + 2) ^ e.d)).sum
theorem wtE_app (M : Nat) (E F : List Ent) : wtE M (E ++ F) = wtE M E + wtE M F := by simp [wtE]
theorem wtE_const (M d : Nat) (F : List Ent) (h : ∀ e ∈ F, e.d = d) : wtE M F = F.length * (M + 2) ^ d := by
  induction F with
  | nil => simp [wtE]
  | cons e F ih =>
    have h1 := ih (fun x hx => h x (List.mem_cons_of_mem _ hx))
    have h2 := h e (List.mem_cons_self ..)
    simp only [wtE, List.map_cons, List.sum_cons, List.length_cons] at h1 ⊢
    rw [h1, h2, Nat.add_mul]
    omega
/-- The parts of a value, as they stand to be told. -/
def kids (z : Val) (d fb fo mk : Nat) : List Ent := z.l.mapIdx (fun i v => ⟨v, d, fb, fo + i * 6, mk, i * 4⟩)
theorem kids_len (z : Val) (d fb fo mk : Nat) : (kids z d fb fo mk).length = z.l.length := by simp [kids]
theorem kids_get {z : Val} {d fb fo mk i : Nat} {e : Ent} (h : (kids z d fb fo mk)[i]? = some e) : ∃ v, z.l[i]? = some v ∧ e = ⟨v, d, fb, fo + i * 6, mk, i * 4⟩ := by
  unfold kids at h
  rw [List.getElem?_mapIdx] at h
  cases hv : z.l[i]? with
  | none => rw [hv] at h; cases h
  | some v => rw [hv] at h; injection h with h; exact ⟨v, rfl, h.symm⟩
theorem kids_mem {z : Val} {d fb fo mk : Nat} {e : Ent} (h : e ∈ kids z d fb fo mk) : ∃ i v, z.l[i]? = some v ∧ e = ⟨v, d, fb, fo + i * 6, mk, i * 4⟩ := by
  obtain ⟨i, hi, he⟩ := List.getElem_of_mem h
  obtain ⟨v, h1, h2⟩ := kids_get (z := z) (d := d) (fb := fb) (fo := fo) (mk := mk) (i := i) (e := e) (by rw [List.getElem?_eq_getElem hi, he])
  exact ⟨i, v, h1, h2⟩
/-- What a round leaves. -/
theorem TD.finish {w0 w : World} {P : Nat → Prop} {R M D0 r2 r3 : Nat} {E : List Ent} {e : Ent} {q cap : Nat} {wr W9 w' : World} {z : Val} {fb fo mk : Nat} {D : Nat} {u : Value}
    (h : TD w0 w P R M D0 r2 r3 (E ++ [e]) (.slice (some ⟨q, 0, none⟩) (E.length + 1) cap) wr) (ht : TopT z r3 (E ++ [e]) wr) (hd : e.d = D + 1)
    (hf : 0 < e.z.l.length → ∃ c p, VR w0 w P e.z [.int .i64 e.z.sort, .int .i64 e.z.n, .string (bstr e.z.s), .slice none 0 0, .slice (some ⟨fb, fo, none⟩) e.z.l.length c, .pointer p])
    {cs : Array Value} {T : TypeId} (hcs : wr.heap[e.tb]? = some (.cells cs T (0, 0))) (hsz : e.tf + 4 ≤ cs.size) (LA : Option Addr) (lc : Nat)
    (k1 : ∀ b, b < wr.heap.size → b ≠ e.tb → W9.heap[b]? = wr.heap[b]?)
    (k2 : W9.heap[e.tb]? = some (.cells ((((cs.setIfInBounds e.tf (.int .i64 e.z.sort)).setIfInBounds (e.tf + 1) (.int .i64 e.z.n)).setIfInBounds (e.tf + 2) (.string (bstr e.z.s))).setIfInBounds (e.tf + 3) (.slice LA e.z.l.length lc)) T (0, 0)))
    (ks : wr.heap.size ≤ W9.heap.size)
    (km : 0 < e.z.l.length → wr.heap.size ≤ mk ∧ mk < W9.heap.size ∧ ∃ cm Tm, W9.heap[mk]? = some (.cells cm Tm (0, 0)) ∧ e.z.l.length * 4 ≤ cm.size)
    (j1 : ∀ b, b < W9.heap.size → b ≠ q → w'.heap[b]? = W9.heap[b]?) (js : W9.heap.size ≤ w'.heap.size) (hb : Below w.heap.size w w')
    (hrow : w'.ownsRow w.heap.size 88 2 u (E ++ kids e.z D fb fo mk).length ((E ++ kids e.z D fb fo mk).flatMap Ent.cells)) (hu : u.ownBlock = some q ∨ ∃ k, u.ownBlock = some k ∧ W9.heap.size ≤ k) :
    TD w0 w P R M D0 r2 r3 (E ++ kids e.z D fb fo mk) u w' ∧ TopT z r3 (E ++ kids e.z D fb fo mk) w' ∧ wtE M (E ++ kids e.z D fb fo mk) < wtE M (E ++ [e]) := by
  obtain ⟨htg, htb, htu, htr⟩ := h.tgt e (by simp)
  have hq : q ≠ e.tb := fun x => htu (by rw [← x]; rfl)
  have hq2 : q ≠ r2 := fun x => h.two.2.1 (by rw [← x]; rfl)
  have hq3 : q ≠ r3 := fun x => h.two.2.2.1 (by rw [← x]; rfl)
  have hlt := lt_of_heap hcs
  have hfe := h.frm e (by simp)
  have hkeep : ∀ b, b < wr.heap.size → b ≠ e.tb → b ≠ q → w'.heap[b]? = wr.heap[b]? := fun b h1 h2 h3 => (j1 b (by omega) h3).trans (k1 b h1 h2)
  have htgt' : ∀ e' ∈ E, Tgt w' e'.tb e'.tf ∧ w.heap.size ≤ e'.tb ∧ u.ownBlock ≠ some e'.tb ∧ e'.tb ≠ r2 := by
    intro e' he'
    obtain ⟨⟨cs', T', h1, h2⟩, h3, h4, h5⟩ := h.tgt e' (List.mem_append_left _ he')
    have hl' := lt_of_heap h1
    have hq' : e'.tb ≠ q := fun x => h4 (by rw [x]; rfl)
    refine ⟨?_, h3, ?_, h5⟩
    · by_cases hx : e'.tb = e.tb
      · rw [hx] at h1 ⊢
        rw [hcs] at h1
        have hce : cs' = cs := by injection h1 with h1; injection h1 with h1; exact h1.symm
        exact ⟨_, _, (j1 _ (by omega) (Ne.symm hq)).trans k2, by simp; rw [← hce]; exact h2⟩
      · exact ⟨cs', T', (hkeep _ hl' hx hq').trans h1, h2⟩
    · rcases hu with hu | ⟨k, hu, hk⟩
      · rw [hu]; intro x; exact hq' (Option.some.inj x).symm
      · rw [hu]; intro x; have := Option.some.inj x; omega
  refine ⟨⟨hrow, fun e' he' => ?_, fun e' he' => ?_, fun i e' hi => ?_, hb, ?_⟩, ?_, ?_⟩
  · rcases List.mem_append.1 he' with q1 | q1
    · exact h.frm e' (List.mem_append_left _ q1)
    · obtain ⟨i, v, hv, rfl⟩ := kids_mem q1
      obtain ⟨hil, hvv⟩ := List.getElem?_eq_some_iff.1 hv
      obtain ⟨c, p, hvr⟩ := hf (by omega)
      obtain ⟨csl, hvs, _, _⟩ := hvr.vs
      have hvg := hfe.vg
      rw [hd] at hvg
      exact ⟨hvg.subs v (List.mem_of_getElem? hv), hvs.six i hv (fo + i * 6) (fo + i * 6 + 1) (fo + i * 6 + 2) (fo + i * 6 + 3) (fo + i * 6 + 4) (fo + i * 6 + 5) ⟨rfl, rfl, rfl, rfl, rfl, rfl⟩⟩
  · rcases List.mem_append.1 he' with q1 | q1
    · exact htgt' e' q1
    · obtain ⟨i, v, hv, rfl⟩ := kids_mem q1
      obtain ⟨hil, hvv⟩ := List.getElem?_eq_some_iff.1 hv
      obtain ⟨m1, m2, cm, Tm, m3, m4⟩ := km (by omega)
      have hrl := h.row.lt q rfl
      have h2l := lt_of_heap h.two.1
      refine ⟨⟨cm, Tm, (j1 mk m2 (by omega)).trans m3, by show i * 4 + 4 ≤ _; omega⟩, by show w.heap.size ≤ mk; have := h.bel.size; omega, ?_, by show mk ≠ r2; omega⟩
      rcases hu with hu | ⟨k, hu, hk⟩
      · rw [hu]; intro x; have : q = mk := Option.some.inj x; omega
      · rw [hu]; intro x; have : k = mk := Option.some.inj x; omega
  · have hpe := h.pos E.length e (by simp)
    rw [hd] at hpe
    by_cases hi2 : i < E.length
    · rw [List.getElem?_append_left hi2] at hi
      exact h.pos i e' (by rw [List.getElem?_append_left hi2]; exact hi)
    · rw [List.getElem?_append_right (by omega)] at hi
      obtain ⟨v, hv, rfl⟩ := kids_get hi
      have hil := (List.getElem?_eq_some_iff.1 hv).1
      have hn := hfe.vg.len_
      show i + M * D ≤ M * D0
      rw [Nat.mul_add] at hpe
      omega
  · obtain ⟨t1, t2, t3, t4, t5, t6, t7⟩ := h.two
    have h2l := lt_of_heap t1
    refine ⟨(hkeep r2 h2l (Ne.symm htr) (Ne.symm hq2)).trans t1, ?_, ?_, t4, t5, t6, by omega⟩
    · rcases hu with hu | ⟨k, hu, hk⟩
      · rw [hu]; intro x; exact hq2 (Option.some.inj x)
      · rw [hu]; intro x; have := Option.some.inj x; omega
    · rcases hu with hu | ⟨k, hu, hk⟩
      · rw [hu]; intro x; exact hq3 (Option.some.inj x)
      · rw [hu]; intro x; have := Option.some.inj x; omega
  · have hkr : ∀ e' ∈ kids e.z D fb fo mk, e'.tb ≠ r3 := fun e' he' => by
      obtain ⟨i, v, hv, rfl⟩ := kids_mem he'
      have hil := (List.getElem?_eq_some_iff.1 hv).1
      obtain ⟨m1, _⟩ := km (by omega)
      have := h.two.2.2.2.2.2.2
      show mk ≠ r3
      omega
    rcases ht with ⟨e0, x1, x2, x3, x4, x5⟩ | ⟨A', c', x1, x2⟩
    · cases E with
      | cons a E => exact absurd (congrArg List.length x1) (by simp)
      | nil =>
        have hee : e = e0 := by simpa using x1
        subst hee
        refine .inr ⟨LA, lc, ?_, fun e' he' => hkr e' (by simpa using he')⟩
        have hcz : cs = #[.int .i64 0, .int .i64 0, .string ⟨#[]⟩, .slice none 0 0] ∧ T = 34 := by
          rw [x3] at hcs
          rw [x5] at hcs
          injection hcs with hcs
          injection hcs with hc1 hc2
          exact ⟨hc1.symm, hc2.symm⟩
        have := (j1 e.tb (by omega) (Ne.symm hq)).trans k2
        rw [hcz.1, hcz.2, x4, x2, x3] at this
        exact this
    · have hr3 : r3 ≠ e.tb := Ne.symm (x2 e (by simp))
      refine .inr ⟨A', c', (hkeep r3 h.two.2.2.2.2.2.2 hr3 (Ne.symm hq3)).trans x1, fun e' he' => ?_⟩
      rcases List.mem_append.1 he' with q1 | q1
      · exact x2 e' (List.mem_append_left _ q1)
      · exact hkr e' q1
  · rw [wtE_app, wtE_app, wtE_const M D (kids e.z D fb fo mk) (fun e' he' => by obtain ⟨i, v, hv, rfl⟩ := kids_mem he'; rfl), kids_len]
    have hn := hfe.vg.len_
    have hp : 0 < (M + 2) ^ D := Nat.pow_pos (by omega)
    have e1 : wtE M [e] = (M + 2) ^ D * (M + 2) := by simp [wtE, hd, Nat.pow_succ]
    rw [e1]
    have h1 : e.z.l.length * (M + 2) ^ D ≤ M * (M + 2) ^ D := Nat.mul_le_mul_right _ hn
    have h2 : (M + 2) ^ D * (M + 2) = M * (M + 2) ^ D + 2 * (M + 2) ^ D := by rw [Nat.mul_comm, Nat.add_mul]
    omega
end Go.Proofs.YtpdfjdomjklkbaaGreatDoor

namespace Go.Proofs.YtpdfjdomjklkbaaGreatDoor
open Go.ChangeShapes Go.WideShapes Go.ChangeAt Go.RowKit Go.Sort
set_option linter.unusedVariables false
set_option linter.unusedSimpArgs false

def put4 (w : World) (g o : Nat) (a0 a1 a2 a3 : Value) : World := (((w.setCell ⟨g, o, none⟩ a0).setCell ⟨g, o + 1, none⟩ a1).setCell ⟨g, o + 2, none⟩ a2).setCell ⟨g, o + 3, none⟩ a3
theorem put4_other (w : World) (g o : Nat) (a0 a1 a2 a3 : Value) {b : Nat} (h : b ≠ g) : (put4 w g o a0 a1 a2 a3).heap[b]? = w.heap[b]? := by
  unfold put4
  rw [set_other _ _ _ _ h, set_other _ _ _ _ h, set_other _ _ _ _ h, set_other _ _ _ _ h]
theorem put4_at {w : World} {g : Nat} {cs : Array Value} {T : TypeId} {fr : Nat × Nat} (h : w.heap[g]? = some (.cells cs T fr)) (o : Nat) (a0 a1 a2 a3 : Value) : (put4 w g o a0 a1 a2 a3).heap[g]? = some (.cells ((((cs.setIfInBounds o a0).setIfInBounds (o + 1) a1).setIfInBounds (o + 2) a2).setIfInBounds (o + 3) a3) T fr) :=
  set_cells (set_cells (set_cells (set_cells h o a0) (o + 1) a1) (o + 2) a2) (o + 3) a3
theorem put4_size (w : World) (g o : Nat) (a0 a1 a2 a3 : Value) : (put4 w g o a0 a1 a2 a3).heap.size = w.heap.size := by
  unfold put4
  rw [World.size_setCell, World.size_setCell, World.size_setCell, World.size_setCell]
theorem put4_bel {B : Nat} (w : World) {g : Nat} (hg : B ≤ g) (o : Nat) (a0 a1 a2 a3 : Value) : Below B w (put4 w g o a0 a1 a2 a3) :=
  ((((Below.refl B w).setCell (p := ⟨g, o, none⟩) hg a0).setCell (p := ⟨g, o + 1, none⟩) hg a1).setCell (p := ⟨g, o + 2, none⟩) hg a2).setCell (p := ⟨g, o + 3, none⟩) hg a3
theorem cells4 {w : World} {g : Nat} {x0 x1 x2 x3 : Value} {T : TypeId} {fr : Nat × Nat} (h : w.heap[g]? = some (.cells #[x0, x1, x2, x3] T fr)) :
    w.cell? ⟨g, 0, none⟩ = some x0 ∧ w.cell? ⟨g, 1, none⟩ = some x1 ∧ w.cell? ⟨g, 2, none⟩ = some x2 ∧ w.cell? ⟨g, 3, none⟩ = some x3 := by
  refine ⟨?_, ?_, ?_, ?_⟩ <;> (rw [Lib.cell_of_heap h]; rfl)
/-- Four cells of a block that may be written. -/
theorem tgt_cells {w : World} {g o : Nat} {cs : Array Value} {T : TypeId} (h : w.heap[g]? = some (.cells cs T (0, 0))) (hs : o + 4 ≤ cs.size) : ∃ x0 x1 x2 x3, w.cell? ⟨g, o, none⟩ = some x0 ∧ w.cell? ⟨g, o + 1, none⟩ = some x1 ∧ w.cell? ⟨g, o + 2, none⟩ = some x2 ∧ w.cell? ⟨g, o + 3, none⟩ = some x3 :=
  ⟨cs[o]'(by omega), cs[o + 1]'(by omega), cs[o + 2]'(by omega), cs[o + 3]'(by omega), by rw [Lib.cell_of_heap h]; exact Array.getElem?_eq_getElem _, by rw [Lib.cell_of_heap h]; exact Array.getElem?_eq_getElem _, by rw [Lib.cell_of_heap h]; exact Array.getElem?_eq_getElem _, by rw [Lib.cell_of_heap h]; exact Array.getElem?_eq_getElem _⟩
theorem told_ret {R : Ending → World → Prop} {wr : World} {g : Nat} {x0 x1 x2 x3 : Value} (h : wr.heap[g]? = some (.cells #[x0, x1, x2, x3] 34)) (a0 a1 a2 a3 : Value) (tm : Array Value) (h2 : tm[2]?.getD undef = .pointer (some ⟨g, 0, none⟩)) (hR : R (.returned (.agg #[a0, a1, a2, a3])) (put4 wr g 0 a0 a1 a2 a3)) :
    bodyPost Tryz.prog Tryz.f29 R Exit.ret ⟨tm, []⟩ (put4 wr g 0 a0 a1 a2 a3) := by
  have hh := put4_at h 0 a0 a1 a2 a3
  generalize put4 wr g 0 a0 a1 a2 a3 = W at *
  obtain ⟨b0, b1, b2, b3⟩ := cells4 (x0 := a0) (x1 := a1) (x2 := a2) (x3 := a3) hh
  refine bodyPost_ret (by simp [results, Tryz.results29, go_sem, h2, b0, b1, b2, b3]; try rfl) rfl ?_
  exact hR
theorem kids_take {z : Val} {d fb fo mk k : Nat} (hk : k < z.l.length) : ((kids z d fb fo mk).take (k + 1)).flatMap Ent.cells = ((kids z d fb fo mk).take k).flatMap Ent.cells ++ [.pointer (some ⟨fb, fo + k * 6, none⟩), .pointer (some ⟨mk, k * 4, none⟩)] := by
  have h1 : (kids z d fb fo mk)[k]? = some ⟨z.l[k], d, fb, fo + k * 6, mk, k * 4⟩ := by
    unfold kids
    rw [List.getElem?_mapIdx, List.getElem?_eq_getElem hk]
    rfl
  rw [List.take_add_one, h1]
  simp [Ent.cells]
set_option maxRecDepth 100000 in
set_option maxHeartbeats 16000000 in
theorem told_any {w0 w : World} {P : Nat → Prop} {R M D0 vb : Nat} {z : Val} {A : Option Addr} {c : Nat} {p : Option Addr} (hb : w.heap[vb]? = some (boxV z A c p)) (hv : VR w0 w P z [.int .i64 z.sort, .int .i64 z.n, .string (bstr z.s), .slice none 0 0, .slice A z.l.length c, .pointer p]) (hg : VG R M D0 z) (hM : M ≤ 100000000) (hMD : M * D0 ≤ 1000000000000) :
    Calls Tryz.prog 29 #[.pointer (some ⟨vb, 0, none⟩)] w fun e w' => (∃ A' c', e = .returned (.agg #[.int .i64 z.sort, .int .i64 z.n, .string (bstr z.s), .slice A' z.l.length c'])) ∧ Below w.heap.size w w' := by
  obtain ⟨hx2, hx3, hb2⟩ := two_boxes w zeroT zeroT
  have hb3 : Below w.heap.size w (((w.alloc zeroT).alloc zeroT).alloc (.cells #[.pointer (some ⟨vb, 0, none⟩), .pointer (some ⟨w.heap.size + 1, 0, none⟩)] 88)) := hb2.alloc (by rw [World.size_alloc, World.size_alloc]; omega) _
  have hs2 : ((w.alloc zeroT).alloc zeroT).heap.size = w.heap.size + 2 := by rw [World.size_alloc, World.size_alloc]
  have hrow : (((w.alloc zeroT).alloc zeroT).alloc (.cells #[.pointer (some ⟨vb, 0, none⟩), .pointer (some ⟨w.heap.size + 1, 0, none⟩)] 88)).ownsRow w.heap.size 88 2 (.slice (some ⟨w.heap.size + 2, 0, none⟩) 1 1) 1 [.pointer (some ⟨vb, 0, none⟩), .pointer (some ⟨w.heap.size + 1, 0, none⟩)] :=
    ⟨rfl, .inr ⟨w.heap.size + 2, 1, _, rfl, by omega, heap_new hs2, Nat.le_refl _, by simp [maxLen], rfl, rfl⟩⟩
  have hstart : TD w0 w P R M D0 w.heap.size (w.heap.size + 1) [⟨z, D0, vb, 0, w.heap.size + 1, 0⟩] (.slice (some ⟨w.heap.size + 2, 0, none⟩) 1 1) (((w.alloc zeroT).alloc zeroT).alloc (.cells #[.pointer (some ⟨vb, 0, none⟩), .pointer (some ⟨w.heap.size + 1, 0, none⟩)] 88)) ∧ TopT z (w.heap.size + 1) [⟨z, D0, vb, 0, w.heap.size + 1, 0⟩] (((w.alloc zeroT).alloc zeroT).alloc (.cells #[.pointer (some ⟨vb, 0, none⟩), .pointer (some ⟨w.heap.size + 1, 0, none⟩)] 88)) := by
    have h2 := (Below.heap_alloc ((w.alloc zeroT).alloc zeroT) (.cells #[.pointer (some ⟨vb, 0, none⟩), .pointer (some ⟨w.heap.size + 1, 0, none⟩)] 88) w.heap.size (by rw [hs2]; omega)).trans hx2
    have h3 := (Below.heap_alloc ((w.alloc zeroT).alloc zeroT) (.cells #[.pointer (some ⟨vb, 0, none⟩), .pointer (some ⟨w.heap.size + 1, 0, none⟩)] 88) (w.heap.size + 1) (by rw [hs2]; omega)).trans hx3
    have ho : ∀ k, k ≠ w.heap.size + 2 → (Value.slice (some ⟨w.heap.size + 2, 0, none⟩) 1 1).ownBlock ≠ some k := fun k hk x => hk (Option.some.inj x).symm
    refine ⟨⟨hrow, fun e he => ?_, fun e he => ?_, fun i e hi => ?_, hb3, h2, ho _ (by omega), ho _ (by omega), Nat.le_refl _, Nat.le_succ _, by omega, by rw [World.size_alloc, hs2]; omega⟩, .inl ⟨_, rfl, rfl, rfl, rfl, h3⟩⟩
    · rw [List.mem_singleton.1 he]
      exact ⟨hg, A, c, p, hv, cells6 hb⟩
    · rw [List.mem_singleton.1 he]
      exact ⟨⟨_, _, h3, show 0 + 4 ≤ 4 by decide⟩, Nat.le_succ _, ho (w.heap.size + 1) (by omega), by show w.heap.size + 1 ≠ w.heap.size; omega⟩
    · have h0 : i = 0 := by
        have := (List.getElem?_eq_some_iff.1 hi).1
        simp at this
        exact this
      subst h0
      have hee : (⟨z, D0, vb, 0, w.heap.size + 1, 0⟩ : Ent) = e := by simpa using hi
      rw [← hee]
      show 0 + M * D0 ≤ M * D0
      omega
  have HST := Lib.hid hstart
  have HMD := Lib.hid (And.intro hM hMD)
  clear hb hv hg hM hMD hx2 hx3 hb2 hb3 hs2 hrow hstart
  go_enter Tryz.func29, Tryz.ntmps29
  go_wp2_with fail
  go_loopg [4, 5, 6, 7, 8] (wtE M [⟨z, D0, vb, 0, w.heap.size + 1, 0⟩]) (fun k u4 _ _ _ _ wr => ∃ E, TD w0 w P R M D0 w.heap.size (w.heap.size + 1) E u4 wr ∧ TopT z (w.heap.size + 1) E wr ∧ wtE M E = k)
  case atStart => exact ⟨_, HST.out.1, HST.out.2, rfl⟩
  case round =>
    clear HST
    obtain ⟨E, hTD, hTop, hk⟩ := hrel
    rcases List.eq_nil_or_concat E with rfl | ⟨E', e, rfl⟩
    · rcases hTop with ⟨e0, q, _⟩ | ⟨A', c', hq, _⟩
      · cases q
      · obtain ⟨Ar, cr, rfl, _⟩ := own_cap hTD.row
        obtain ⟨x0, x1, x2, x3⟩ := cells4 hq
        obtain ⟨t1, t2, t3, t4, t5, t6, t7⟩ := hTD.two
        obtain ⟨y0, y1, y2, y3⟩ := cells4 t1
        have f0 := frozenN t1 0
        have f1 := frozenN t1 1
        have f2 := frozenN t1 2
        have f3 := frozenN t1 3
        have HG := Lib.hid t1
        have HB := Lib.hid hTD.bel
        clear hTD hq t1 t2 t3 t4 t5 t6 t7 hk
        go_wp2_with fail
        exact told_ret HG.out _ _ _ _ _ rfl ⟨⟨A', c', rfl⟩, HB.out.trans (put4_bel _ (Nat.le_refl _) _ _ _ _ _)⟩
    · rw [List.concat_eq_append] at hTD hTop hk
      have hfe := hTD.frm e (by simp)
      obtain ⟨D, hD⟩ : ∃ D, e.d = D + 1 := by
        cases hh : e.d with
        | zero => exact absurd (hh ▸ hfe.vg) (fun q => q.zero)
        | succ D => exact ⟨D, rfl⟩
      have hrow := hTD.row
      rw [List.length_append] at hrow
      obtain ⟨q, cap, rfl⟩ := own_some hrow
      obtain ⟨_, _, eC, hc1, hc2, _⟩ := own_cap hrow
      cases eC
      obtain ⟨⟨cs, T, hcs, hsz⟩, htb, htu, htr⟩ := hTD.tgt e (by simp)
      obtain ⟨ez, ed, fb, fo, tb, tf⟩ := e
      have m0 : wr.cell? ⟨q, E'.length * 2, none⟩ = some (.pointer (some ⟨fb, fo, none⟩)) := (own_cell hrow ((flat_at (q := 2) (fun _ => rfl) (E' ++ [⟨ez, ed, fb, fo, tb, tf⟩]) E'.length 0 (by simp) (by omega)).trans (by simp [Ent.cells]))).1
      have m1 : wr.cell? ⟨q, E'.length * 2 + 1, none⟩ = some (.pointer (some ⟨tb, tf, none⟩)) := (own_cell hrow ((flat_at (q := 2) (fun _ => rfl) (E' ++ [⟨ez, ed, fb, fo, tb, tf⟩]) E'.length 1 (by simp) (by omega)).trans (by simp [Ent.cells]))).1
      obtain ⟨A, c, p, hvr, a0, a1, a2, a3, a4, a5⟩ := hfe.at_
      have hcs' : wr.heap[tb]? = some (.cells cs T (0, 0)) := hcs
      have hsz' : tf + 4 ≤ cs.size := hsz
      have hpos := hTD.pos E'.length ⟨ez, ed, fb, fo, tb, tf⟩ (by simp)
      have hcut := own_cut hrow E'.length (by omega)
      rw [show ((E' ++ [(⟨ez, ed, fb, fo, tb, tf⟩ : Ent)]).flatMap Ent.cells).take (E'.length * 2) = E'.flatMap Ent.cells from by rw [List.flatMap_append, ← ent_len E', List.take_left]] at hcut
      have hfb : fb < w.heap.size := block_lt_of_cell a0
      have htb' : w.heap.size ≤ tb := htb
      have hqb := hrow.lt q rfl
      have hqt : q ≠ tb := fun x => htu (by rw [x]; rfl)
      have hlen : E'.length + M * ed ≤ M * D0 := hpos
      have hnl : ez.l.length ≤ M := hfe.vg.len_
      have HTD := Lib.hid hTD
      have HTop := Lib.hid hTop
      have HCS := Lib.hid (And.intro hcs' (And.intro hsz' (And.intro hcut (And.intro hvr hqt))))
      have HFB := Lib.hid (And.intro hfb (And.intro htb' hqb))
      have HAA := Lib.hid (And.intro a0 (And.intro a1 (And.intro a2 a4)))
      have HLEN := Lib.hid (And.intro hlen hnl)
      have HK := Lib.hid hk
      have HD := Lib.hid hD
      have n0 : (0 : Int) ≤ (E'.length : Int) := by omega
      have n1 : (E'.length : Int) < (E'.length : Int) + 1 := by omega
      have n2 : (E'.length : Int) ≤ 1000000000000 := by have := HMD.out.2; have h2 : E'.length ≤ M * D0 := by omega
                                                        omega
      have n3 : IntKind.i64.wrap ((E'.length : Int) + 1 - 1) = (E'.length : Int) := by rw [IntKind.wrap_i64]; omega
      have n4 : IntKind.i64.wrap (E'.length : Int) = (E'.length : Int) := by rw [IntKind.wrap_i64]; omega
      have n5 : (E'.length : Int) ≤ (cap : Int) := by omega
      clear hTD hTop hcs hsz hcs' hsz' hpos hcut hfb htb htb' hqb hqt hlen hnl hrow hfe hvr htu htr hk hD a0 a1 a2 a3 a4 a5 hc1 hc2
      go_upto_region 6 with fail
      clear m0 m1
      have hbx : Below wr.heap.size wr (wr.alloc (.cells #[.pointer (some ⟨fb, fo, none⟩), .pointer (some ⟨tb, tf, none⟩)] 88)) := (Below.refl _ _).alloc (Nat.le_refl _) _
      have hx5 := heap_new (w := wr) (o := (.cells #[.pointer (some ⟨fb, fo, none⟩), .pointer (some ⟨tb, tf, none⟩)] 88)) rfl
      generalize wr.alloc (.cells #[.pointer (some ⟨fb, fo, none⟩), .pointer (some ⟨tb, tf, none⟩)] 88) = V5 at *
      have k0 : V5.cell? ⟨wr.heap.size, 0, none⟩ = some (.pointer (some ⟨fb, fo, none⟩)) := by rw [Lib.cell_of_heap hx5]; rfl
      have k1 : V5.cell? ⟨wr.heap.size, 1, none⟩ = some (.pointer (some ⟨tb, tf, none⟩)) := by rw [Lib.cell_of_heap hx5]; rfl
      have HBX := Lib.hid hbx
      clear hbx hx5
      go_region_law fail
      all_goals
        go_upto_region 7 with fail
        clear k0 k1
        have hb6 : Below wr.heap.size wr V5.drew := HBX.out.drew
        obtain ⟨V6, hV6⟩ : ∃ V6, V5.drew = V6 := ⟨_, rfl⟩
        rw [hV6] at hb6 ⊢
        clear hV6
        have hW5 : Below w.heap.size w V6 := HTD.out.bel.trans (hb6.mono HTD.out.bel.size)
        have a0 := cell_below hW5 HAA.out.1
        have a1 := cell_below hW5 HAA.out.2.1
        have a2 := cell_below hW5 HAA.out.2.2.1
        have HB6 := Lib.hid hb6
        clear hW5 hb6
        go_still_tail 15, (by kernel_rfl)
        clear a0 a1 a2
        obtain ⟨V7, hV7⟩ : ∃ V7, V6.drew = V7 := ⟨_, rfl⟩
        change wpList _ _ _ _ _ V6.drew
        have hb7 : Below wr.heap.size wr V6.drew := HB6.out.drew
        rw [hV7] at hb7 ⊢
        clear hV7
        have hcs7 := (hb7.block tb (lt_of_heap HCS.out.1)).trans HCS.out.1
        obtain ⟨x0, x1, x2, x3, g0, g1, g2, g3⟩ := tgt_cells hcs7 HCS.out.2.1
        have z0 := frozenN hcs7 tf
        have z1 := frozenN hcs7 (tf + 1)
        have z2 := frozenN hcs7 (tf + 2)
        have z3 := frozenN hcs7 (tf + 3)
        have HC7 := Lib.hid (And.intro hcs7 hb7)
        clear hcs7 hb7
        go_upto_region 8 with fail
        rw [show (((V7.setCell ⟨tb, tf, none⟩ (.int .i64 ez.sort)).setCell ⟨tb, tf + 1, none⟩ (.int .i64 ez.n)).setCell ⟨tb, tf + 2, none⟩ (.string (bstr ez.s))).setCell ⟨tb, tf + 3, none⟩ (.slice none 0 0) = put4 V7 tb tf (.int .i64 ez.sort) (.int .i64 ez.n) (.string (bstr ez.s)) (.slice none 0 0) from rfl]
        have hcs8 := put4_at HC7.out.1 tf (.int .i64 ez.sort) (.int .i64 ez.n) (.string (bstr ez.s)) (.slice none 0 0)
        have hot8 : ∀ b, b ≠ tb → (put4 V7 tb tf (.int .i64 ez.sort) (.int .i64 ez.n) (.string (bstr ez.s)) (.slice none 0 0)).heap[b]? = V7.heap[b]? := fun b hb => put4_other V7 tb tf _ _ _ _ hb
        have hsz8 := put4_size V7 tb tf (.int .i64 ez.sort) (.int .i64 ez.n) (.string (bstr ez.s)) (.slice none 0 0)
        have hbe8 : Below w.heap.size V7 (put4 V7 tb tf (.int .i64 ez.sort) (.int .i64 ez.n) (.string (bstr ez.s)) (.slice none 0 0)) := put4_bel V7 HFB.out.2.1 tf _ _ _ _
        generalize put4 V7 tb tf (.int .i64 ez.sort) (.int .i64 ez.n) (.string (bstr ez.s)) (.slice none 0 0) = W7 at *
        clear g0 g1 g2 g3 z0 z1 z2 z3 x0 x1 x2 x3
        have hW7 : Below w.heap.size w W7 := (HTD.out.bel.trans (HC7.out.2.mono HTD.out.bel.size)).trans hbe8
        have a4 := cell_below hW7 HAA.out.2.2.2
        have HW7 := Lib.hid (And.intro hW7 (And.intro hcs8 (And.intro hot8 hsz8)))
        clear hW7 hcs8 hot8 hsz8 hbe8
        rcases Nat.eq_zero_or_pos ez.l.length with hn | hn
        · rw [hn] at a4
          have HN := Lib.hid hn
          clear hn
          go_wp2_with fail
          go_loopw [4, 8, 65] (fun u _ i wz => u = .slice (some ⟨q, 0, none⟩) E'.length cap ∧ i = .int .i64 0 ∧ wz = W7) (fun _ _ _ _ => 0)
          case atStart => exact ⟨rfl, rfl, rfl⟩
          case round =>
            obtain ⟨rfl, rfl, hwe⟩ := hrel
            rw [hwe]
            clear hwe
            go_wp2_with fail
            have hkids : kids ez D 0 0 0 = [] := by unfold kids; rw [List.eq_nil_of_length_eq_zero HN.out]; rfl
            have hfin := TD.finish (e := ⟨ez, ed, fb, fo, tb, tf⟩) (D := D) (fb := 0) (fo := 0) (mk := 0) (W9 := W7) (w' := W7) (u := .slice (some ⟨q, 0, none⟩) E'.length cap) HTD.out HTop.out HD.out (fun x => absurd x (by have := HN.out; show ¬ 0 < ez.l.length; omega)) HCS.out.1 HCS.out.2.1 none 0 (fun b h1 h2 => (HW7.out.2.2.1 b h2).trans (HC7.out.2.block b h1)) (by rw [show (⟨ez, ed, fb, fo, tb, tf⟩ : Ent).z.l.length = 0 from HN.out]; exact HW7.out.2.1) (by rw [HW7.out.2.2.2]; exact HC7.out.2.size) (fun x => absurd x (by have := HN.out; show ¬ 0 < ez.l.length; omega)) (fun b _ _ => rfl) (Nat.le_refl _) HW7.out.1 (by rw [hkids, List.append_nil]; exact own_keep HCS.out.2.2.1 (fun g hg hl => by
              have hgq : q = g := Option.some.inj hg
              subst hgq
              exact (HW7.out.2.2.1 q HCS.out.2.2.2.2).trans (HC7.out.2.block q hl))) (.inl rfl)
            rw [hkids, List.append_nil] at hfin
            have HF := Lib.hid hfin
            clear hfin hkids
            go_roundg (wtE M E')
            case measure => rw [← HK.out]; exact HF.out.2.2
            case rel => exact ⟨E', HF.out.1, HF.out.2.1, rfl⟩
        · obtain ⟨csl, hvs, hcc, _⟩ := HCS.out.2.2.2.1.vs
          obtain ⟨fl, fol, rfl⟩ := hvs.addr hn
          obtain ⟨N, hN⟩ : ∃ N, ez.l.length = N := ⟨_, rfl⟩
          rw [hN] at a4
          have hNM : N ≤ 100000000 := by have := HLEN.out.2; have := HMD.out.1; omega
          have i0 : (0 : Int) < (N : Int) := by omega
          have i1 : (N : Int) ≤ 100000000 := by omega
          have HNN := Lib.hid (And.intro hN (And.intro hn hNM))
          clear hvs hcc hn hN hNM
          go_upto_region 10 with (at_make; refine wpList_mk elCV _ rfl (.tmp 56) (.tmp 56) rfl W7.heap.size .i64 .i64 (N : Int) (N : Int) N N rfl rfl rfl rfl (Nat.le_refl _) (by have := HNN.out.2.2; omega) (Nat.le_refl _) ?_; intro W8 hown8 hb8 hs8; have hcs8 := (hb8.block tb (lt_of_heap HW7.out.2.1)).trans HW7.out.2.1; have a4' := cell_below hb8 a4; obtain ⟨x0, x1, x2, x3, g0, g1, g2, g3⟩ := tgt_cells (o := tf) hcs8 (by simp; exact HCS.out.2.1); have z3 := frozenN hcs8 (tf + 3); have HW8 := Lib.hid (And.intro hown8 (And.intro hb8 (And.intro hs8 hcs8))); clear hown8 hb8 hs8 hcs8)
          have hcs9 := set_cells HW8.out.2.2.2 (tf + 3) (.slice (some ⟨W7.heap.size, 0, none⟩) N N)
          have hot9 : ∀ b, b ≠ tb → (W8.setCell ⟨tb, tf + 3, none⟩ (.slice (some ⟨W7.heap.size, 0, none⟩) N N)).heap[b]? = W8.heap[b]? := fun b hb => set_other W8 tb (tf + 3) _ hb
          have hsz9 : (W8.setCell ⟨tb, tf + 3, none⟩ (.slice (some ⟨W7.heap.size, 0, none⟩) N N)).heap.size = W8.heap.size := World.size_setCell _ _ _
          have hbe9 : Below w.heap.size W8 (W8.setCell ⟨tb, tf + 3, none⟩ (.slice (some ⟨W7.heap.size, 0, none⟩) N N)) := (Below.refl _ _).setCell (p := ⟨tb, tf + 3, none⟩) HFB.out.2.1 _
          generalize W8.setCell ⟨tb, tf + 3, none⟩ (.slice (some ⟨W7.heap.size, 0, none⟩) N N) = W9 at *
          have hfbt : fb ≠ tb := by have := HFB.out.1; have := HFB.out.2.1; omega
          have a49 : W9.cell? ⟨fb, fo + 4, none⟩ = some (.slice (some ⟨fl, fol, none⟩) N c) := by rw [World.cell?_of_block (hot9 fb hfbt)]; exact a4'
          have t39 : W9.cell? ⟨tb, tf + 3, none⟩ = some (.slice (some ⟨W7.heap.size, 0, none⟩) N N) := by
            rw [Lib.cell_of_heap hcs9, Array.getElem?_setIfInBounds_self_of_lt (by simp; have := HCS.out.2.1; omega)]
          have hb9 : Below w.heap.size w W9 := (HW7.out.1.trans (HW8.out.2.1.mono HW7.out.1.size)).trans hbe9
          have HW9 := Lib.hid (And.intro hcs9 (And.intro hot9 (And.intro hsz9 (And.intro hb9 (And.intro a49 t39)))))
          clear g0 g1 g2 g3 z3 x0 x1 x2 x3 a4 a4' hcs9 hot9 hsz9 hbe9 hfbt hb9 t39
          have HROW0 := Lib.hid (show W9.ownsRow w.heap.size 88 2 (.slice (some ⟨q, 0, none⟩) E'.length cap) E'.length (E'.flatMap Ent.cells) from own_keep HCS.out.2.2.1 (fun g hg hl => by
            have hgq : q = g := Option.some.inj hg
            subst hgq
            exact (HW9.out.2.1 q HCS.out.2.2.2.2).trans ((HW8.out.2.1.block q (by rw [HW7.out.2.2.2]; exact Nat.lt_of_lt_of_le hl HC7.out.2.size)).trans ((HW7.out.2.2.1 q HCS.out.2.2.2.2).trans (HC7.out.2.block q hl)))))
          go_wp2_with fail
          go_loopw [4, 8, 65] (fun u _ i wz => ∃ k : Nat, i = .int .i64 k ∧ k ≤ N ∧ wz.ownsRow w.heap.size 88 2 u (E'.length + k) (E'.flatMap Ent.cells ++ ((kids ez D fl fol W7.heap.size).take k).flatMap Ent.cells) ∧ (u.ownBlock = some q ∨ ∃ j, u.ownBlock = some j ∧ W9.heap.size ≤ j) ∧ (∀ b, b < W9.heap.size → b ≠ q → wz.heap[b]? = W9.heap[b]?) ∧ Below w.heap.size W9 wz) (fun _ _ i _ => N - (intOf i).toNat)
          case atStart => exact ⟨0, rfl, Nat.zero_le _, by simpa using HROW0.out, .inl rfl, fun _ _ _ => rfl, Below.refl _ _⟩
          case round =>
            obtain ⟨k, rfl, hkN, hrowk, hub, hkept, hbz⟩ := hrel
            clear a49
            by_cases hlt : k < N
            · obtain ⟨Au, cu, rfl, _⟩ := own_cap hrowk
              have htbq : tb ≠ q := Ne.symm HCS.out.2.2.2.2
              have hfq : fb ≠ q := by have := HFB.out.1; have := HFB.out.2.2.1; omega
              have htb9 : tb < W9.heap.size := lt_of_heap HW9.out.1
              have hfb9 : fb < W9.heap.size := by have := HFB.out.1; have := HW9.out.2.2.2.1.size; omega
              have a4z : wr.cell? ⟨fb, fo + 4, none⟩ = some (.slice (some ⟨fl, fol, none⟩) N c) := by rw [World.cell?_of_block (hkept fb hfb9 hfq)]; exact HW9.out.2.2.2.2.1
              have t3z : wr.cell? ⟨tb, tf + 3, none⟩ = some (.slice (some ⟨W7.heap.size, 0, none⟩) N N) := by rw [World.cell?_of_block (hkept tb htb9 htbq)]; exact HW9.out.2.2.2.2.2
              have k0 : (0 : Int) ≤ (k : Int) := by omega
              have k1 : (k : Int) < (N : Int) := by omega
              have hbA : Below wr.heap.size wr ((wr.alloc (.cells #[.pointer (some ⟨fl, fol + k * 6, none⟩), .pointer (some ⟨W7.heap.size, k * 4, none⟩)] 88)).drew) := ((Below.refl _ _).alloc (Nat.le_refl _) _).drew
              have HOA := Lib.hid (own_below hrowk hbA)
              have HRD := Lib.hid (Rd.drew (Rd.lit (size := 2) (n := 1) wr #[.pointer (some ⟨fl, fol + k * 6, none⟩), .pointer (some ⟨W7.heap.size, k * 4, none⟩)] 88 rfl (fr := (0, 0))))
              have HR := Lib.hid (And.intro hrowk (And.intro hub (And.intro hkept (And.intro hbz hkN))))
              have HBA := Lib.hid hbA
              have HSZ := Lib.hid (show w.heap.size ≤ ((wr.alloc (.cells #[.pointer (some ⟨fl, fol + k * 6, none⟩), .pointer (some ⟨W7.heap.size, k * 4, none⟩)] 88)).drew).heap.size by have h1 := hbA.size; have h2 := hbz.size; have h3 := HW9.out.2.2.2.1.size; omega)
              have HBY := Lib.hid (show (E'.length + k + 1) * 16 ≤ 140737488355328 by have h1 := HLEN.out.1; have h2 := HMD.out.2; have h3 := HNN.out.2.2; have h4 : E'.length ≤ M * D0 := Nat.le_trans (Nat.le_add_right _ _) h1; omega)
              have hone : ∀ u ∈ (#[.pointer (some ⟨fl, fol + k * 6, none⟩), .pointer (some ⟨W7.heap.size, k * 4, none⟩)] : Array Value).toList, u.oneCell' = true := by
                intro u hu
                simp at hu
                rcases hu with rfl | rfl <;> rfl
              have HONE := Lib.hid hone
              clear hrowk hub hkept hbz hkN htbq hfq htb9 hfb9 hbA hone
              go_upto_region 13 with fail
              go_region_law (refine step_app elTel ((wr.alloc (.cells #[.pointer (some ⟨fl, fol + k * 6, none⟩), .pointer (some ⟨W7.heap.size, k * 4, none⟩)] 88)).drew) (by rfl) (.tmp 68) (.tmp 82) (by rfl) w.heap.size (.slice Au (E'.length + k) cu) (E'.length + k) _ (by rfl) HOA.out (some ⟨wr.heap.size, 0, none⟩) 1 1 _ (by rfl) HRD.out HONE.out HBY.out HSZ.out ?_; intro v6 w6 hown6 hg6 hat6; have HG6 := Lib.hid (And.intro hown6 (And.intro hg6 hat6)); clear hown6 hg6 hat6)
              all_goals
                go_wp2_with fail
                go_roundw
                case rel =>
                  obtain ⟨hrowk, hub, hkept, hbz, hkN⟩ := HR.out
                  obtain ⟨hown6, hg6, hat6⟩ := HG6.out
                  have hkz : k < ez.l.length := by rw [HNN.out.1]; exact hlt
                  refine ⟨k + 1, by go_num, by omega, ?_, ?_, fun b h1 h2 => ?_, ?_⟩
                  · rw [kids_take hkz, ← List.append_assoc]
                    exact hown6
                  · rcases hat6 with x | x
                    · rw [x]; exact hub
                    · exact .inr ⟨_, x, Nat.le_trans hbz.size HBA.out.size⟩
                  · have hne : some b ≠ (Value.slice Au (E'.length + k) cu).ownBlock := by
                      rcases hub with x | ⟨j, x, hj⟩
                      · rw [x]; intro y; exact h2 (Option.some.inj y)
                      · rw [x]; intro y; have := Option.some.inj y; omega
                    have hbw := Nat.lt_of_lt_of_le h1 hbz.size
                    exact (hg6.block b (Nat.lt_of_lt_of_le hbw HBA.out.size) hne).trans ((HBA.out.block b hbw).trans (hkept b h1 h2))
                  · exact hbz.trans ((HBA.out.mono (Nat.le_trans HW9.out.2.2.2.1.size hbz.size)).trans (below_of_grown hg6 HSZ.out (fun j hj => (hrowk.lt j hj).1)))
                case measure => simp [intOf] <;> omega
            · have hkk : k = N := by omega
              subst hkk
              have hcm : ∃ cm Tm, W9.heap[W7.heap.size]? = some (.cells cm Tm (0, 0)) ∧ ez.l.length * 4 ≤ cm.size := by
                rcases HW8.out.1.2 with ⟨hv, _⟩ | ⟨g, cp, cur, hv, _, hgh, hnc, _, hsz, _⟩
                · cases hv
                · injection hv with h1 h2 h3
                  have h1' := Option.some.inj h1
                  injection h1' with h1''
                  subst h1''
                  refine ⟨cur, _, (HW9.out.2.1 _ (Nat.ne_of_gt (lt_of_heap HW7.out.2.1))).trans hgh, by rw [HNN.out.1, hsz]; exact Nat.mul_le_mul_right _ hnc⟩
              have hk2 := HW9.out.1
              rw [Array.setIfInBounds_setIfInBounds] at hk2
              have hwr7 := HC7.out.2.size
              have hs7 := HW7.out.2.2.2
              have hs8 := HW8.out.2.2.1
              have hs9 := HW9.out.2.2.1
              have hfin := TD.finish (e := ⟨ez, ed, fb, fo, tb, tf⟩) (D := D) (fb := fl) (fo := fol) (mk := W7.heap.size) (W9 := W9) (w' := wr) HTD.out HTop.out HD.out (fun _ => ⟨c, p, HCS.out.2.2.2.1⟩) HCS.out.1 HCS.out.2.1 (some ⟨W7.heap.size, 0, none⟩) k
                (fun b h1 h2 => (HW9.out.2.1 b h2).trans ((HW8.out.2.1.block b (by rw [hs7]; exact Nat.lt_of_lt_of_le h1 hwr7)).trans ((HW7.out.2.2.1 b h2).trans (HC7.out.2.block b h1))))
                (by rw [show (⟨ez, ed, fb, fo, tb, tf⟩ : Ent).z.l.length = k from HNN.out.1]; exact hk2) (by omega) (fun _ => ⟨by omega, by omega, hcm⟩) hkept hbz.size (HW9.out.2.2.2.1.trans hbz)
                (by
                  have hrk := hrowk
                  rw [List.take_of_length_le (by rw [kids_len, HNN.out.1]; exact Nat.le_refl _), ← List.flatMap_append] at hrk
                  rw [List.length_append, kids_len]
                  rw [show (⟨ez, ed, fb, fo, tb, tf⟩ : Ent).z.l.length = k from HNN.out.1]
                  exact hrk) hub
              have HF := Lib.hid hfin
              clear hfin hcm hk2 hwr7 hs7 hs8 hs9 hrowk hub hkept hbz hkN hlt
              go_wp2_with fail
              go_roundg (wtE M (E' ++ kids ez D fl fol W7.heap.size))
              case measure => rw [← HK.out]; exact HF.out.2.2
              case rel => exact ⟨_, HF.out.1, HF.out.2.1, rfl⟩
end Go.Proofs.YtpdfjdomjklkbaaGreatDoor
