/-
  A function by itself, by the code.
-/
import Derived.Test.YtpnihimoekkepaaCoQ
import Derived.Test.YtpnihimoekkepaaCoK
namespace Go.Proofs.Ytpnihimoekkepaa
open Go.ChangeShapes Go.WideShapes Go.ChangeAt Go.RowKit Go.Sort Go.Maps
set_option linter.unusedVariables false
set_option linter.unusedSimpArgs false

mutual
theorem nodes_eqv : ∀ (x y : Ex), x.eqv y → x.nodes = y.nodes
  | .mk d l, .mk e m, h => by
    unfold Ex.eqv at h
    unfold Ex.nodes
    rw [enodesL_eqv l m h.2.2.2.2.2]
theorem enodesL_eqv : ∀ (l m : List Ex), exL l m → enodesL l = enodesL m
  | [], [], _ => rfl
  | x :: l, y :: m, h => by
    unfold exL at h
    simp only [enodesL]
    rw [nodes_eqv x y h.1, enodesL_eqv l m h.2]
  | [], _ :: _, h => by simp [exL] at h
  | _ :: _, [], h => by simp [exL] at h
end
def zeroE : Ex := .mk ⟨0, 0, [], [], none, 0, 0, [], none, 0, 0⟩ []
def partOf : Ex → Ex
  | .mk _ [] => zeroE
  | .mk _ (x :: _) => x
theorem part_nodes {t : Ex} (h : t.nodes ≤ 4000000) : (partOf t).nodes ≤ 4000000 := by
  obtain ⟨d, l⟩ := t
  cases l with
  | nil => simp [partOf, zeroE, Ex.nodes, enodesL]
  | cons x m =>
    unfold Ex.nodes at h
    unfold enodesL at h
    show x.nodes ≤ 4000000
    omega
def capB (t : Ex) (x : Str) : Bool := if t.d.kind = 4 then t.freeB x else (partOf t).freeB x && !ownB t.d x
structure CapsOk (t : Ex) (l : List Str) : Prop where
  h1 : ∀ x ∈ l, capB t x = true ∧ x.length ≤ maxLen
  h2 : ∀ x : Str, x.length ≤ maxLen → capB t x = true → x ∈ l
  nd : l.Nodup ∧ inOrder l
/-- A function by itself. -/
structure Fu where
  s : Str
  t : Str
  A : Option Addr
  n : Nat
  c : Nat
  caps : List Str
  y : Ex
abbrev Fu.arr (f : Fu) : Array Value := #[.string (bstr f.s), .string (bstr f.t), .slice f.A f.n f.c, .int .i64 f.y.d.kind, .int .i64 f.y.d.n, .string (bstr f.y.d.s), .string (bstr f.y.d.t), .slice f.y.d.nA f.y.d.nn f.y.d.nc, .slice f.y.d.pA f.y.d.pn f.y.d.pc]
structure Fu.In (w : World) (f : Fu) : Prop where
  caps : Rd w 1 f.A f.n (strs f.caps)
  small : f.n ≤ f.c ∧ f.c ≤ maxLen ∧ f.n ≤ 4000000
  y : f.y.In w
theorem Fu.In.lower {w w' : World} {f : Fu} (h : f.In w) (hb : Below w.heap.size w w') : f.In w' := ⟨h.caps.below hb, h.small, h.y.lower hb⟩
structure Fu.Bl (P : Nat → Prop) (f : Fu) : Prop where
  caps : 0 < f.n → ∀ a, f.A = some a → P a.block
  y : f.y.Bl P
def FunR (t : Ex) (W : World) (e : Ending) (w' : World) : Prop :=
  ∃ f : Fu, e = .returned (.agg f.arr) ∧ f.In w' ∧ f.s = (if t.d.kind = 4 then [] else t.d.s) ∧ f.t = (if t.d.kind = 4 then t.d.s else t.d.t) ∧ f.y.eqv (partOf t) ∧ CapsOk t f.caps ∧ Below W.heap.size W w' ∧ f.Bl (fun b => W.heap.size ≤ b)

/-! ### What is free is free wherever it lies. -/
inductive Ex.Nm : Ex → Prop
  | mk (d : ExD) (l : List Ex) (h : d.names.length = d.nn) (sub : ∀ x ∈ l, Ex.Nm x) : Ex.Nm (.mk d l)
theorem Ex.In.nm {w : World} {t : Ex} (h : t.In w) : t.Nm := by
  induction h with
  | mk d l nam par cap sub ih => exact .mk d l (Ex.In.mk d l nam par cap sub).namLen ih
theorem boundF_eqv {d e : ExD} (h1 : d.kind = e.kind) (h2 : d.s = e.s) (h3 : d.t = e.t) (h4 : d.names = e.names) (h5 : d.nn = e.nn) (i : Nat) : d.boundF i = e.boundF i := by
  unfold ExD.boundF
  rw [h1, h2, h3, h4, h5]
theorem freeB_eqv {x : Ex} (hx : x.Nm) : ∀ {y : Ex}, y.Nm → x.eqv y → x.freeB = y.freeB := by
  induction hx with
  | mk d l hd sub ih =>
  intro y hy he
  cases hy with
  | mk e m hm sub' =>
  unfold Ex.eqv at he
  have hb : ∀ i, d.boundF i = e.boundF i := boundF_eqv he.1 he.2.2.1 he.2.2.2.1 he.2.2.2.2.1 (by rw [← hd, ← hm, he.2.2.2.2.1])
  have hL : ∀ (l' m' : List Ex), (∀ x ∈ l', x ∈ l) → (∀ y ∈ m', y ∈ m) → exL l' m' → ∀ (i : Nat) (s : Str), freeLB d l' i s = freeLB e m' i s := by
    intro l'
    induction l' with
    | nil =>
      intro m' _ _ h i s
      cases m' with
      | nil => rfl
      | cons _ _ => simp [exL] at h
    | cons a l' ih' =>
      intro m' k1 k2 h i s
      cases m' with
      | nil => simp [exL] at h
      | cons b m' =>
        unfold exL at h
        unfold freeLB
        rw [ih a (k1 a (by simp)) (sub' b (k2 b (by simp))) h.1, hb i, ih' m' (fun x hx => k1 x (by simp [hx])) (fun x hx => k2 x (by simp [hx])) h.2]
  funext s
  unfold Ex.freeB
  rw [he.1, he.2.2.1, hL l m (fun x h => h) (fun x h => h) he.2.2.2.2.2]
theorem zeroE_in (w : World) : zeroE.In w := .mk _ _ (Rd.nil _ _ _) (Rd.nil _ _ _) ⟨⟨Nat.le_refl _, Nat.zero_le _, Nat.zero_le _⟩, ⟨Nat.le_refl _, Nat.zero_le _, Nat.zero_le _⟩, Nat.zero_le _, Nat.zero_le _, (fun s hs => by cases hs)⟩ (fun x hx => by cases hx)
theorem zeroE_bl (P : Nat → Prop) : zeroE.Bl P := .mk _ _ (fun h => absurd (show 0 < 0 from h) (by omega)) (fun h => absurd (show 0 < 0 from h) (by omega)) (fun x hx => by cases hx)
theorem eqv_refl : ∀ x : Ex, x.eqv x := by
  have key : ∀ x : Ex, x.eqv x := fun x => Ex.rec (motive_1 := fun x => x.eqv x) (motive_2 := fun l => exL l l) (fun d l h => ⟨rfl, rfl, rfl, rfl, rfl, h⟩) trivial (fun x l h1 h2 => ⟨h1, h2⟩) x
  exact key
theorem cells9 {w : World} {g : Nat} {x0 x1 x2 x3 x4 x5 x6 x7 x8 : Value} {T : TypeId} {fr : Nat × Nat} (h : w.heap[g]? = some (.cells #[x0, x1, x2, x3, x4, x5, x6, x7, x8] T fr)) :
    w.cell? ⟨g, 0, none⟩ = some x0 ∧ w.cell? ⟨g, 1, none⟩ = some x1 ∧ w.cell? ⟨g, 2, none⟩ = some x2 ∧ w.cell? ⟨g, 3, none⟩ = some x3 ∧ w.cell? ⟨g, 4, none⟩ = some x4 ∧ w.cell? ⟨g, 5, none⟩ = some x5 ∧ w.cell? ⟨g, 6, none⟩ = some x6 ∧ w.cell? ⟨g, 7, none⟩ = some x7 ∧ w.cell? ⟨g, 8, none⟩ = some x8 := by
  refine ⟨?_, ?_, ?_, ?_, ?_, ?_, ?_, ?_, ?_⟩ <;> (rw [Lib.cell_of_heap h]; rfl)
theorem frozen9 {w : World} {g : Nat} {cs : Array Value} {T : TypeId} (h : w.heap[g]? = some (.cells cs T (0, 0))) (i : Nat) : w.frozen? ⟨g, i, none⟩ = false := Lib.frozen_of_heap h i
abbrev put9 (w : World) (g : Nat) (a0 a1 a2 a3 a4 a5 a6 a7 a8 : Value) : World := ((((((((w.setCell ⟨g, 0, none⟩ a0).setCell ⟨g, 1, none⟩ a1).setCell ⟨g, 2, none⟩ a2).setCell ⟨g, 3, none⟩ a3).setCell ⟨g, 4, none⟩ a4).setCell ⟨g, 5, none⟩ a5).setCell ⟨g, 6, none⟩ a6).setCell ⟨g, 7, none⟩ a7).setCell ⟨g, 8, none⟩ a8
theorem put9_box (w : World) (g : Nat) {x0 x1 x2 x3 x4 x5 x6 x7 x8 : Value} {T : TypeId} {fr : Nat × Nat} (h : w.heap[g]? = some (.cells #[x0, x1, x2, x3, x4, x5, x6, x7, x8] T fr)) (a0 a1 a2 a3 a4 a5 a6 a7 a8 : Value) :
    (put9 w g a0 a1 a2 a3 a4 a5 a6 a7 a8).heap[g]? = some (.cells #[a0, a1, a2, a3, a4, a5, a6, a7, a8] T fr) := by
  simp [put9, World.setCell, Array.getElem?_modify, h]
theorem put9_other (w : World) (g : Nat) (a0 a1 a2 a3 a4 a5 a6 a7 a8 : Value) {b : Nat} (h : b ≠ g) : (put9 w g a0 a1 a2 a3 a4 a5 a6 a7 a8).heap[b]? = w.heap[b]? :=
  (Below.heap_setCell _ ⟨g, 8, none⟩ _ b h).trans ((Below.heap_setCell _ ⟨g, 7, none⟩ _ b h).trans ((Below.heap_setCell _ ⟨g, 6, none⟩ _ b h).trans (put6_other w g _ _ _ _ _ _ h)))
theorem put9_below {M : Nat} {W w : World} {g : Nat} (h : Below M W w) (hg : M ≤ g) (a0 a1 a2 a3 a4 a5 a6 a7 a8 : Value) : Below M W (put9 w g a0 a1 a2 a3 a4 a5 a6 a7 a8) :=
  Below.setCell (p := ⟨g, 8, none⟩) (Below.setCell (p := ⟨g, 7, none⟩) (Below.setCell (p := ⟨g, 6, none⟩) (put6_below h hg a0 a1 a2 a3 a4 a5) hg a6) hg a7) hg a8
theorem Ex.In.lower7 {w w' : World} {y : Ex} (h : y.In w) (hb : Below w.heap.size w w') : y.In w'.drew := (h.lower hb).lower (below_drew1 _)
/-- The result's cells, written. -/
theorem fin_ok {W wc : World} {y : Ex} {A : Option Addr} {n c : Nat} {ss : List Str} {B : Nat} (J : World) (m : Nat) (hsz : wc.heap.size ≤ J.heap.size) (hm : m + 2 < wc.heap.size) {x0 x1 x2 x3 x4 x5 x6 x7 x8 : Value} {T : TypeId} {fr : Nat × Nat} (hq : J.heap[m + 1]? = some (.cells #[x0, x1, x2, x3, x4, x5, x6, x7, x8] T fr))
    (hy : y.In J) (hb : y.Bl (fun b => m + 3 ≤ b)) (hrow : J.ownsRow B 9 1 (.slice A n c) n (strs ss)) (hB : wc.heap.size ≤ B) (hw : Below m W J) (a0 a1 a2 a3 a4 a5 a6 a7 a8 : Value) :
    (put9 J (m + 1) a0 a1 a2 a3 a4 a5 a6 a7 a8).heap[m + 1]? = some (.cells #[a0, a1, a2, a3, a4, a5, a6, a7, a8] T fr) ∧ Rd (put9 J (m + 1) a0 a1 a2 a3 a4 a5 a6 a7 a8) 1 A n (strs ss) ∧ y.In (put9 J (m + 1) a0 a1 a2 a3 a4 a5 a6 a7 a8) ∧ Below m W (put9 J (m + 1) a0 a1 a2 a3 a4 a5 a6 a7 a8) :=
  ⟨put9_box J (m + 1) hq _ _ _ _ _ _ _ _ _, rd_keepP (P := fun b => m + 2 < b) (Rd.of_own hrow) (fun hn a ha => by have := (hrow.lt a.block (by rw [ha]; rfl)).1; omega) (fun b hb _ => put9_other J (m + 1) _ _ _ _ _ _ _ _ _ (by omega)), hy.keepP hb (fun b hb _ => put9_other J (m + 1) _ _ _ _ _ _ _ _ _ (by omega)), put9_below hw (by omega) _ _ _ _ _ _ _ _ _⟩
theorem zeroE_nm : zeroE.Nm := .mk _ _ rfl (fun x hx => by cases hx)
theorem part_nm {w : World} {t : Ex} (h : t.In w) : (partOf t).Nm := by
  obtain ⟨d, l⟩ := t
  cases l with
  | nil => exact zeroE_nm
  | cons x m => exact (h.sub x (by simp [Ex.l])).nm
theorem caps_rest {w : World} {t y : Ex} {ss : List Str} (hI : t.In w) (hk : ¬ t.d.kind = 4) (hn : y.Nm) (he : y.eqv (partOf t)) (h1 : ∀ x ∈ ss, y.freeB x = true ∧ x.length ≤ maxLen) (h2 : ∀ x : Str, x.length ≤ maxLen → y.freeB x = true → x ∈ ss) (h3 : ss.Nodup ∧ inOrder ss) : CapsOk t (ss.filter fun s => !ownB t.d s) := by
  have hf := freeB_eqv hn (part_nm hI) he
  refine ⟨fun x hx => ?_, fun x hl hx => ?_, h3.1.filter _, inOrder_filter h3.2 _⟩
  · rw [List.mem_filter] at hx
    unfold capB
    rw [if_neg hk, ← hf, (h1 x hx.1).1, hx.2]
    exact ⟨rfl, (h1 x hx.1).2⟩
  · unfold capB at hx
    rw [if_neg hk, ← hf, Bool.and_eq_true] at hx
    rw [List.mem_filter]
    exact ⟨h2 x hl hx.1, hx.2⟩
end Go.Proofs.Ytpnihimoekkepaa
