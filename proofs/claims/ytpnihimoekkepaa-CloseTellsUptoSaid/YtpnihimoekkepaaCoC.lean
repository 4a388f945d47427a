/-
  Core expressions in new memory: one without its parts, and all of one, by the code.
-/
import Derived.Test.YtpnihimoekkepaaCoM
import Derived.Test.YtpnihimoekkepaaMem
import Derived.Deep.AppendLies
import Derived.Deep.RegionHeld3
import Derived.Deep.RegionWith
import Derived.Deep.CutRange
import Derived.Lib.Builder
import Derived.Lib.QuietBelow
import Derived.Maps.AppendAt
import Derived.Laws.Cover1
import Derived.Lib.Hide
namespace Go.Proofs.Ytpnihimoekkepaa
open Go.ChangeShapes Go.WideShapes Go.ChangeAt Go.RowKit Go.Sort
set_option linter.unusedVariables false
set_option linter.unusedSimpArgs false

/-! ### Which blocks an expression lies in -/
inductive Ex.Bl (P : Nat → Prop) : Ex → Prop
  | mk (d : ExD) (l : List Ex) (nam : 0 < d.nn → ∀ a, d.nA = some a → P a.block) (par : 0 < d.pn → ∀ a, d.pA = some a → P a.block) (sub : ∀ x ∈ l, Ex.Bl P x) : Ex.Bl P (.mk d l)
theorem rd_keepP {w w' : World} {size n : Nat} {A : Option Addr} {cs : List Value} {P : Nat → Prop} (h : Rd w size A n cs) (hP : 0 < n → ∀ a, A = some a → P a.block) (hk : ∀ b, P b → b < w.heap.size → w'.heap[b]? = w.heap[b]?) : Rd w' size A n cs := by
  refine ⟨h.1, fun h0 => ?_⟩
  obtain ⟨a, e, hb, hh⟩ := h.addr h0
  have hn : 0 < n := by
    rcases Nat.eq_zero_or_pos n with q | q
    · have := h.1; rw [q] at this; omega
    · exact q
  refine ⟨a, e, fun j u hu => ?_⟩
  rw [← hh j u hu]
  exact World.cell?_of_block (by rw [add_block]; exact hk _ (hP hn a e) hb)
theorem Ex.In.keepP {w w' : World} {P : Nat → Prop} {t : Ex} (h : t.In w) (hP : t.Bl P) (hk : ∀ b, P b → b < w.heap.size → w'.heap[b]? = w.heap[b]?) : t.In w' := by
  induction h with
  | mk d l nam par cap sub ih =>
    cases hP with
    | mk _ _ p1 p2 ps =>
      exact .mk d l (rd_keepP nam p1 hk) (rd_keepP par p2 hk) cap (fun x hx => ih x hx (ps x hx))
theorem rd_imp {w : World} {P Q : Nat → Prop} {size n : Nat} {A : Option Addr} {cs : List Value} (hr : Rd w (size + 1) A n cs) (hp : 0 < n → ∀ a, A = some a → P a.block) (hq : ∀ b, P b → b < w.heap.size → Q b) : 0 < n → ∀ a, A = some a → Q a.block := by
  intro hn a ha
  obtain ⟨a', e, hb, _⟩ := hr.addr (by rw [hr.1, Nat.mul_add, Nat.mul_one]; omega)
  rw [ha] at e; cases e
  exact hq _ (hp hn a ha) hb
/-- With what lies in the heap. -/
theorem Ex.Bl.imp {w : World} {P Q : Nat → Prop} {t : Ex} (h : t.In w) (hP : t.Bl P) (hq : ∀ b, P b → b < w.heap.size → Q b) : t.Bl Q := by
  induction h with
  | mk d l nam par cap sub ih =>
    cases hP with
    | mk _ _ p1 p2 ps =>
      exact .mk d l (rd_imp nam p1 hq) (rd_imp par p2 hq) (fun x hx => ih x hx (ps x hx))
mutual
/-- All that two expressions tell is the same, wherever they lie. -/
def Ex.eqv : Ex → Ex → Prop
  | .mk d l, .mk e m => d.kind = e.kind ∧ d.n = e.n ∧ d.s = e.s ∧ d.t = e.t ∧ d.names = e.names ∧ exL l m
def exL : List Ex → List Ex → Prop
  | [], [] => True
  | x :: l, y :: m => x.eqv y ∧ exL l m
  | _, _ => False
end
theorem exL_len : ∀ {l m : List Ex}, exL l m → l.length = m.length
  | [], [], _ => rfl
  | x :: l, y :: m, h => by unfold exL at h; simp [exL_len h.2]
  | [], _ :: _, h => by simp [exL] at h
  | _ :: _, [], h => by simp [exL] at h
theorem exL_snoc : ∀ {l m : List Ex} {x y : Ex}, exL l m → x.eqv y → exL (l ++ [x]) (m ++ [y])
  | [], [], x, y, _, h => ⟨h, trivial⟩
  | a :: l, b :: m, x, y, h, k => by simp only [List.cons_append, exL] at h ⊢; exact ⟨h.1, exL_snoc h.2 k⟩
  | [], b :: m, x, y, h, _ => by simp [exL] at h
  | a :: l, [], x, y, h, _ => by simp [exL] at h

theorem elStr : ElemTy Try.prog 22 9 (.string ByteArray.empty) 1 16 := ⟨Try.underlying22, by kernel_rfl, rfl, by decide, by decide⟩
theorem nil_yes (n c : Nat) (w : World) : (binOp .eql 22 (.slice none n c) (.slice none 0 0)).run Try.prog w = .ok (.bool true) w := by kernel_rfl
theorem nil_no (a : Addr) (n c : Nat) (w : World) : (binOp .eql 22 (.slice (some a) n c) (.slice none 0 0)).run Try.prog w = .ok (.bool false) w := by kernel_rfl
set_option maxRecDepth 100000 in
set_option maxHeartbeats 1000000 in
theorem clone_any (A : Option Addr) (l : List Str) (n c : Nat) (w : World) (hr : Rd w 1 A n (strs l)) (hm : n ≤ 4000000) :
    Calls Try.prog 42 #[.slice A n c] w fun e w' => ∃ A' c', e = .returned (.slice A' n c') ∧ Rd w' 1 A' n (strs l) ∧ (0 < n → ∀ a, A' = some a → w.heap.size ≤ a.block) ∧ n ≤ c' ∧ c' ≤ maxLen ∧ Below w.heap.size w w' := by
  have HR := Lib.hid hr
  have HM := Lib.hid hm
  have q1 := nil_yes
  have q2 := nil_no
  cases A with
  | none =>
    have hn : n = 0 := by
      rcases Nat.eq_zero_or_pos n with q | q
      · exact q
      · obtain ⟨a, e, _⟩ := hr.addr (by rw [hr.1]; omega)
        cases e
    clear hr hm
    go_enter Try.func42, Try.ntmps42
    go_wp2_with fail
    go_returns
    subst hn
    exact ⟨none, 0, rfl, HR.out, fun h => absurd h (by omega), Nat.le_refl _, by simp [maxLen], Below.refl _ _⟩
  | some a =>
    clear hr hm
    go_enter Try.func42, Try.ntmps42
    have HOW := Lib.hid (World.ownsRow_made (base := w.heap.size) (e := 9) (size := 1) w #[] 0 (Nat.le_refl _) (by simp [maxLen]) rfl)
    go_wp2_with (at_builtin; refine wpList_app elStr _ rfl (.tmp 5) (.tmp 6) rfl w.heap.size (.slice (some ⟨w.heap.size, 0, none⟩) 0 0) 0 [] rfl HOW.out (some a) n c _ rfl (HR.out.alloc _) (strs_one l) (by have := HM.out; omega) (by simp) ?_; intro v6 w6 hown6 hb6 hg6 hat6; rw [Nat.zero_add] at hown6; rw [List.nil_append] at hown6; obtain ⟨A6, c6, hv6, hnc6, hcm6, _⟩ := own_cap hown6; rw [hv6] at hown6 hat6 ⊢; clear hv6)
    go_returns
    refine ⟨A6, c6, rfl, Rd.of_own hown6, ?_, by assumption, by assumption, ((Below.refl w.heap.size w).alloc (Nat.le_refl _) _).trans hb6⟩
    intro _ a' ha'
    subst ha'
    exact (hown6.lt a'.block rfl).1


theorem below_drew1 (w : World) : Below w.heap.size w w.drew := Below.drew (Below.refl _ _)
theorem lt_of_heap {w : World} {k : Nat} {o : Obj} (h : w.heap[k]? = some o) : k < w.heap.size := (Array.getElem?_eq_some_iff.1 h).1
theorem elCore : ElemTy Try.prog 23 25 (.agg #[.int .i64 0, .int .i64 0, .string ⟨#[]⟩, .string ⟨#[]⟩, .slice none 0 0, .slice none 0 0]) 6 96 :=
  ⟨Try.underlying23, by kernel_rfl, rfl, by omega, by omega⟩
theorem ex_ones (t : Ex) : ∀ u ∈ t.cells, u.oneCell' = true := by
  intro u hu
  unfold Ex.cells ExD.cells at hu
  simp only [List.mem_cons, List.not_mem_nil, or_false] at hu
  rcases hu with rfl | rfl | rfl | rfl | rfl | rfl <;> rfl
theorem cells6 {w : World} {g : Nat} {x0 x1 x2 x3 x4 x5 : Value} {T : TypeId} {fr : Nat × Nat} (h : w.heap[g]? = some (.cells #[x0, x1, x2, x3, x4, x5] T fr)) :
    w.cell? ⟨g, 0, none⟩ = some x0 ∧ w.cell? ⟨g, 1, none⟩ = some x1 ∧ w.cell? ⟨g, 2, none⟩ = some x2 ∧ w.cell? ⟨g, 3, none⟩ = some x3 ∧ w.cell? ⟨g, 4, none⟩ = some x4 ∧ w.cell? ⟨g, 5, none⟩ = some x5 := by
  refine ⟨?_, ?_, ?_, ?_, ?_, ?_⟩ <;> (rw [Lib.cell_of_heap h]; rfl)
theorem frozen6 {w : World} {g : Nat} {cs : Array Value} {T : TypeId} (h : w.heap[g]? = some (.cells cs T (0, 0))) :
    w.frozen? ⟨g, 0, none⟩ = false ∧ w.frozen? ⟨g, 1, none⟩ = false ∧ w.frozen? ⟨g, 2, none⟩ = false ∧ w.frozen? ⟨g, 3, none⟩ = false ∧ w.frozen? ⟨g, 4, none⟩ = false ∧ w.frozen? ⟨g, 5, none⟩ = false :=
  ⟨Lib.frozen_of_heap h 0, Lib.frozen_of_heap h 1, Lib.frozen_of_heap h 2, Lib.frozen_of_heap h 3, Lib.frozen_of_heap h 4, Lib.frozen_of_heap h 5⟩
/-- Six cells of a block, written. -/
abbrev put6 (w : World) (g : Nat) (a0 a1 a2 a3 a4 a5 : Value) : World := (((((w.setCell ⟨g, 0, none⟩ a0).setCell ⟨g, 1, none⟩ a1).setCell ⟨g, 2, none⟩ a2).setCell ⟨g, 3, none⟩ a3).setCell ⟨g, 4, none⟩ a4).setCell ⟨g, 5, none⟩ a5
theorem put6_box (w : World) (g : Nat) {x0 x1 x2 x3 x4 x5 : Value} {T : TypeId} {fr : Nat × Nat} (h : w.heap[g]? = some (.cells #[x0, x1, x2, x3, x4, x5] T fr)) (a0 a1 a2 a3 a4 a5 : Value) :
    (put6 w g a0 a1 a2 a3 a4 a5).heap[g]? = some (.cells #[a0, a1, a2, a3, a4, a5] T fr) := by
  simp [put6, World.setCell, Array.getElem?_modify, h]
theorem put6_other (w : World) (g : Nat) (a0 a1 a2 a3 a4 a5 : Value) {b : Nat} (h : b ≠ g) : (put6 w g a0 a1 a2 a3 a4 a5).heap[b]? = w.heap[b]? :=
  (Below.heap_setCell _ ⟨g, 5, none⟩ _ b h).trans ((Below.heap_setCell _ ⟨g, 4, none⟩ _ b h).trans ((Below.heap_setCell _ ⟨g, 3, none⟩ _ b h).trans ((Below.heap_setCell _ ⟨g, 2, none⟩ _ b h).trans ((Below.heap_setCell _ ⟨g, 1, none⟩ _ b h).trans (Below.heap_setCell _ ⟨g, 0, none⟩ _ b h)))))
theorem put6_below {M : Nat} {W w : World} {g : Nat} (h : Below M W w) (hg : M ≤ g) (a0 a1 a2 a3 a4 a5 : Value) : Below M W (put6 w g a0 a1 a2 a3 a4 a5) :=
  Below.setCell (p := ⟨g, 5, none⟩) (Below.setCell (p := ⟨g, 4, none⟩) (Below.setCell (p := ⟨g, 3, none⟩) (Below.setCell (p := ⟨g, 2, none⟩) (Below.setCell (p := ⟨g, 1, none⟩) (Below.setCell (p := ⟨g, 0, none⟩) h hg a0) hg a1) hg a2) hg a3) hg a4) hg a5

set_option maxRecDepth 100000 in
set_option maxHeartbeats 400000 in
theorem own_any (w0 : World) (d : ExD) (l : List Ex) (hI : (Ex.mk d l).In w0) (b o : Nat) (W : World) (hAt : d.At w0 b o) (hb : Below w0.heap.size w0 W) :
    Calls Try.prog 31 #[.pointer (some ⟨b, o, none⟩)] W fun e w' => ∃ A c, e = .returned (.agg #[.int .i64 d.kind, .int .i64 d.n, .string (bstr d.s), .string (bstr d.t), .slice A d.nn c, .slice none 0 0]) ∧ Rd w' 1 A d.nn (strs d.names) ∧ (0 < d.nn → ∀ a, A = some a → W.heap.size < a.block) ∧ d.nn ≤ c ∧ c ≤ maxLen ∧ Below W.heap.size W w' := by
  have hbz : Below W.heap.size W (W.alloc (.cells #[.int .i64 0, .int .i64 0, .string ⟨#[]⟩, .string ⟨#[]⟩, .slice none 0 0, .slice none 0 0] 25)) := (Below.refl _ _).alloc (Nat.le_refl _) _
  have HG := Lib.hid (heap_alloc_new W (.cells #[.int .i64 0, .int .i64 0, .string ⟨#[]⟩, .string ⟨#[]⟩, .slice none 0 0, .slice none 0 0] 25))
  have HSZ := Lib.hid (show (W.alloc (.cells #[.int .i64 0, .int .i64 0, .string ⟨#[]⟩, .string ⟨#[]⟩, .slice none 0 0, .slice none 0 0] 25)).heap.size = W.heap.size + 1 from World.size_alloc _ _)
  have HBZ := Lib.hid hbz
  have HW := Lib.hid (show ∀ V, Below (W.alloc (.cells #[.int .i64 0, .int .i64 0, .string ⟨#[]⟩, .string ⟨#[]⟩, .slice none 0 0, .slice none 0 0] 25)).heap.size (W.alloc (.cells #[.int .i64 0, .int .i64 0, .string ⟨#[]⟩, .string ⟨#[]⟩, .slice none 0 0, .slice none 0 0] 25)) V → Below w0.heap.size w0 V from fun V h => below_then (below_then hb hbz) h)
  have HGW := Lib.hid (show w0.heap.size ≤ W.heap.size from hb.size)
  have HE := Lib.hid (fun V (h : Below w0.heap.size w0 V) => (show d.At w0 b o from hAt).lower h)
  have HCL := Lib.hid (show ∀ V, Below w0.heap.size w0 V → Calls Try.prog 42 #[.slice d.nA d.nn d.nc] V fun e w' => ∃ A' c', e = .returned (.slice A' d.nn c') ∧ Rd w' 1 A' d.nn (strs d.names) ∧ (0 < d.nn → ∀ a, A' = some a → V.heap.size ≤ a.block) ∧ d.nn ≤ c' ∧ c' ≤ maxLen ∧ Below V.heap.size V w' from fun V h => clone_any d.nA d.names d.nn d.nc V ((show Rd w0 1 d.nA d.nn (strs d.names) from hI.nam).below h) hI.cap.1.2.2)
  clear hI hAt hb hbz
  go_enter Try.func31, Try.ntmps31
  go_upto_region 1 with fail
  generalize (W.alloc (.cells #[.int .i64 0, .int .i64 0, .string ⟨#[]⟩, .string ⟨#[]⟩, .slice none 0 0, .slice none 0 0] 25)) = w1 at *
  have HSC := Lib.hid (show ∀ V, Below w0.heap.size w0 V → (V.cell? ⟨b, o, none⟩ = some (.int .i64 d.kind) ∧ V.cell? ⟨b, o + 1, none⟩ = some (.int .i64 d.n) ∧ V.cell? ⟨b, o + 2, none⟩ = some (.string (bstr d.s)) ∧ V.cell? ⟨b, o + 3, none⟩ = some (.string (bstr d.t)) ∧ V.cell? ⟨b, o + 4, none⟩ = some (.slice d.nA d.nn d.nc)) from fun V h => ⟨(HE.out V h).c0, (HE.out V h).c1, (HE.out V h).c2, (HE.out V h).c3, (HE.out V h).c4⟩)
  have HD := Lib.hid (show Below w1.heap.size w1 w1.drew from below_drew1 _)
  have HSD := Lib.hid (HSC.out _ (HW.out _ HD.out))
  have HCD := Lib.hid (show Calls Try.prog 42 #[.slice d.nA d.nn d.nc] w1.drew fun e w' => ∃ A' c', e = .returned (.slice A' d.nn c') ∧ (Below w1.heap.size w1 w' ∧ Rd w' 1 A' d.nn (strs d.names) ∧ (0 < d.nn → ∀ a, A' = some a → w1.heap.size ≤ a.block) ∧ d.nn ≤ c' ∧ c' ≤ maxLen) from (HCL.out _ (HW.out _ HD.out)).mono fun e w' ⟨A, c, h0, h1, h2, h3, h4, h5⟩ => ⟨A, c, h0, below_then HD.out h5, h1, h2, h3, h4⟩)
  go_region_held3 (fun V => V.cell? ⟨b, o, none⟩ = some (.int .i64 d.kind) ∧ V.cell? ⟨b, o + 1, none⟩ = some (.int .i64 d.n) ∧ V.cell? ⟨b, o + 2, none⟩ = some (.string (bstr d.s)) ∧ V.cell? ⟨b, o + 3, none⟩ = some (.string (bstr d.t)) ∧ V.cell? ⟨b, o + 4, none⟩ = some (.slice d.nA d.nn d.nc))
    (first | with_reducible exact HSD.out | with_reducible exact HSC.out _ (HW.out _ HJ.out.1) | with_reducible exact HSC.out _ (put6_below (HW.out _ HJ.out.1) HGW.out _ _ _ _ _ _) | fail)
    (first
    | (go_at_call 42; (with_reducible refine HCD.out.mono ?_); rintro e J ⟨A, c, rfl, hJ⟩; have HJ := Lib.hid hJ; have hq := (HJ.out.1.block W.heap.size (lt_of_heap HG.out)).trans HG.out; have HQ := Lib.hid hq; obtain ⟨j0, j1, j2, j3, j4, j5⟩ := cells6 hq; obtain ⟨z0, z1, z2, z3, z4, z5⟩ := frozen6 hq; clear hJ hq)
    | fail)
  all_goals
    go_wp2_with fail
    clear j0 j1 j2 j3 j4 j5 z0 z1 z2 z3 z4 z5
    have HF := Lib.hid (show ((((((J.setCell ⟨W.heap.size, 0, none⟩ (.int .i64 d.kind)).setCell ⟨W.heap.size, 1, none⟩ (.int .i64 d.n)).setCell ⟨W.heap.size, 2, none⟩ (.string (bstr d.s))).setCell ⟨W.heap.size, 3, none⟩ (.string (bstr d.t))).setCell ⟨W.heap.size, 4, none⟩ (.slice A d.nn c)).setCell ⟨W.heap.size, 5, none⟩ (.slice none 0 0)).heap[W.heap.size]? = some (.cells #[.int .i64 d.kind, .int .i64 d.n, .string (bstr d.s), .string (bstr d.t), .slice A d.nn c, .slice none 0 0] 25) from put6_box J W.heap.size HQ.out (.int .i64 d.kind) (.int .i64 d.n) (.string (bstr d.s)) (.string (bstr d.t)) (.slice A d.nn c) (.slice none 0 0))
    have HBE := Lib.hid (show Below W.heap.size W ((((((J.setCell ⟨W.heap.size, 0, none⟩ (.int .i64 d.kind)).setCell ⟨W.heap.size, 1, none⟩ (.int .i64 d.n)).setCell ⟨W.heap.size, 2, none⟩ (.string (bstr d.s))).setCell ⟨W.heap.size, 3, none⟩ (.string (bstr d.t))).setCell ⟨W.heap.size, 4, none⟩ (.slice A d.nn c)).setCell ⟨W.heap.size, 5, none⟩ (.slice none 0 0)) from put6_below (below_then HBZ.out HJ.out.1) (Nat.le_refl _) (.int .i64 d.kind) (.int .i64 d.n) (.string (bstr d.s)) (.string (bstr d.t)) (.slice A d.nn c) (.slice none 0 0))
    have HRD := Lib.hid (show Rd ((((((J.setCell ⟨W.heap.size, 0, none⟩ (.int .i64 d.kind)).setCell ⟨W.heap.size, 1, none⟩ (.int .i64 d.n)).setCell ⟨W.heap.size, 2, none⟩ (.string (bstr d.s))).setCell ⟨W.heap.size, 3, none⟩ (.string (bstr d.t))).setCell ⟨W.heap.size, 4, none⟩ (.slice A d.nn c)).setCell ⟨W.heap.size, 5, none⟩ (.slice none 0 0)) 1 A d.nn (strs d.names) from rd_keepP (P := fun b => W.heap.size < b) (w' := put6 J W.heap.size (.int .i64 d.kind) (.int .i64 d.n) (.string (bstr d.s)) (.string (bstr d.t)) (.slice A d.nn c) (.slice none 0 0)) HJ.out.2.1 (fun hn a ha => by have := HJ.out.2.2.1 hn a ha; have := HSZ.out; omega) (fun b hb _ => put6_other J _ _ _ _ _ _ _ (by omega)))
    have HX := Lib.hid (And.intro HJ.out.2.2.1 (And.intro HJ.out.2.2.2.1 HJ.out.2.2.2.2))
    have HSZ1 := Lib.hid HSZ.out
    clear HJ HQ
    generalize ((((((J.setCell ⟨W.heap.size, 0, none⟩ (.int .i64 d.kind)).setCell ⟨W.heap.size, 1, none⟩ (.int .i64 d.n)).setCell ⟨W.heap.size, 2, none⟩ (.string (bstr d.s))).setCell ⟨W.heap.size, 3, none⟩ (.string (bstr d.t))).setCell ⟨W.heap.size, 4, none⟩ (.slice A d.nn c)).setCell ⟨W.heap.size, 5, none⟩ (.slice none 0 0)) = w7 at *
    obtain ⟨e0, e1, e2, e3, e4, e5⟩ := cells6 HF.out
    refine bodyPost_ret (by simp [results, Try.results31, go_sem, e0, e1, e2, e3, e4, e5]; try rfl) rfl ?_
    exact ⟨A, c, rfl, HRD.out, fun hn a ha => by have := HX.out.1 hn a ha; have := HSZ1.out; omega, HX.out.2.1, HX.out.2.2, HBE.out⟩
end Go.Proofs.Ytpnihimoekkepaa
