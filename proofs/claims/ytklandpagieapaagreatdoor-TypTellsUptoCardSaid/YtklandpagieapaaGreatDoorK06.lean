/-
  Types put in, by the code: in types without rows.
  Types that are alike: one text, one answer to whether they may be. About no program.
  The document's example, by the law's own function.
  What the law asks of: numbers that are the same; how much is left for a type.
  TypTells: what it answers at its end.
-/
import Derived.Test.YtklandpagieapaaGreatDoorK05
import Derived.Test.YtklandpagieapaaGreatDoorK03
import Derived.Test.YtklandpagieapaaGreatDoorK04
import Derived.Test.YtklandpagieapaaGreatDoorK02
import Derived.Deep.RegionHeld3
namespace Go.Proofs.YtklandpagieapaaGreatDoor
open Go.ChangeShapes Go.WideShapes Go.ChangeAt Go.RowKit Go.Sort Go.Maps
set_option linter.unusedVariables false
set_option linter.unusedSimpArgs false
attribute [local irreducible] Go.wpQuiet

set_option maxRecDepth 100000 in
set_option maxHeartbeats 2000000 in
theorem pclashes_any (w0 : World) (p : Nat) (t : Ty) (hI : t.In w0) : t.nr → ∀ (b o : Nat) (W : World), t.d.At w0 b o → Below w0.heap.size w0 W →
    Calls Tryz.prog 38 #[.pointer (some ⟨p, 0, none⟩), .pointer (some ⟨b, o, none⟩)] W fun e w' => e = .returned (.bool false) ∧ Below W.heap.size W w' := by
  induction hI with
  | mk d l lab par cap sub ih =>
  intro hnr b o W hAt hb
  have hI : (Ty.mk d l).In w0 := .mk d l lab par cap sub
  obtain ⟨hk, hnl⟩ : ¬ (d.kind = 4 ∨ d.kind = 5) ∧ nrL l := by unfold Ty.nr at hnr; exact hnr
  have HE := Lib.hid (fun V (h : Below w0.heap.size w0 V) => (show d.At w0 b o from hAt).lower h)
  have HB := Lib.hid hb
  have HI := Lib.hid hI
  have HX := Lib.hid (fun x (hx : x ∈ l) => ih x hx (nrL_mem l x hx hnl))
  have HL := Lib.hid (show l.length = d.pn from hI.len)
  have HCP := Lib.hid cap
  have HRO := Lib.hid (prow_no p d b o W (HE.out _ hb) hk)
  clear lab par cap sub ih hnr hAt hI hk hnl hb
  go_enter Tryz.func38, Tryz.ntmps38
  go_wp2_with fail
  refine HRO.out.mono ?_
  rintro e w2 ⟨rfl, hb2⟩
  have hb3 : Below w2.heap.size w2 (w2.alloc (.cells Lf.zero.arr 25)) := (Below.refl _ _).alloc (Nat.le_refl _) _
  have H3 := Lib.hid (below_then hb2 hb3)
  clear hb2 hb3 HRO
  obtain ⟨c0, c1, c2, c3, c4⟩ := HE.out _ (below_then HB.out H3.out)
  go_wp2_with fail
  generalize (w2.alloc (.cells Lf.zero.arr 25)) = w3 at *
  go_quiet (fail)
  have H4 := Lib.hid (show Below W.heap.size W (w3.drewN nq) from below_drewN H3.out nq)
  go_wp2_with fail
  clear c0 c1 c2 c3 c4
  go_loopw [31] (fun i wr => ∃ k : Nat, i = .int .i64 k ∧ k ≤ d.pn ∧ Below W.heap.size W wr) (fun i _ => d.pn - (intOf i).toNat)
  case atStart => exact ⟨0, rfl, Nat.zero_le _, H4.out⟩
  case round =>
    obtain ⟨k, rfl, hk, hbr⟩ := hrel
    have HR := Lib.hid hbr
    by_cases hlt : k < d.pn
    · have hkl : k < l.length := by rw [HL.out]; exact hlt
      obtain ⟨pb, po, hpA, hAtP⟩ := HI.out.part (k := k) hkl
      have hpA' : d.pA = some ⟨pb, po, none⟩ := hpA
      have c2 := (HE.out _ (below_then HB.out hbr)).c2
      rw [hpA'] at c2
      have HM := Lib.hid (HX.out l[k] (List.getElem_mem hkl) pb (po + k * 5) wr (hAtP k hkl) (below_then HB.out hbr))
      have hki : (k : Int) < (d.pn : Int) := by omega
      have hk0 : (0 : Int) ≤ (k : Int) := by omega
      have hk4 : (k : Int) ≤ 4000000 := by have := HCP.out.2.2.2.2.2; omega
      clear hpA hpA' hAtP hkl hbr
      go_wp2_with fail
      refine HM.out.mono ?_
      rintro e w4 ⟨rfl, hb4⟩
      have H4 := Lib.hid (below_then HR.out hb4)
      clear hb4 HM
      go_wp2_with fail
      go_roundw
      case rel => exact ⟨k + 1, by go_num, hlt, H4.out⟩
      case measure => simp [intOf] <;> omega
    · have hki : ¬ (k : Int) < (d.pn : Int) := by omega
      go_wp2_with fail
      go_returns
      exact ⟨rfl, HR.out⟩

/-- What Put tells: a type that is alike, and no error. -/
def PutR (t : Ty) (W : World) (e : Ending) (w' : World) : Prop := ∃ y : Ty, e = .returned (.tuple #[.agg y.d.arr, .nilIface]) ∧ y.In w' ∧ y.eqv t ∧ Below W.heap.size W w'
theorem LM.map {F : Int → Option Lf} {c : Nat} {w : World} {m : Value} (h : LM F c w m) : ∃ o, m = .map o := by
  cases h with
  | none h hc => exact ⟨_, rfl⟩
  | own bk k D hk h hD => exact ⟨_, rfl⟩

set_option maxRecDepth 100000 in
set_option maxHeartbeats 2000000 in
theorem put_any {F G : Int → Option Lf} {c1 c2 : Nat} {m1 m2 : Value} (hF : OkF F) (hG : OkF G) (hG4 : ∀ n x, G n = some x → x.k = 4) (t : Ty) (W : World) (hI : t.In W) (hnr : t.nr) (hR : t.Rg) (hm : (mayF t 0).isSome = true) (h1 : LM F c1 W m1) (h2 : LM G c2 W m2) :
    Calls Tryz.prog 18 #[.agg t.d.arr, m1, m2] W (PutR (subT F t) W) := by
  obtain ⟨o1, rfl⟩ := h1.map
  obtain ⟨o2, rfl⟩ := h2.map
  have hb1 : Below W.heap.size W (W.alloc (.cells t.d.arr 25)) := (Below.refl _ _).alloc (Nat.le_refl _) _
  have hb2 : Below W.heap.size W ((W.alloc (.cells t.d.arr 25)).alloc (.cells #[.int .i64 0, .int .i64 0, .slice none 0 0, .slice none 0 0, .int .i64 0] 25)) := hb1.alloc hb1.size _
  have hs1 : (W.alloc (.cells t.d.arr 25)).heap.size = W.heap.size + 1 := World.size_alloc _ _
  have HBX := Lib.hid ((box_at W t.d).lower (show Below _ _ ((W.alloc (.cells t.d.arr 25)).alloc (.cells #[.int .i64 0, .int .i64 0, .slice none 0 0, .slice none 0 0, .int .i64 0] 25)) from (Below.refl _ _).alloc (Nat.le_refl _) _))
  have HRS := Lib.hid (show ((W.alloc (.cells t.d.arr 25)).alloc (.cells #[.int .i64 0, .int .i64 0, .slice none 0 0, .slice none 0 0, .int .i64 0] 25)).heap[W.heap.size + 1]? = some (.cells #[.int .i64 0, .int .i64 0, .slice none 0 0, .slice none 0 0, .int .i64 0] 25) by
    have h := heap_alloc_new (W.alloc (.cells t.d.arr 25)) (.cells #[.int .i64 0, .int .i64 0, .slice none 0 0, .slice none 0 0, .int .i64 0] 25)
    rw [hs1] at h
    exact h)
  have HSZ := Lib.hid (show ((W.alloc (.cells t.d.arr 25)).alloc (.cells #[.int .i64 0, .int .i64 0, .slice none 0 0, .slice none 0 0, .int .i64 0] 25)).heap.size = W.heap.size + 2 by simp)
  have HL1 := Lib.hid (h1.below hb2)
  have HL2 := Lib.hid (h2.below hb2)
  have HI := Lib.hid (hI.lower hb2)
  have HB2 := Lib.hid hb2
  have HM := Lib.hid hm
  have HND := Lib.hid (show t.nodes ≤ 4000 ∧ t.fb by
    have hn := hm
    rw [mayF_nodes] at hn
    refine ⟨?_, ?_⟩
    · split at hn
      · rename_i h; omega
      · cases hn
    · cases h : mayF t 0 with
      | none => rw [h] at hm; cases hm
      | some j => exact mayF_fb t 0 j h)
  have HRG := Lib.hid hR
  have HNR := Lib.hid hnr
  clear hb1 hb2 hs1 h1 h2 hI hm hR hnr
  go_enter Tryz.func18, Tryz.ntmps18
  go_wp2_with fail
  generalize ((W.alloc (.cells t.d.arr 25)).alloc (.cells #[.int .i64 0, .int .i64 0, .slice none 0 0, .slice none 0 0, .int .i64 0] 25)) = w2 at *
  refine (sizes_any F c1 hF _ w2 HL1.out).mono ?_
  rintro e w3 ⟨b1, rfl, hs1, hb3⟩
  have H3 := Lib.hid (And.intro hs1 hb3)
  clear hs1 hb3
  go_wp2_with fail
  refine (sizes_any G c2 hG _ w3 (HL2.out.below H3.out.2)).mono ?_
  rintro e w4 ⟨b2, rfl, hs2, hb4⟩
  have H4 := Lib.hid (And.intro hs2 (And.intro (below_then H3.out.2 hb4) (H3.out.1.below hb4)))
  clear hs2 hb4
  have hb5 : Below w4.heap.size w4 (w4.alloc (.cells #[.map o1, .map o2, .map (some b1), .map (some b2)] 74)) := (Below.refl _ _).alloc (Nat.le_refl _) _
  have hp := heap_alloc_new w4 (.cells #[.map o1, .map o2, .map (some b1), .map (some b2)] 74)
  have HPA := Lib.hid (show PA F G c1 c2 (.map o1) (.map o2) b1 b2 (w4.alloc (.cells #[.map o1, .map o2, .map (some b1), .map (some b2)] 74)) w4.heap.size from ⟨by rw [Lib.cell_of_heap hp]; rfl, by rw [Lib.cell_of_heap hp]; rfl, by rw [Lib.cell_of_heap hp]; rfl, by rw [Lib.cell_of_heap hp]; rfl, HL1.out.below (below_then H4.out.2.1 hb5), HL2.out.below (below_then H4.out.2.1 hb5), H4.out.2.2.below hb5, H4.out.1.below hb5⟩)
  have H5 := Lib.hid (below_then H4.out.2.1 hb5)
  clear hp hb5
  obtain ⟨c0, c1, c2, c3, c4⟩ := HBX.out.lower H5.out
  go_wp2_with fail
  generalize (w4.alloc (.cells #[.map o1, .map o2, .map (some b1), .map (some b2)] 74)) = w5 at *
  obtain ⟨p, hpp⟩ : ∃ p, w4.heap.size = p := ⟨_, rfl⟩
  rw [hpp] at HPA ⊢
  clear hpp
  have HMY := Lib.hid (may_any t w5 (HI.out.lower H5.out))
  rw [HM.out] at HMY
  refine HMY.out.mono ?_
  rintro e w6 ⟨rfl, hb6⟩
  have H6 := Lib.hid hb6
  clear hb6 HMY c0 c1 c2 c3 c4
  go_wp2_with fail
  refine (pmay_any F G _ _ _ _ b1 b2 w6 p hG4 (HPA.out.below H6.out)).mono ?_
  rintro e w7 ⟨rfl, hb7⟩
  have H7 := Lib.hid (below_then H6.out hb7)
  clear hb7
  have HA5 := Lib.hid (HBX.out.lower H5.out)
  have hsz : ¬ (4000 : Int) < (t.nodes : Int) := by have := HND.out.1; omega
  go_wp2_with fail
  refine (psize_any w5 p HPA.out t (HI.out.lower H5.out) HNR.out HND.out.2 HRG.out (by have := HND.out.1; omega) W.heap.size 0 w7 HA5.out H7.out).mono ?_
  rintro e w8 ⟨rfl, hb8⟩
  have H8 := Lib.hid (below_then H7.out hb8)
  clear hb8
  go_wp2_with fail
  refine (pclashes_any w5 p t (HI.out.lower H5.out) HNR.out W.heap.size 0 w8 HA5.out H8.out).mono ?_
  rintro e w9 ⟨rfl, hb9⟩
  have H9 := Lib.hid (below_then H8.out hb9)
  clear hb9
  go_wp2_with fail
  refine (pin_any w5 p hF HPA.out t (HI.out.lower H5.out) HNR.out HND.out.2 HRG.out W.heap.size 0 w9 HA5.out H9.out).mono ?_
  rintro e v1 ⟨y, rfl, i1, k1, e1, hb1⟩
  have H1 := Lib.hid (And.intro i1 (And.intro k1 (And.intro e1 hb1)))
  have HBW := Lib.hid (below_then HB2.out (below_then H5.out (below_then H9.out hb1)))
  have hq := ((below_then H5.out (below_then H9.out hb1)).block (W.heap.size + 1) (by rw [HSZ.out]; omega)).trans HRS.out
  have HS9 := Lib.hid (show W.heap.size + 1 < w9.heap.size by have := HSZ.out; have := H5.out.size; have := H9.out.size; omega)
  clear i1 k1 e1 hb1
  obtain ⟨r0, r1, r2, r3, r4⟩ := cells5 hq
  obtain ⟨z0, z1, z2, z3, z4⟩ := frozen5 hq
  have HEN := Lib.hid (rc_end H1.out.1 H1.out.2.1 HS9.out HBW.out (Nat.le_succ _) hq (.int .i64 y.d.kind) (.int .i64 y.d.n) (.slice y.d.pA y.d.pn y.d.pc) (.slice y.d.lA y.d.ln y.d.lc) (.int .i64 y.d.tail))
  clear hq
  go_wp2_with fail
  clear r0 r1 r2 r3 r4 z0 z1 z2 z3 z4
  generalize (((((v1.setCell ⟨W.heap.size + 1, 0, none⟩ (.int .i64 y.d.kind)).setCell ⟨W.heap.size + 1, 1, none⟩ (.int .i64 y.d.n)).setCell ⟨W.heap.size + 1, 2, none⟩ (.slice y.d.pA y.d.pn y.d.pc)).setCell ⟨W.heap.size + 1, 3, none⟩ (.slice y.d.lA y.d.ln y.d.lc)).setCell ⟨W.heap.size + 1, 4, none⟩ (.int .i64 y.d.tail)) = w10 at *
  obtain ⟨e0, e1, e2, e3, e4⟩ := cells5 HEN.out.2.2
  refine bodyPost_ret (by simp [results, Tryz.results18, go_sem, e0, e1, e2, e3, e4]; try rfl) rfl ?_
  exact ⟨y, rfl, HEN.out.1, H1.out.2.2.1, HEN.out.2.1⟩
end Go.Proofs.YtklandpagieapaaGreatDoor

namespace Go.Proofs.YtklandpagieapaaGreatDoor
open Go.ChangeShapes Go.WideShapes Go.ChangeAt Go.RowKit Go.Sort
set_option linter.unusedVariables false
set_option linter.unusedSimpArgs false

theorem kdL_eqv : ∀ (l m : List Ty), tyL l m → kdL l = kdL m
  | [], [], _ => rfl
  | .mk d a :: l, .mk e b :: m, h => by
    unfold tyL at h
    have h1 : d.kind = e.kind := by have h2 := h.1; unfold Ty.eqv at h2; exact h2.1
    show d.kind :: kdL l = e.kind :: kdL m
    rw [h1, kdL_eqv l m h.2]
  | [], _ :: _, h => by simp [tyL] at h
  | _ :: _, [], h => by simp [tyL] at h
theorem txB_eqv {d e : TyD} (h1 : d.kind = e.kind) (h2 : d.n = e.n) (h3 : d.tail = e.tail) (h4 : d.labels = e.labels) (T R : List Int) (ps : List Str) (ks : List Int) : d.txB T R ps ks = e.txB T R ps ks := by
  unfold TyD.txB TyD.rowTx TyD.tailTx
  rw [h1, h2, h3, h4]
mutual
theorem tx_eqv (T R : List Int) : ∀ (x y : Ty), x.eqv y → x.tx T R = y.tx T R
  | .mk d l, .mk e m, h => by
    unfold Ty.eqv at h
    unfold Ty.tx
    rw [txL_eqv T R l m h.2.2.2.2, kdL_eqv l m h.2.2.2.2, txB_eqv h.1 h.2.1 h.2.2.1 h.2.2.2.1]
theorem txL_eqv (T R : List Int) : ∀ (l m : List Ty), tyL l m → txL T R l = txL T R m
  | [], [], _ => rfl
  | x :: l, y :: m, h => by
    unfold tyL at h
    simp only [txL]
    rw [tx_eqv T R x y h.1, txL_eqv T R l m h.2]
  | [], _ :: _, h => by simp [tyL] at h
  | _ :: _, [], h => by simp [tyL] at h
end
mutual
theorem meetT_eqv : ∀ (x y : Ty) (T R : List Int), x.eqv y → meetT x T R = meetT y T R
  | .mk d l, .mk e m, T, R, h => by
    unfold Ty.eqv at h
    unfold meetT
    rw [h.1, h.2.1, h.2.2.1, meetTs_eqv l m _ R h.2.2.2.2]
theorem meetTs_eqv : ∀ (l m : List Ty) (T R : List Int), tyL l m → meetTs l T R = meetTs m T R
  | [], [], _, _, _ => rfl
  | x :: l, y :: m, T, R, h => by
    unfold tyL at h
    unfold meetTs
    rw [meetT_eqv x y T R h.1, meetTs_eqv l m _ _ h.2]
  | [], _ :: _, _, _, h => by simp [tyL] at h
  | _ :: _, [], _, _, h => by simp [tyL] at h
end
theorem text_eqv {x y : Ty} (h : x.eqv y) : x.text = y.text := by
  unfold Ty.text
  rw [meetT_eqv x y [] [] h, tx_eqv _ _ x y h]
/-- How long a type's lists are, is what its parts and labels tell. -/
inductive Ty.Ln : Ty → Prop
  | mk (d : TyD) (l : List Ty) (hp : l.length = d.pn) (hl : d.labels.length = d.ln) (sub : ∀ x ∈ l, Ty.Ln x) : Ty.Ln (.mk d l)
theorem Ty.In.ln {w : World} {t : Ty} (h : t.In w) : t.Ln := by
  induction h with
  | mk d l lab par cap sub ih => exact .mk d l (Ty.In.mk d l lab par cap sub).len (Ty.In.mk d l lab par cap sub).labLen ih
theorem fieldsB_eqv {d e : TyD} (h1 : d.kind = e.kind) (h2 : d.n = e.n) (h3 : d.tail = e.tail) (h4 : d.labels = e.labels) (h5 : d.pn = e.pn) (h6 : d.ln = e.ln) : d.fieldsB = e.fieldsB := by
  unfold TyD.fieldsB TyD.bareB
  rw [h1, h2, h3, h4, h5, h6]
theorem mayF_eqv {x : Ty} (hx : x.Ln) : ∀ {y : Ty}, y.Ln → x.eqv y → ∀ k, mayF x k = mayF y k := by
  induction hx with
  | mk d l hp hl sub ih =>
  intro y hy he k
  cases hy with
  | mk e m hp' hl' sub' =>
  unfold Ty.eqv at he
  have hL : ∀ (l' m' : List Ty), (∀ x ∈ l', x ∈ l) → (∀ y ∈ m', y ∈ m) → tyL l' m' → ∀ k, mayL l' k = mayL m' k := by
    intro l'
    induction l' with
    | nil =>
      intro m' _ _ h k
      cases m' with
      | nil => rfl
      | cons _ _ => simp [tyL] at h
    | cons a l' ih' =>
      intro m' h1 h2 h k
      cases m' with
      | nil => simp [tyL] at h
      | cons b m' =>
        unfold tyL at h
        unfold mayL
        rw [ih a (h1 a (by simp)) (sub' b (h2 b (by simp))) h.1 k]
        cases mayF b k with
        | none => rfl
        | some j => exact ih' m' (fun x hx => h1 x (by simp [hx])) (fun x hx => h2 x (by simp [hx])) h.2 j
  unfold mayF
  rw [fieldsB_eqv he.1 he.2.1 he.2.2.1 he.2.2.2.1 (by rw [← hp, ← hp', tyL_len he.2.2.2.2]) (by rw [← hl, ← hl', he.2.2.2.1]), hL l m (fun x h => h) (fun x h => h) he.2.2.2.2]
mutual
theorem nodes_eqv : ∀ (x y : Ty), x.eqv y → x.nodes = y.nodes
  | .mk d l, .mk e m, h => by
    unfold Ty.eqv at h
    unfold Ty.nodes
    rw [nodesL_eqv l m h.2.2.2.2]
theorem nodesL_eqv : ∀ (l m : List Ty), tyL l m → nodesL l = nodesL m
  | [], [], _ => rfl
  | x :: l, y :: m, h => by
    unfold tyL at h
    simp only [nodesL]
    rw [nodes_eqv x y h.1, nodesL_eqv l m h.2]
  | [], _ :: _, h => by simp [tyL] at h
  | _ :: _, [], h => by simp [tyL] at h
end
mutual
theorem wt_eqv : ∀ (x y : Ty), x.eqv y → x.wt = y.wt
  | .mk d l, .mk e m, h => by
    unfold Ty.eqv at h
    unfold Ty.wt
    rw [wtL_eqv l m h.2.2.2.2, h.2.2.2.1]
theorem wtL_eqv : ∀ (l m : List Ty), tyL l m → wtL l = wtL m
  | [], [], _ => rfl
  | x :: l, y :: m, h => by
    unfold tyL at h
    simp only [wtL]
    rw [wt_eqv x y h.1, wtL_eqv l m h.2]
  | [], _ :: _, h => by simp [tyL] at h
  | _ :: _, [], h => by simp [tyL] at h
end
mutual
theorem rg_eqvM : ∀ (x y : Ty), x.eqv y → y.Rg → x.Rg
  | .mk d l, .mk e m, h, hy => by
    unfold Ty.eqv at h
    cases hy with
    | mk _ _ hn ht sub => exact .mk d l (by rw [h.2.1]; exact hn) (by rw [h.2.2.1]; exact ht) (rgL_eqvM l m h.2.2.2.2 sub)
theorem rgL_eqvM : ∀ (l m : List Ty), tyL l m → (∀ y ∈ m, y.Rg) → ∀ x ∈ l, x.Rg
  | [], _, _, _ => fun x hx => by cases hx
  | x :: l, y :: m, h, hy => by
    unfold tyL at h
    intro z hz
    rcases List.mem_cons.1 hz with rfl | hz
    · exact rg_eqvM z y h.1 (hy y (by simp))
    · exact rgL_eqvM l m h.2 (fun w hw => hy w (by simp [hw])) z hz
  | _ :: _, [], h, _ => by simp [tyL] at h
end
end Go.Proofs.YtklandpagieapaaGreatDoor

namespace Go.Proofs.YtklandpagieapaaGreatDoor
open Go.ChangeShapes Go.WideShapes Go.ChangeAt Go.RowKit Go.Sort Go.Maps
set_option linter.unusedVariables false
set_option linter.unusedSimpArgs false

mutual
theorem subT_eqv (F : Int → Option Lf) : ∀ (x y : Ty), x.eqv y → (subT F x).eqv (subT F y)
  | .mk d l, .mk e m, h => by
    unfold Ty.eqv at h
    unfold subT
    rw [h.1, h.2.1]
    split
    · exact Ty.eqv_refl _
    · exact ⟨h.1, h.2.1, h.2.2.1, h.2.2.2.1, subL_eqv F l m h.2.2.2.2⟩
theorem subL_eqv (F : Int → Option Lf) : ∀ (l m : List Ty), tyL l m → tyL (subL F l) (subL F m)
  | [], [], _ => trivial
  | x :: l, y :: m, h => by
    unfold tyL at h
    exact ⟨subT_eqv F x y h.1, subL_eqv F l m h.2⟩
  | [], _ :: _, h => by simp [tyL] at h
  | _ :: _, [], h => by simp [tyL] at h
end
mutual
theorem eqv_trans : ∀ (x y z : Ty), x.eqv y → y.eqv z → x.eqv z
  | .mk d l, .mk e m, .mk f n, h, k => by
    unfold Ty.eqv at h k ⊢
    exact ⟨h.1.trans k.1, h.2.1.trans k.2.1, h.2.2.1.trans k.2.2.1, h.2.2.2.1.trans k.2.2.2.1, tyL_trans l m n h.2.2.2.2 k.2.2.2.2⟩
theorem tyL_trans : ∀ (l m n : List Ty), tyL l m → tyL m n → tyL l n
  | [], [], [], _, _ => trivial
  | x :: l, y :: m, z :: n, h, k => by
    unfold tyL at h k ⊢
    exact ⟨eqv_trans x y z h.1 k.1, tyL_trans l m n h.2 k.2⟩
  | [], _ :: _, _, h, _ => by simp [tyL] at h
  | _ :: _, [], _, h, _ => by simp [tyL] at h
  | [], [], _ :: _, _, h => by simp [tyL] at h
  | _ :: _, _ :: _, [], _, h => by simp [tyL] at h
end
mutual
theorem nr_eqv : ∀ (x y : Ty), x.eqv y → y.nr → x.nr
  | .mk d l, .mk e m, h, k => by
    unfold Ty.eqv at h
    unfold Ty.nr at k ⊢
    rw [h.1]
    exact ⟨k.1, nrL_eqv l m h.2.2.2.2 k.2⟩
theorem nrL_eqv : ∀ (l m : List Ty), tyL l m → nrL m → nrL l
  | [], [], _, _ => trivial
  | x :: l, y :: m, h, k => by
    unfold tyL at h
    unfold nrL at k ⊢
    exact ⟨nr_eqv x y h.1 k.1, nrL_eqv l m h.2 k.2⟩
  | [], _ :: _, h, _ => by simp [tyL] at h
  | _ :: _, [], h, _ => by simp [tyL] at h
end

def ty7 : Ty := .mk ⟨7, 7, none, 0, 0, none, 0, 0, [], -1⟩ []
def lf1 : Lf := ⟨1, 0, -1, none, 0, none, 0⟩
/-- The example's type; what it comes to. -/
def exA : Ty := .mk ⟨3, 0, none, 2, 2, none, 0, 0, [], -1⟩ [ty7, ty7]
def exB : Ty := .mk ⟨3, 0, none, 2, 2, none, 0, 0, [], -1⟩ [lf1.ty, lf1.ty]
def ex7 (n : Int) : Option Lf := if n = 7 then some lf1 else none
theorem leaf_ln {d : TyD} (hp : d.pn = 0) (hl : d.ln = 0) (hb : d.labels = []) : (Ty.mk d []).Ln := .mk d [] hp.symm (by rw [hl, hb]; rfl) (fun x hx => by cases hx)
theorem exA_ln : exA.Ln := .mk _ _ rfl rfl (fun x hx => by
  simp only [List.mem_cons, List.not_mem_nil, or_false] at hx
  rcases hx with rfl | rfl <;> exact leaf_ln rfl rfl rfl)
theorem exB_ln : exB.Ln := .mk _ _ rfl rfl (fun x hx => by
  simp only [List.mem_cons, List.not_mem_nil, or_false] at hx
  rcases hx with rfl | rfl <;> exact leaf_ln rfl rfl rfl)
theorem exA_rg : exA.Rg := .mk _ _ (by decide) (by decide) (fun x hx => by
  simp only [List.mem_cons, List.not_mem_nil, or_false] at hx
  rcases hx with rfl | rfl <;> exact .mk _ _ (by decide) (by decide) (fun x hx => by cases hx))
theorem exB_rg : exB.Rg := .mk _ _ (by decide) (by decide) (fun x hx => by
  simp only [List.mem_cons, List.not_mem_nil, or_false] at hx
  rcases hx with rfl | rfl <;> exact .mk _ _ (by decide) (by decide) (fun x hx => by cases hx))
theorem exA_nr : exA.nr := by simp [exA, ty7, Ty.nr, nrL]
theorem sub_exA : (subT ex7 exA).eqv exB := by
  simp [exA, exB, ty7, subT, subL, ex7, lf1, Lf.ty, Lf.d, Ty.eqv, tyL]
theorem exA_text : exA.text = [39, 48, 32, 45, 62, 32, 39, 48] := by decide +kernel
theorem exB_text : exB.text = [105, 110, 116, 32, 45, 62, 32, 105, 110, 116] := by decide +kernel
theorem exA_may : (mayF exA 0).isSome = true := by decide +kernel
theorem exB_may : (mayF exB 0).isSome = true := by decide +kernel
theorem zero_may : (mayF Lf.zero.ty 0).isSome = false := by decide +kernel
theorem okF7 : OkF ex7 := by
  intro n x h
  unfold ex7 at h
  split at h
  · cases h
    exact ⟨by decide, by decide, by decide⟩
  · cases h
theorem lm7 {w : World} {bm : Nat} (h : OM w bm (0 + 1) ((DataW.map [] : DataW Lf).put (.int .i64 7) (.held lf1))) : LM ex7 1 w (.map (some bm)) := by
  have hk : WideAt.IsKeyLit (.int .i64 7) := lawInt.key (keyOf_int_mk Tryz.underlying3 (by decide))
  refine .own bm (0 + 1) _ (by omega) h ⟨fun n hn => ?_, fun n hn x hx zd => ?_, ?_⟩
  · unfold ex7
    by_cases e : n = 7
    · subst e
      rw [has_put_same isMap_empty hk]
      rfl
    · rw [has_put_other (by intro h'; injection h' with _ h'; exact e h'), if_neg e]
      rfl
  · unfold ex7 at hx
    split at hx
    · rename_i e
      subst e
      cases hx
      exact atKey_put_same isMap_empty hk _ _
    · cases hx
  · rw [size_put tidy_empty]
    rfl
theorem bstr_lit (l : Str) : bstr l = ⟨l.toArray⟩ := rfl

set_option maxRecDepth 100000 in
set_option maxHeartbeats 4000000 in
theorem up_any (w : World) (hT : Tab w) : Calls Tryz.prog 4 #[] w fun e w' => e = .returned (.bool true) ∧ Below w.heap.size w w' := by
  have HT := Lib.hid hT
  clear hT
  have hmm := @run_makeMap Tryz.prog
  go_enter Tryz.func4, Tryz.ntmps4
  go_wp2_with fail
  refine (typVar_any 7 w).mono ?_
  rintro e w1 ⟨rfl, hb1⟩
  have H1 := Lib.hid hb1
  clear hb1
  go_wp2_with fail
  refine (typVar_any 7 w1).mono ?_
  rintro e w2 ⟨rfl, hb2⟩
  have H2 := Lib.hid (below_then H1.out hb2)
  clear hb2
  go_wp2_with fail
  refine (typFn_any ty7 ty7 w2 (Lf.inn ⟨7, 7, -1, none, 0, none, 0⟩ w2 (by decide) (by decide)) (Lf.inn ⟨7, 7, -1, none, 0, none, 0⟩ w2 (by decide) (by decide))).mono ?_
  rintro e w3 ⟨y, rfl, i3, e3, hb3⟩
  have H3 := Lib.hid (And.intro i3 (And.intro (show y.eqv exA from eqv_trans _ _ _ e3 ⟨rfl, rfl, rfl, rfl, Ty.eqv_refl _, Ty.eqv_refl _, trivial⟩) (below_then H2.out hb3)))
  clear i3 e3 hb3
  have hb4 : Below w3.heap.size w3 (w3.alloc (.cells #[.int .i64 y.d.kind, .int .i64 y.d.n, .slice y.d.pA y.d.pn y.d.pc, .slice y.d.lA y.d.ln y.d.lc, .int .i64 y.d.tail] 25)) := (Below.refl _ _).alloc (Nat.le_refl _) _
  have hmade := World.ownsMap_made (H := Lf) (w3.alloc (.cells #[.int .i64 y.d.kind, .int .i64 y.d.n, .slice y.d.pA y.d.pn y.d.pc, .slice y.d.lA y.d.ln y.d.lc, .int .i64 y.d.tail] 25)) Tryz.prog 3 leafR
  rw [World.size_alloc] at hmade
  obtain ⟨w5, hrun5, hown5, hgr5⟩ := World.ownsMap.update hmade lawInt Tryz.underlying46 (by unfold maxLen; omega) (keyOf_int_mk (P := Tryz.prog) Tryz.underlying3 (show (Lit.int .i64 7).wf = true by decide)) (leafR_mk lf1)
  have hrun : (Instr.mapUpdate 46 (.map (some (w3.heap.size + 1))) (.int .i64 7) (.agg #[.int .i64 1, .int .i64 0, .slice none 0 0, .slice none 0 0, .int .i64 (-1)])).run Tryz.prog ((w3.alloc (.cells #[.int .i64 y.d.kind, .int .i64 y.d.n, .slice y.d.pA y.d.pn y.d.pc, .slice y.d.lA y.d.ln y.d.lc, .int .i64 y.d.tail] 25)).alloc (.map #[] 0)) = .ok () w5 := hrun5
  have hb5 : Below w3.heap.size w3 w5 := (hb4.alloc hb4.size _).grown hgr5 (by simp; omega) (fun q hq => by cases hq; omega)
  have HLM := Lib.hid (lm7 hown5)
  have hbx : y.d.At (w3.alloc (.cells #[.int .i64 y.d.kind, .int .i64 y.d.n, .slice y.d.pA y.d.pn y.d.pc, .slice y.d.lA y.d.ln y.d.lc, .int .i64 y.d.tail] 25)) w3.heap.size 0 := box_at w3 y.d
  have hbx5 : w5.heap[w3.heap.size]? = some (.cells #[.int .i64 y.d.kind, .int .i64 y.d.n, .slice y.d.pA y.d.pn y.d.pc, .slice y.d.lA y.d.ln y.d.lc, .int .i64 y.d.tail] 25) := by
    rw [hgr5.block w3.heap.size (by simp; omega) (by intro h'; injection h' with h'; omega)]
    exact (Below.heap_alloc _ _ _ (by simp)).trans (heap_alloc_new w3 _)
  have H5 := Lib.hid (And.intro hbx5 hb5)
  have HIN := Lib.hid (H3.out.1.lower hb5)
  have HEV := Lib.hid H3.out.2.1
  have HNR := Lib.hid (nr_eqv _ _ H3.out.2.1 exA_nr)
  have HRG := Lib.hid (rg_eqvM _ _ H3.out.2.1 exA_rg)
  have HMY := Lib.hid (show (mayF y 0).isSome = true by rw [mayF_eqv H3.out.1.ln exA_ln H3.out.2.1 0]; exact exA_may)
  have HTX := Lib.hid (show y.text = [39, 48, 32, 45, 62, 32, 39, 48] by rw [text_eqv H3.out.2.1]; exact exA_text)
  have HNN := Lib.hid (show y.nodes ≤ 4000000 ∧ y.wt ≤ CAP by rw [nodes_eqv _ _ H3.out.2.1, wt_eqv _ _ H3.out.2.1]; decide +kernel)
  clear hb4 hmade hrun5 hown5 hgr5 hb5 hbx hbx5
  go_wp2_with fail
  refine (put_any okF7 (fun n x h => by cases h) (fun n x h => by cases h) y w5 HIN.out HNR.out HRG.out HMY.out HLM.out (LM.none (F := fun _ => none) (fun _ => rfl) rfl)).mono ?_
  rintro e w6 ⟨z, rfl, i6, e6, hb6⟩
  have H6 := Lib.hid (And.intro i6 (And.intro (show z.eqv exB from eqv_trans _ _ _ e6 (eqv_trans _ _ _ (subT_eqv ex7 _ _ HEV.out) sub_exA)) hb6))
  clear i6 e6 hb6 hrun
  have hb7 : Below w6.heap.size w6 (w6.alloc (.cells #[.int .i64 z.d.kind, .int .i64 z.d.n, .slice z.d.pA z.d.pn z.d.pc, .slice z.d.lA z.d.ln z.d.lc, .int .i64 z.d.tail] 25)) := (Below.refl _ _).alloc (Nat.le_refl _) _
  have HBZ := Lib.hid (heap_alloc_new w6 (.cells #[.int .i64 z.d.kind, .int .i64 z.d.n, .slice z.d.pA z.d.pn z.d.pc, .slice z.d.lA z.d.ln z.d.lc, .int .i64 z.d.tail] 25))
  have H7 := Lib.hid (below_then H6.out.2.2 hb7)
  have HZ := Lib.hid (And.intro (H6.out.1.lower hb7) H6.out.2.1)
  have HMZ := Lib.hid (show (mayF z 0).isSome = true by rw [mayF_eqv H6.out.1.ln exB_ln H6.out.2.1 0]; exact exB_may)
  have HTZ := Lib.hid (show z.text = [105, 110, 116, 32, 45, 62, 32, 105, 110, 116] by rw [text_eqv H6.out.2.1]; exact exB_text)
  have HRZ := Lib.hid (rg_eqvM _ _ H6.out.2.1 exB_rg)
  have HNZ := Lib.hid (show z.nodes ≤ 4000000 ∧ z.wt ≤ CAP by rw [nodes_eqv _ _ H6.out.2.1, wt_eqv _ _ H6.out.2.1]; decide +kernel)
  obtain ⟨t0, t1, t2, t3, t4⟩ := cells5 ((H7.out.block w3.heap.size (lt_of_heap H5.out.1)).trans H5.out.1)
  obtain ⟨s0, s1, s2, s3, s4⟩ := cells5 HBZ.out
  have HG6 := Lib.hid (And.intro (lt_of_heap H5.out.1) (show w3.heap.size < w6.heap.size from Nat.lt_of_lt_of_le (lt_of_heap H5.out.1) H6.out.2.2.size))
  clear hb7
  go_wp2_with fail
  generalize (w6.alloc (.cells #[.int .i64 z.d.kind, .int .i64 z.d.n, .slice z.d.pA z.d.pn z.d.pc, .slice z.d.lA z.d.ln z.d.lc, .int .i64 z.d.tail] 25)) = w7 at *
  have HB7 := Lib.hid (below_then (below_then H3.out.2.2 H5.out.2) H7.out)
  refine (typText_any y w7 (tab_below HT.out HB7.out) (HIN.out.lower H7.out) HRG.out HNN.out.1 HNN.out.2).mono ?_
  rintro e w8 ⟨rfl, hb8⟩
  have H8 := Lib.hid hb8
  rw [HMY.out, if_pos rfl, HTX.out, bstr_lit]
  clear hb8 t0 t1 t2 t3 t4 s0 s1 s2 s3 s4
  have HT3 := Lib.hid ((H7.out.block w3.heap.size HG6.out.1).trans H5.out.1)
  obtain ⟨t0, t1, t2, t3, t4⟩ := cells5 ((H8.out.block w3.heap.size (lt_of_heap HT3.out)).trans HT3.out)
  go_wp2_with fail
  have HMM := Lib.hid (may_any y w8 (HIN.out.lower (below_then H7.out H8.out)))
  rw [HMY.out] at HMM
  refine HMM.out.mono ?_
  rintro e w9 ⟨rfl, hb9⟩
  have H9 := Lib.hid (below_then H8.out hb9)
  clear hb9 t0 t1 t2 t3 t4 HMM
  have HM0 := Lib.hid (may_any Lf.zero.ty w9 (Lf.zero.inn w9 (by decide) (by decide)))
  rw [zero_may] at HM0
  go_wp2_with fail
  refine HM0.out.mono ?_
  rintro e w10 ⟨rfl, hb10⟩
  have H10 := Lib.hid (below_then H9.out hb10)
  clear hb10 HM0
  obtain ⟨s0, s1, s2, s3, s4⟩ := cells5 ((H10.out.block w6.heap.size (lt_of_heap HBZ.out)).trans HBZ.out)
  go_wp2_with fail
  refine (typText_any z w10 (tab_below HT.out (below_then HB7.out H10.out)) (HZ.out.1.lower H10.out) HRZ.out HNZ.out.1 HNZ.out.2).mono ?_
  rintro e w11 ⟨rfl, hb11⟩
  have H11 := Lib.hid (below_then HB7.out (below_then H10.out hb11))
  rw [HMZ.out, if_pos rfl, HTZ.out, bstr_lit]
  clear hb11 s0 s1 s2 s3 s4
  go_wp2_with fail
  go_returns
  exact ⟨rfl, H11.out⟩
end Go.Proofs.YtklandpagieapaaGreatDoor

namespace Go.Proofs.YtklandpagieapaaGreatDoor
open Go.ChangeShapes Go.WideShapes Go.ChangeAt Go.RowKit Go.Sort
set_option linter.unusedVariables false
set_option linter.unusedSimpArgs false

set_option maxRecDepth 100000 in
set_option maxHeartbeats 2000000 in
theorem sameI_any (A B : Option Addr) (l : List Int) (n c c' : Nat) (w : World) (hr : Rd w 1 A n (i64s l)) (hr' : Rd w 1 B n (i64s l)) (hm : n ≤ 4000000) :
    Calls Tryz.prog 15 #[.slice A n c, .slice B n c'] w fun e w' => e = .returned (.bool true) ∧ Below w.heap.size w w' := by
  have hl := hr.ints
  have HR := Lib.hid (And.intro hr (And.intro hr' hl))
  clear hr hr' hl
  have q0 : ((n : Int) != (n : Int)) = false := by simp
  go_enter Tryz.func15, Tryz.ntmps15
  go_wp2_with fail
  go_loopw [5] (fun i wr => ∃ k : Nat, i = .int .i64 k ∧ k ≤ n ∧ Below w.heap.size w wr) (fun i _ => n - (intOf i).toNat)
  case atStart => exact ⟨0, rfl, Nat.zero_le _, Below.refl _ _⟩
  case round =>
    obtain ⟨k, rfl, hk, hb⟩ := hrel
    have HB := Lib.hid hb
    by_cases hlt : k < n
    · have hkl : k < l.length := by rw [HR.out.2.2]; exact hlt
      obtain ⟨b1, o1, rfl, _, hc1⟩ := (HR.out.1.below hb).int hkl
      obtain ⟨b2, o2, rfl, _, hc2⟩ := (HR.out.2.1.below hb).int hkl
      have h1 := hc1 k hkl
      have h2 := hc2 k hkl
      obtain ⟨x, hx⟩ : ∃ x, l[k] = x := ⟨_, rfl⟩
      rw [hx] at h1 h2
      have g1 : (x != x) = false := by simp
      have hki : (k : Int) < (n : Int) := by omega
      have hk0 : (0 : Int) ≤ (k : Int) := by omega
      have hk9 : (k : Int) ≤ 4000000 := by omega
      clear hc1 hc2 hb hx
      go_wp2_with fail
      go_quiet (fail)
      clear h1 h2
      go_wp2_with fail
      go_roundw
      case rel => exact ⟨k + 1, by go_num, hlt, below_drewN HB.out _⟩
      case measure => simp [intOf] <;> omega
    · have hki : ¬ (k : Int) < (n : Int) := by omega
      go_wp2_with fail
      go_returns
      exact ⟨rfl, HB.out⟩

set_option maxRecDepth 100000 in
theorem few_any (t : Ty) (w : World) (hI : t.In w) : Calls Tryz.prog 5 #[.agg t.d.arr] w fun e w' => (∃ v : Int, e = .returned (.int .i64 v)) ∧ Below w.heap.size w w' := by
  have hb1 : Below w.heap.size w (w.alloc (.cells t.d.arr 25)) := (Below.refl _ _).alloc (Nat.le_refl _) _
  have HC := Lib.hid (count_any w t hI 5000 _ hb1)
  have HB1 := Lib.hid hb1
  clear hb1
  clear hI
  go_enter Tryz.func5, Tryz.ntmps5
  go_wp2_with fail
  refine HC.out.mono ?_
  rintro e w' ⟨⟨v, rfl⟩, hb⟩
  have HB := Lib.hid hb
  clear hb
  go_wp2_with fail
  go_returns
  exact ⟨⟨v, rfl⟩, below_then HB1.out HB.out⟩
end Go.Proofs.YtklandpagieapaaGreatDoor

namespace Go.Proofs.YtklandpagieapaaGreatDoor
open Go.ChangeShapes Go.WideShapes Go.ChangeAt Go.RowKit Go.Sort Go.Maps
set_option linter.unusedVariables false
set_option linter.unusedSimpArgs false
attribute [local irreducible] Go.wpQuiet

theorem in_n0 {w : World} {a : Ty} (h : a.In w) : (Ty.mk { a.d with n := 0 } a.l).In w := by
  cases h
  rename_i lab par cap sub
  exact .mk _ _ lab par cap sub
theorem same_fn (a b z : Ty) (u : World) (ha : a.In u) (hb : b.In u) (iz : z.In u) (ez : z.eqv (fnTy a b)) :
    Calls Tryz.prog 10 #[.agg z.d.arr, .agg #[.int .i64 3, .int .i64 0, .slice (some ⟨u.heap.size, 0, none⟩) 2 2, .slice none 0 0, .int .i64 (-1)]] (u.alloc (.cells #[.int .i64 a.d.kind, .int .i64 a.d.n, .slice a.d.pA a.d.pn a.d.pc, .slice a.d.lA a.d.ln a.d.lc, .int .i64 a.d.tail, .int .i64 b.d.kind, .int .i64 b.d.n, .slice b.d.pA b.d.pn b.d.pc, .slice b.d.lA b.d.ln b.d.lc, .int .i64 b.d.tail] 25)) fun e w' => e = .returned (.bool true) ∧ Below u.heap.size u w' := by
  have hr : Below u.heap.size u (u.alloc (.cells #[.int .i64 a.d.kind, .int .i64 a.d.n, .slice a.d.pA a.d.pn a.d.pc, .slice a.d.lA a.d.ln a.d.lc, .int .i64 a.d.tail, .int .i64 b.d.kind, .int .i64 b.d.n, .slice b.d.pA b.d.pn b.d.pc, .slice b.d.lA b.d.ln b.d.lc, .int .i64 b.d.tail] 25)) := (Below.refl _ _).alloc (Nat.le_refl _) _
  have hin : (Ty.mk ⟨3, 0, some ⟨u.heap.size, 0, none⟩, 2, 2, none, 0, 0, [], -1⟩ [a, b]).In (u.alloc (.cells #[.int .i64 a.d.kind, .int .i64 a.d.n, .slice a.d.pA a.d.pn a.d.pc, .slice a.d.lA a.d.ln a.d.lc, .int .i64 a.d.tail, .int .i64 b.d.kind, .int .i64 b.d.n, .slice b.d.pA b.d.pn b.d.pc, .slice b.d.lA b.d.ln b.d.lc, .int .i64 b.d.tail] 25)) := .mk _ _ (Rd.nil _ _ _) (rd_two u a b) (by simp [maxLen]) (fun y hy => by
    simp only [List.mem_cons, List.not_mem_nil, or_false] at hy
    rcases hy with rfl | rfl
    · exact ha.lower hr
    · exact hb.lower hr)
  have h := typSame_any z _ (u.alloc (.cells #[.int .i64 a.d.kind, .int .i64 a.d.n, .slice a.d.pA a.d.pn a.d.pc, .slice a.d.lA a.d.ln a.d.lc, .int .i64 a.d.tail, .int .i64 b.d.kind, .int .i64 b.d.n, .slice b.d.pA b.d.pn b.d.pc, .slice b.d.lA b.d.ln b.d.lc, .int .i64 b.d.tail] 25)) (iz.lower hr) hin
  have hq : z.eqv (Ty.mk ⟨3, 0, some ⟨u.heap.size, 0, none⟩, 2, 2, none, 0, 0, [], -1⟩ [a, b]) := eqv_trans z (fnTy a b) _ ez (show (fnTy a b).eqv (Ty.mk ⟨3, 0, some ⟨u.heap.size, 0, none⟩, 2, 2, none, 0, 0, [], -1⟩ [a, b]) from ⟨rfl, rfl, rfl, rfl, Ty.eqv_refl _, Ty.eqv_refl _, trivial⟩)
  rw [tyB_true hq] at h
  exact h.mono fun e w' hh => ⟨hh.1, below_then hr hh.2⟩
theorem same_fn2 (a b z : Ty) (u3 u : World) (ha : a.In u3) (hb : b.In u3) (hu : Below (u3.alloc (.cells #[.int .i64 a.d.kind, .int .i64 a.d.n, .slice a.d.pA a.d.pn a.d.pc, .slice a.d.lA a.d.ln a.d.lc, .int .i64 a.d.tail, .int .i64 b.d.kind, .int .i64 b.d.n, .slice b.d.pA b.d.pn b.d.pc, .slice b.d.lA b.d.ln b.d.lc, .int .i64 b.d.tail] 25)).heap.size (u3.alloc (.cells #[.int .i64 a.d.kind, .int .i64 a.d.n, .slice a.d.pA a.d.pn a.d.pc, .slice a.d.lA a.d.ln a.d.lc, .int .i64 a.d.tail, .int .i64 b.d.kind, .int .i64 b.d.n, .slice b.d.pA b.d.pn b.d.pc, .slice b.d.lA b.d.ln b.d.lc, .int .i64 b.d.tail] 25)) u) (iz : z.In u) (ez : z.eqv (fnTy a b)) :
    Calls Tryz.prog 10 #[.agg z.d.arr, .agg #[.int .i64 3, .int .i64 0, .slice (some ⟨u3.heap.size, 0, none⟩) 2 2, .slice none 0 0, .int .i64 (-1)]] u fun e w' => e = .returned (.bool true) ∧ Below u.heap.size u w' := by
  have hr : Below u3.heap.size u3 (u3.alloc (.cells #[.int .i64 a.d.kind, .int .i64 a.d.n, .slice a.d.pA a.d.pn a.d.pc, .slice a.d.lA a.d.ln a.d.lc, .int .i64 a.d.tail, .int .i64 b.d.kind, .int .i64 b.d.n, .slice b.d.pA b.d.pn b.d.pc, .slice b.d.lA b.d.ln b.d.lc, .int .i64 b.d.tail] 25)) := (Below.refl _ _).alloc (Nat.le_refl _) _
  have hin : (Ty.mk ⟨3, 0, some ⟨u3.heap.size, 0, none⟩, 2, 2, none, 0, 0, [], -1⟩ [a, b]).In (u3.alloc (.cells #[.int .i64 a.d.kind, .int .i64 a.d.n, .slice a.d.pA a.d.pn a.d.pc, .slice a.d.lA a.d.ln a.d.lc, .int .i64 a.d.tail, .int .i64 b.d.kind, .int .i64 b.d.n, .slice b.d.pA b.d.pn b.d.pc, .slice b.d.lA b.d.ln b.d.lc, .int .i64 b.d.tail] 25)) := .mk _ _ (Rd.nil _ _ _) (rd_two u3 a b) (by simp [maxLen]) (fun y hy => by
    simp only [List.mem_cons, List.not_mem_nil, or_false] at hy
    rcases hy with rfl | rfl
    · exact ha.lower hr
    · exact hb.lower hr)
  have h := typSame_any z _ u iz (hin.lower hu)
  have hq : z.eqv (Ty.mk ⟨3, 0, some ⟨u3.heap.size, 0, none⟩, 2, 2, none, 0, 0, [], -1⟩ [a, b]) := eqv_trans z (fnTy a b) _ ez (show (fnTy a b).eqv (Ty.mk ⟨3, 0, some ⟨u3.heap.size, 0, none⟩, 2, 2, none, 0, 0, [], -1⟩ [a, b]) from ⟨rfl, rfl, rfl, rfl, Ty.eqv_refl _, Ty.eqv_refl _, trivial⟩)
  rw [tyB_true hq] at h
  exact h
theorem same_row (a y : Ty) (V : World) (ha : a.In V) (hy : y.In V) (he : y.eqv (.mk { a.d with n := 0 } a.l)) :
    Calls Tryz.prog 10 #[.agg y.d.arr, .agg #[.int .i64 a.d.kind, .int .i64 0, .slice a.d.pA a.d.pn a.d.pc, .slice a.d.lA a.d.ln a.d.lc, .int .i64 a.d.tail]] V fun e w' => e = .returned (.bool true) ∧ Below V.heap.size V w' := by
  have h := typSame_any y (.mk { a.d with n := 0 } a.l) V hy (in_n0 ha)
  rw [tyB_true he] at h
  exact h

def dropSeqT : Nat → Code → Code
  | 0, c => c
  | n + 1, .seq _ b => dropSeqT n b
  | _ + 1, c => c
def headSeqT : Code → Code
  | .seq a _ => a
  | c => c
/-- The text from its n-th statement on. -/
noncomputable def tlT (n : Nat) : Code := dropSeqT n (Tryz.f3.body.getD .skip)
noncomputable def haT (n : Nat) : Code := headSeqT (tlT n)

set_option maxRecDepth 100000 in
set_option maxHeartbeats 8000000 in
theorem lw_end {u0 u1 u4 u10 u11 u12 u13 u14 u15 u16 u17 u18 u19 u20 u21 u22 u23 u24 u25 u26 u27 u28 u29 u30 u31 u32 u33 u34 u35 u36 u37 u38 u39 u40 u41 u42 u43 u44 u45 u46 u47 u48 u49 u50 u51 u52 u53 u54 u55 u56 u57 u58 u59 u60 u61 u62 u63 u64 u65 u66 u67 u68 u69 u70 u71 u72 u73 u74 u75 u76 u77 u78 u79 u80 u81 u82 u83 u84 u85 u86 u87 u88 u89 u90 u91 u92 u93 u94 u95 u96 u97 u98 u99 u100 u101 u102 u103 u104 u105 : Value} (a b y : Ty) (W w10 : World) (ga gb gy N : Nat) (A1 A2 B1 B2 : Option Addr) (T R : List Int) (n1 n2 k1 k2 : Nat)
    (hw : ∀ V, Below w10.heap.size w10 V → Below W.heap.size W V) (hA : a.In w10) (hBn : b.In w10) (hY : y.In w10) (eY : y.eqv (.mk { a.d with n := 0 } a.l))
    (r1 : Rd w10 1 A1 T.length (i64s T)) (r2 : Rd w10 1 A2 R.length (i64s R)) (s1 : Rd w10 1 B1 T.length (i64s T)) (s2 : Rd w10 1 B2 R.length (i64s R)) (hT : T.length ≤ 4000000) (hR : R.length ≤ 4000000)
    (ca : a.d.At w10 ga 0) (cb : b.d.At w10 gb 0) (cy : y.d.At w10 gy 0) (cn : w10.cell? ⟨N, 0, none⟩ = some (.slice B1 T.length k1)) (cm : w10.cell? ⟨N, 1, none⟩ = some (.slice B2 R.length k2))
    {K : Act → World → Prop} (hK : ∀ a w, Code.wp Tryz.prog (tlT 9) (bodyPost Tryz.prog Tryz.f3 fun e w' => e = .returned (.bool true) ∧ Below W.heap.size W w') a w → K a w) :
    Code.wp Tryz.prog (haT 8) (Exit.then K (bodyPost Tryz.prog Tryz.f3 fun e w' => e = .returned (.bool true) ∧ Below W.heap.size W w')) ⟨#[u0, u1, .pointer (some ⟨ga, 0, none⟩), .pointer (some ⟨gb, 0, none⟩), u4, .bool true, .pointer (some ⟨N, 0, none⟩), .slice A1 T.length n1, .slice A2 R.length n2, .pointer (some ⟨gy, 0, none⟩), u10, u11, u12, u13, u14, u15, u16, u17, u18, u19, u20, u21, u22, u23, u24, u25, u26, u27, u28, u29, u30, u31, u32, u33, u34, u35, u36, u37, u38, u39, u40, u41, u42, u43, u44, u45, u46, u47, u48, u49, u50, u51, u52, u53, u54, u55, u56, u57, u58, u59, u60, u61, u62, u63, u64, u65, u66, u67, u68, u69, u70, u71, u72, u73, u74, u75, u76, u77, u78, u79, u80, u81, u82, u83, u84, u85, u86, u87, u88, u89, u90, u91, u92, u93, u94, u95, u96, u97, u98, u99, u100, u101, u102, u103, u104, u105], []⟩ w10 := by
  have HW := Lib.hid hw
  have HIA := Lib.hid (show ∀ V, Below w10.heap.size w10 V → a.In V ∧ b.In V from fun V h => ⟨hA.lower h, hBn.lower h⟩)
  have HS := Lib.hid (show ∀ V, Below w10.heap.size w10 V → (V.cell? ⟨ga, 0, none⟩ = some (.int .i64 a.d.kind) ∧ V.cell? ⟨ga, 0 + 1, none⟩ = some (.int .i64 a.d.n) ∧ V.cell? ⟨ga, 0 + 2, none⟩ = some (.slice a.d.pA a.d.pn a.d.pc) ∧ V.cell? ⟨ga, 0 + 3, none⟩ = some (.slice a.d.lA a.d.ln a.d.lc) ∧ V.cell? ⟨ga, 0 + 4, none⟩ = some (.int .i64 a.d.tail) ∧ V.cell? ⟨ga, 3, none⟩ = some (.slice a.d.lA a.d.ln a.d.lc) ∧ V.cell? ⟨ga, 2, none⟩ = some (.slice a.d.pA a.d.pn a.d.pc) ∧ V.cell? ⟨ga, 4, none⟩ = some (.int .i64 a.d.tail) ∧ V.cell? ⟨gb, 0, none⟩ = some (.int .i64 b.d.kind) ∧ V.cell? ⟨gb, 0 + 1, none⟩ = some (.int .i64 b.d.n) ∧ V.cell? ⟨gb, 0 + 2, none⟩ = some (.slice b.d.pA b.d.pn b.d.pc) ∧ V.cell? ⟨gb, 0 + 3, none⟩ = some (.slice b.d.lA b.d.ln b.d.lc) ∧ V.cell? ⟨gb, 0 + 4, none⟩ = some (.int .i64 b.d.tail) ∧ V.cell? ⟨gy, 0, none⟩ = some (.int .i64 y.d.kind) ∧ V.cell? ⟨gy, 0 + 1, none⟩ = some (.int .i64 y.d.n) ∧ V.cell? ⟨gy, 0 + 2, none⟩ = some (.slice y.d.pA y.d.pn y.d.pc) ∧ V.cell? ⟨gy, 0 + 3, none⟩ = some (.slice y.d.lA y.d.ln y.d.lc) ∧ V.cell? ⟨gy, 0 + 4, none⟩ = some (.int .i64 y.d.tail) ∧ V.cell? ⟨N, 0, none⟩ = some (.slice B1 T.length k1) ∧ V.cell? ⟨N, 1, none⟩ = some (.slice B2 R.length k2)) from fun V h => ⟨(ca.lower h).c0, (ca.lower h).c1, (ca.lower h).c2, (ca.lower h).c3, (ca.lower h).c4, (ca.lower h).c3, (ca.lower h).c2, (ca.lower h).c4, (cb.lower h).c0, (cb.lower h).c1, (cb.lower h).c2, (cb.lower h).c3, (cb.lower h).c4, (cy.lower h).c0, (cy.lower h).c1, (cy.lower h).c2, (cy.lower h).c3, (cy.lower h).c4, cell_below h cn, cell_below h cm⟩)
  have CS1 := Lib.hid (fun V (h : Below w10.heap.size w10 V) => sameI_any A1 B1 T T.length n1 k1 V (r1.below h) (s1.below h) hT)
  have CS2 := Lib.hid (fun V (h : Below w10.heap.size w10 V) => sameI_any A2 B2 R R.length n2 k2 V (r2.below h) (s2.below h) hR)
  have CY := Lib.hid (fun V (h : Below w10.heap.size w10 V) => same_row a y V (hA.lower h) (hY.lower h) eY)
  have CF := Lib.hid (fun V (h : Below w10.heap.size w10 V) => typFn_any a b V (hA.lower h) (hBn.lower h))
  have HD0 := Lib.hid (show Below w10.heap.size w10 w10.drew from below_drew1 _)
  clear hw hA hBn hY eY r1 r2 s1 s2 hT hR ca cb cy cn cm
  conv at hK => enter [a, w, 1, 2]; whnf
  conv => arg 2; whnf
  go_region_held3 (fun V => V.cell? ⟨ga, 0, none⟩ = some (.int .i64 a.d.kind) ∧ V.cell? ⟨ga, 0 + 1, none⟩ = some (.int .i64 a.d.n) ∧ V.cell? ⟨ga, 0 + 2, none⟩ = some (.slice a.d.pA a.d.pn a.d.pc) ∧ V.cell? ⟨ga, 0 + 3, none⟩ = some (.slice a.d.lA a.d.ln a.d.lc) ∧ V.cell? ⟨ga, 0 + 4, none⟩ = some (.int .i64 a.d.tail) ∧ V.cell? ⟨ga, 3, none⟩ = some (.slice a.d.lA a.d.ln a.d.lc) ∧ V.cell? ⟨ga, 2, none⟩ = some (.slice a.d.pA a.d.pn a.d.pc) ∧ V.cell? ⟨ga, 4, none⟩ = some (.int .i64 a.d.tail) ∧ V.cell? ⟨gb, 0, none⟩ = some (.int .i64 b.d.kind) ∧ V.cell? ⟨gb, 0 + 1, none⟩ = some (.int .i64 b.d.n) ∧ V.cell? ⟨gb, 0 + 2, none⟩ = some (.slice b.d.pA b.d.pn b.d.pc) ∧ V.cell? ⟨gb, 0 + 3, none⟩ = some (.slice b.d.lA b.d.ln b.d.lc) ∧ V.cell? ⟨gb, 0 + 4, none⟩ = some (.int .i64 b.d.tail) ∧ V.cell? ⟨gy, 0, none⟩ = some (.int .i64 y.d.kind) ∧ V.cell? ⟨gy, 0 + 1, none⟩ = some (.int .i64 y.d.n) ∧ V.cell? ⟨gy, 0 + 2, none⟩ = some (.slice y.d.pA y.d.pn y.d.pc) ∧ V.cell? ⟨gy, 0 + 3, none⟩ = some (.slice y.d.lA y.d.ln y.d.lc) ∧ V.cell? ⟨gy, 0 + 4, none⟩ = some (.int .i64 y.d.tail) ∧ V.cell? ⟨N, 0, none⟩ = some (.slice B1 T.length k1) ∧ V.cell? ⟨N, 1, none⟩ = some (.slice B2 R.length k2))
    (first | exact HS.out _ HD0.out | exact HS.out _ hD1.out | exact HS.out _ hD2.out | exact HS.out _ hD3.out | exact HS.out _ (hD3.out.alloc hD3.out.size _) | exact HS.out _ hD4.out | exact HS.out _ (hD4.out.alloc hD4.out.size _) | exact HS.out _ hD5.out | fail)
    (first
    | (go_at_call 15; (with_reducible refine (CS1.out _ ?hw).mono ?_); (case hw => exact HD0.out); rintro e u1 ⟨rfl, hu1⟩; have hD1 := Lib.hid (below_then HD0.out hu1); clear hu1)
    | (go_at_call 15; (with_reducible refine (CS2.out _ ?hw).mono ?_); (case hw => exact hD1.out); rintro e u2 ⟨rfl, hu2⟩; have hD2 := Lib.hid (below_then hD1.out hu2); clear hu2)
    | (go_at_call 10; (with_reducible refine (CY.out _ ?hw).mono ?_); (case hw => exact hD2.out); rintro e u3 ⟨rfl, hu3⟩; have hD3 := Lib.hid (below_then hD2.out hu3); clear hu3)
    | (go_at_call 16; (with_reducible refine (CF.out _ ?hw).mono ?_); (case hw => first | exact hD3.out | exact hD3.out.alloc hD3.out.size _); rintro e u4 ⟨z, rfl, iz, ez, hu4⟩; (first | (have hD4 := Lib.hid (below_then hD3.out hu4)) | (have hD4 := Lib.hid (below_then (hD3.out.alloc hD3.out.size _) hu4))); (first | (have HSF := Lib.hid (same_fn2 a b z u3 u4 (HIA.out _ hD3.out).1 (HIA.out _ hD3.out).2 hu4 iz ez)) | (have HSF := Lib.hid (same_fn a b z u4 (HIA.out _ hD4.out).1 (HIA.out _ hD4.out).2 iz ez))); clear hu4)
    | (go_at_call 10; (with_reducible refine HSF.out.mono ?_); rintro e u5 ⟨rfl, hu5⟩; have hD5 := Lib.hid (show Below w10.heap.size w10 u5 by first | exact below_then hD4.out hu5 | exact below_then (hD4.out.alloc hD4.out.size _) hu5); clear hu5)
    | fail)
  all_goals
    go_wp2_with fail
    go_returns
    exact ⟨rfl, HW.out _ hD5.out⟩
end Go.Proofs.YtklandpagieapaaGreatDoor
