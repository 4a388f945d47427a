/-
  A type with all put in: of types without rows, by the code.
-/
import Derived.Test.YtklandpagieapaaDoorK05
namespace Go.Proofs.YtklandpagieapaaDoor
open Go.ChangeShapes Go.WideShapes Go.ChangeAt Go.RowKit Go.Sort Go.Maps
set_option linter.unusedVariables false
set_option linter.unusedSimpArgs false
attribute [local irreducible] Go.wpQuiet

theorem bare_of {d : TyD} (hk : ¬ (d.kind = 4 ∨ d.kind = 5)) (hf : d.fieldsB = true) : d.tail = -1 ∧ d.ln = 0 := by
  have key : ∀ m, d.bareB m = true → d.tail = -1 ∧ d.ln = 0 := fun m h => by
    simp only [TyD.bareB, Bool.and_eq_true, decide_eq_true_eq] at h
    exact ⟨h.2, h.1.2⟩
  unfold TyD.fieldsB at hf
  rw [if_neg hk] at hf
  repeat' split at hf
  all_goals first | (cases hf; done) | exact key _ (Bool.and_eq_true_iff.1 hf).2
mutual
/-- A type, with what stands for its variables. -/
def subT (F : Int → Option Lf) : Ty → Ty
  | .mk d l => if d.kind = 7 ∧ (F d.n).isSome = true then ((F d.n).getD Lf.zero).ty else .mk d (subL F l)
def subL (F : Int → Option Lf) : List Ty → List Ty
  | [] => []
  | x :: l => subT F x :: subL F l
end
theorem subL_len (F : Int → Option Lf) : ∀ l : List Ty, (subL F l).length = l.length
  | [] => rfl
  | x :: l => by simp [subL, subL_len F l]
theorem subL_at (F : Int → Option Lf) : ∀ (l : List Ty) (k : Nat) (h : k < l.length), (subL F l)[k]'(by rw [subL_len]; exact h) = subT F l[k]
  | x :: l, 0, _ => rfl
  | x :: l, k + 1, h => by simp only [subL, List.getElem_cons_succ]; exact subL_at F l k (by simpa using h)

/-- The parts under way: a type's own cells in block g, its parts behind them. -/
structure PiS (W : World) (g : Nat) (kd nn : Int) (v : Value) (k : Nat) (ys l : List Ty) (wr : World) : Prop where
  own : wr.ownsRow (g + 1) 25 5 v k (ys.flatMap Ty.cells)
  len : ys.length = k
  eqv : tyL ys (l.take k)
  inn : ∀ y ∈ ys, y.In wr
  bl : ∀ y ∈ ys, y.Bl (fun b => g + 1 ≤ b ∧ some b ≠ v.ownBlock)
  hd : wr.heap[g]? = some (.cells #[.int .i64 kd, .int .i64 nn, v, .slice none 0 0, .int .i64 (-1)] 25)
  rs : wr.heap[W.heap.size]? = some (.cells #[.int .i64 0, .int .i64 0, .slice none 0 0, .slice none 0 0, .int .i64 0] 25)
  b : Below W.heap.size W wr
  hg : W.heap.size < g
theorem PiS.step {W wr w1 w2 w6 : World} {g k : Nat} {kd nn : Int} {v v6 : Value} {ys l : List Ty} {y x : Ty} (h : PiS W g kd nn v k ys l wr)
    (hb : Below wr.heap.size wr w1) (hin : y.In w1) (hbl : y.Bl (fun b => wr.heap.size ≤ b)) (he : y.eqv x) (htk : l.take (k + 1) = l.take k ++ [x]) (hw2 : Below w1.heap.size w1 w2)
    (hown : w6.ownsRow (g + 1) 25 5 v6 (k + 1) (ys.flatMap Ty.cells ++ y.cells)) (hgr : w2.grownBy w6 v.ownBlock) (hat : v6.ownBlock = v.ownBlock ∨ v6.ownBlock = some w2.heap.size) :
    PiS W g kd nn v6 (k + 1) (ys ++ [y]) l (w6.setCell ⟨g, 2, none⟩ v6) := by
  have hvl : ∀ b, v.ownBlock = some b → g + 1 ≤ b ∧ b < wr.heap.size := fun b hb' => h.own.lt b hb'
  have hgw : g < wr.heap.size := lt_of_heap h.hd
  have hg1 := h.hg
  have hall : ∀ b, b < w1.heap.size → some b ≠ v.ownBlock → w6.heap[b]? = w1.heap[b]? := fun b h1 h2 =>
    (hgr.block b (Nat.lt_of_lt_of_le h1 hw2.size) h2).trans (hw2.block b h1)
  have hgv : some g ≠ v.ownBlock := fun e => by have := hvl g e.symm; omega
  have hrv : some W.heap.size ≠ v.ownBlock := fun e => by have := hvl _ e.symm; omega
  have hyb : y.Bl (fun b => g + 1 ≤ b ∧ some b ≠ v.ownBlock) := hbl.imp hin (fun b h1 _ => ⟨by omega, fun e => by have := hvl b e.symm; omega⟩)
  have hz : ∀ z ∈ ys ++ [y], z.In w1 ∧ z.Bl (fun b => g + 1 ≤ b ∧ some b ≠ v.ownBlock) := fun z hz => by
    rcases List.mem_append.1 hz with hz | hz
    · exact ⟨(h.inn z hz).lower hb, h.bl z hz⟩
    · rw [List.mem_singleton] at hz; subst hz; exact ⟨hin, hyb⟩
  have h6 : ∀ z ∈ ys ++ [y], z.In w6 := fun z hzm => (hz z hzm).1.keepP (hz z hzm).2 (fun b hb' hl => hall b hl hb'.2)
  have hg6 : w6.heap[g]? = some (.cells #[.int .i64 kd, .int .i64 nn, v, .slice none 0 0, .int .i64 (-1)] 25) := (hall g (Nat.lt_of_lt_of_le hgw hb.size) hgv).trans ((hb.block g hgw).trans h.hd)
  refine ⟨?_, by rw [List.length_append, h.len]; rfl, by rw [htk]; exact tyL_snoc h.eqv he, fun z hzm => (h6 z hzm).keepP (hz z hzm).2 (fun b hb' _ => Below.heap_setCell w6 _ _ b (by show b ≠ g; omega)), fun z hzm => ?_, ?_, ?_, ?_, h.hg⟩
  · rw [List.flatMap_append, List.flatMap_cons, List.flatMap_nil, List.append_nil]
    exact ownsRow_setCell_below hown (by show g < _; omega) _
  · refine (hz z hzm).2.imp (hz z hzm).1 (fun b hb' hl => ⟨hb'.1, ?_⟩)
    rcases hat with q | q
    · rw [q]; exact hb'.2
    · rw [q]; intro e; injection e with e; have := hw2.size; omega
  · simp [World.setCell, Array.getElem?_modify, hg6]
  · rw [show (w6.setCell ⟨g, 2, none⟩ v6).heap[W.heap.size]? = w6.heap[W.heap.size]? from Below.heap_setCell w6 _ _ _ (by show W.heap.size ≠ g; omega)]
    exact (hall _ (by have := hb.size; omega) hrv).trans ((hb.block _ (by omega)).trans h.rs)
  · have h1 : Below W.heap.size W w2 := below_then (below_then h.b hb) hw2
    exact (h1.grown hgr h1.size (fun q hq => by have := hvl q hq; omega)).setCell (p := ⟨g, 2, none⟩) (by show W.heap.size ≤ g; omega) _

set_option maxRecDepth 100000 in
set_option maxHeartbeats 4000000 in
theorem pin_any {F G : Int → Option Lf} {c1 c2 : Nat} {m1 m2 : Value} {b1 b2 : Nat} (w0 : World) (p : Nat) (hF : OkF F) (hP : PA F G c1 c2 m1 m2 b1 b2 w0 p) (t : Ty) (hI : t.In w0) : t.nr → t.fb → t.Rg → ∀ (b o : Nat) (W : World), t.d.At w0 b o → Below w0.heap.size w0 W →
    Calls Tryd.prog 20 #[.pointer (some ⟨p, 0, none⟩), .pointer (some ⟨b, o, none⟩)] W (CpR (subT F t) W) := by
  induction hI with
  | mk d l lab par cap sub ih =>
  intro hnr hfb hG b o W hAt hb
  have hI : (Ty.mk d l).In w0 := .mk d l lab par cap sub
  obtain ⟨gn, gt, gl⟩ : (Lit.int .i64 d.n).wf = true ∧ (Lit.int .i64 d.tail).wf = true ∧ ∀ x ∈ l, Ty.Rg x := by cases hG; exact ⟨by assumption, by assumption, by assumption⟩
  obtain ⟨hk, hnl⟩ : ¬ (d.kind = 4 ∨ d.kind = 5) ∧ nrL l := by unfold Ty.nr at hnr; exact hnr
  obtain ⟨hf, hfl⟩ : d.fieldsB = true ∧ fbL l := by unfold Ty.fb at hfb; exact hfb
  have HP := Lib.hid (fun V (h : Below w0.heap.size w0 V) => hP.below h)
  have HE := Lib.hid (fun V (h : Below w0.heap.size w0 V) => (show d.At w0 b o from hAt).lower h)
  have HB := Lib.hid hb
  have HI := Lib.hid hI
  have HK := Lib.hid hk
  have HGN := Lib.hid gn
  have HX := Lib.hid (fun x (hx : x ∈ l) => ih x hx (nrL_mem l x hx hnl) (fbL_mem l x hx hfl) (gl x hx))
  have HL := Lib.hid (show l.length = d.pn from hI.len)
  have HLL := Lib.hid (show d.labels.length = d.ln from hI.labLen)
  have HCP := Lib.hid cap
  have HF7 := Lib.hid hf
  clear lab par cap sub ih hnr hfb hG hAt hI gn gt gl hk hnl hf hfl hP
  have hb0 : Below W.heap.size W (W.alloc (.cells #[.int .i64 0, .int .i64 0, .slice none 0 0, .slice none 0 0, .int .i64 0] 25)) := (Below.refl _ _).alloc (Nat.le_refl _) _
  have hb1 : Below W.heap.size W ((W.alloc (.cells #[.int .i64 0, .int .i64 0, .slice none 0 0, .slice none 0 0, .int .i64 0] 25)).alloc (.cells #[.int .i64 0, .int .i64 0, .slice none 0 0, .slice none 0 0, .int .i64 0] 25)) := hb0.alloc hb0.size _
  obtain ⟨c0, c1, c2, c3, c4⟩ := HE.out _ (below_then hb hb0)
  obtain ⟨y0, y1, y2, y3, y4⟩ := HE.out _ (below_then hb hb1)
  have q0 := (HP.out _ (below_then hb hb0)).q0
  have u0 := (HP.out _ (below_then hb hb1)).q0
  have hlk := LM.look ((HP.out _ (below_then hb hb0)).l1.below (below_drew1 _)) HGN.out
  have hlk2 := LM.look ((HP.out _ (below_then hb hb1)).l1.below (below_drew1 _)) HGN.out
  have hr0 : (W.alloc (.cells #[.int .i64 0, .int .i64 0, .slice none 0 0, .slice none 0 0, .int .i64 0] 25)).heap[W.heap.size]? = some (.cells #[.int .i64 0, .int .i64 0, .slice none 0 0, .slice none 0 0, .int .i64 0] 25) := heap_alloc_new W _
  have hs0 : (W.alloc (.cells #[.int .i64 0, .int .i64 0, .slice none 0 0, .slice none 0 0, .int .i64 0] 25)).heap.size = W.heap.size + 1 := World.size_alloc _ _
  have HR0 := Lib.hid hr0
  have HS0 := Lib.hid hs0
  have HB0 := Lib.hid hb0
  clear hb hr0 hs0
  obtain ⟨xf, hxf⟩ : ∃ xf, (F d.n).getD Lf.zero = xf := ⟨_, rfl⟩
  rw [hxf] at hlk hlk2
  have HXF := Lib.hid hxf
  clear hxf
  go_enter Tryd.func20, Tryd.ntmps20
  go_upto_region 1 with fail
  go_cut [5, 6] from 9 to 20 (fun v5 v6 wx => v5 = .pointer (some ⟨W.heap.size + 1, 0, none⟩) ∧ v6 = .bool (F d.n).isSome ∧ wx = ((W.alloc (.cells #[.int .i64 0, .int .i64 0, .slice none 0 0, .slice none 0 0, .int .i64 0] 25)).alloc (.cells xf.arr 25)).drew)
  case first =>
    go_region
    all_goals
      go_wp2_with fail
      go_meet
      exact ⟨rfl, rfl, rfl⟩
  case rest =>
  obtain ⟨rfl, rfl, rfl⟩ := hcut
  clear c0 c1 c2 c3 c4 y0 y1 y2 y3 y4 q0 u0 hlk hlk2 hb0 hb1
  have hI2 : RowKit.Hid (Below W.heap.size W ((W.alloc (.cells #[.int .i64 0, .int .i64 0, .slice none 0 0, .slice none 0 0, .int .i64 0] 25)).alloc (.cells xf.arr 25)).drew ∧ ((W.alloc (.cells #[.int .i64 0, .int .i64 0, .slice none 0 0, .slice none 0 0, .int .i64 0] 25)).alloc (.cells xf.arr 25)).drew.heap[W.heap.size]? = some (.cells #[.int .i64 0, .int .i64 0, .slice none 0 0, .slice none 0 0, .int .i64 0] 25) ∧ ((W.alloc (.cells #[.int .i64 0, .int .i64 0, .slice none 0 0, .slice none 0 0, .int .i64 0] 25)).alloc (.cells xf.arr 25)).drew.heap.size = W.heap.size + 2 ∧ xf.d.At ((W.alloc (.cells #[.int .i64 0, .int .i64 0, .slice none 0 0, .slice none 0 0, .int .i64 0] 25)).alloc (.cells xf.arr 25)).drew (W.heap.size + 1) 0) := Lib.hid ⟨Below.drew (HB0.out.alloc HB0.out.size _), (Below.heap_alloc _ _ _ (by rw [HS0.out]; omega)).trans HR0.out, by show ((W.alloc (.cells #[.int .i64 0, .int .i64 0, .slice none 0 0, .slice none 0 0, .int .i64 0] 25)).alloc (.cells xf.arr 25)).heap.size = _; rw [World.size_alloc, HS0.out], by
    have h := box_at (W.alloc (.cells #[.int .i64 0, .int .i64 0, .slice none 0 0, .slice none 0 0, .int .i64 0] 25)) xf.d
    rw [HS0.out] at h
    exact h.lower (below_drew1 _)⟩
  generalize ((W.alloc (.cells #[.int .i64 0, .int .i64 0, .slice none 0 0, .slice none 0 0, .int .i64 0] 25)).alloc (.cells xf.arr 25)).drew = w2 at *
  clear HR0 HS0 HB0
  obtain ⟨c0, c1, c2, c3, c4⟩ := HE.out _ (below_then HB.out hI2.out.1)
  by_cases hA : (F d.n).isSome = true ∧ d.kind = 7
  · have HS := Lib.hid (show subT F (.mk d l) = xf.ty by unfold subT; rw [if_pos ⟨hA.2, hA.1⟩, HXF.out])
    have HOK := Lib.hid (show xf.d.fieldsB = true ∧ xf.pc ≤ maxLen ∧ xf.lc ≤ maxLen by
      obtain ⟨z, hz⟩ := Option.isSome_iff_exists.1 hA.1
      have h := hF d.n z hz
      have e : z = xf := by rw [← HXF.out, hz]; rfl
      rw [← e]
      exact h)
    have q7 : (d.kind == 7) = true := by simpa using hA.2
    rw [hA.1]
    clear hA
    go_wp2_with fail
    refine (copied_any w2 xf.ty (xf.inn _ HOK.out.2.1 HOK.out.2.2) (W.heap.size + 1) 0 w2 hI2.out.2.2.2 (Below.refl _ _)).mono ?_
    rintro e v1 ⟨y, rfl, i1, b1, e1, hb1⟩
    have H1 := Lib.hid (And.intro i1 (And.intro b1 (And.intro e1 hb1)))
    clear i1 b1 e1 hb1 c0 c1 c2 c3 c4
    have hq := (H1.out.2.2.2.block W.heap.size (by rw [hI2.out.2.2.1]; omega)).trans hI2.out.2.1
    obtain ⟨r0, r1, r2, r3, r4⟩ := cells5 hq
    obtain ⟨z0, z1, z2, z3, z4⟩ := frozen5 hq
    have HEN := Lib.hid (rc_end H1.out.1 H1.out.2.1 (show W.heap.size < w2.heap.size by rw [hI2.out.2.2.1]; omega) (below_then hI2.out.1 H1.out.2.2.2) (Nat.le_refl _) hq (.int .i64 y.d.kind) (.int .i64 y.d.n) (.slice y.d.pA y.d.pn y.d.pc) (.slice y.d.lA y.d.ln y.d.lc) (.int .i64 y.d.tail))
    clear hq
    go_wp2_with fail
    clear r0 r1 r2 r3 r4 z0 z1 z2 z3 z4
    generalize (((((v1.setCell ⟨W.heap.size, 0, none⟩ (.int .i64 y.d.kind)).setCell ⟨W.heap.size, 1, none⟩ (.int .i64 y.d.n)).setCell ⟨W.heap.size, 2, none⟩ (.slice y.d.pA y.d.pn y.d.pc)).setCell ⟨W.heap.size, 3, none⟩ (.slice y.d.lA y.d.ln y.d.lc)).setCell ⟨W.heap.size, 4, none⟩ (.int .i64 y.d.tail)) = w7 at *
    obtain ⟨e0, e1, e2, e3, e4⟩ := cells5 HEN.out.2.2
    refine bodyPost_ret (by simp [results, Tryd.results20, go_sem, e0, e1, e2, e3, e4]; try rfl) rfl ?_
    exact ⟨y, rfl, HEN.out.1, H1.out.2.1.imp H1.out.1 (fun b hb _ => by have := hI2.out.2.2.1; omega), by rw [HS.out]; exact H1.out.2.2.1, HEN.out.2.1⟩
  · have HS := Lib.hid (show subT F (.mk d l) = .mk d (subL F l) by unfold subT; rw [if_neg (fun h => hA ⟨h.2, h.1⟩)])
    have hB : (F d.n).isSome = false ∨ ((F d.n).isSome = true ∧ (d.kind == 7) = false) := by
      cases hF : (F d.n).isSome with
      | false => exact .inl rfl
      | true => exact .inr ⟨rfl, by simpa using fun e => hA ⟨hF, e⟩⟩
    have HRO := isRow_any d b o w2 ⟨c0, c1, c2, c3, c4⟩
    rw [decide_eq_false HK.out] at HRO
    have HRW := Lib.hid HRO
    clear hA HRO
    rcases hB with h6 | ⟨h6, h7⟩
    all_goals
      rw [h6]
      clear h6
      go_wp2_with fail
      refine HRW.out.mono ?_
      rintro e w3 ⟨rfl, hw3⟩
      rw [hw3]
      clear hw3 w3
      have hbz : Below w2.heap.size w2 (w2.alloc (.cells #[.int .i64 0, .int .i64 0, .slice none 0 0, .slice none 0 0, .int .i64 0] 25)) := (Below.refl _ _).alloc (Nat.le_refl _) _
      obtain ⟨y0, y1, y2, y3, y4⟩ := HE.out _ (below_then HB.out (below_then hI2.out.1 hbz))
      go_upto_region 6 with fail
      go_cut [7] from 35 to 43 (fun v7 wx => v7 = .pointer (some ⟨w2.heap.size, 0, none⟩) ∧ wx = (w2.alloc (.cells #[.int .i64 d.kind, .int .i64 d.n, .slice none 0 0, .slice none 0 0, .int .i64 (-1)] 25)).drew)
      case first =>
        go_region
        all_goals
          go_wp2_with fail
          go_meet
          exact ⟨rfl, rfl⟩
      case rest =>
      obtain ⟨rfl, rfl⟩ := hcut
      clear c0 c1 c2 c3 c4 y0 y1 y2 y3 y4 hbz
      have HPI : RowKit.Hid (PiS W w2.heap.size d.kind d.n (.slice none 0 0) 0 [] (subL F l) (w2.alloc (.cells #[.int .i64 d.kind, .int .i64 d.n, .slice none 0 0, .slice none 0 0, .int .i64 (-1)] 25)).drew) := Lib.hid ⟨World.ownsRow_nil _ _ _ _, rfl, by rw [List.take_zero]; trivial, (fun y hy => by cases hy), (fun y hy => by cases hy), heap_alloc_new w2 _, (Below.heap_alloc _ _ _ (by rw [hI2.out.2.2.1]; omega)).trans hI2.out.2.1, Below.drew (hI2.out.1.alloc hI2.out.1.size _), by rw [hI2.out.2.2.1]; omega⟩
      generalize (w2.alloc (.cells #[.int .i64 d.kind, .int .i64 d.n, .slice none 0 0, .slice none 0 0, .int .i64 (-1)] 25)).drew = w3 at *
      obtain ⟨g, hg⟩ : ∃ g, w2.heap.size = g := ⟨_, rfl⟩
      rw [hg] at HPI ⊢
      clear hg
      obtain ⟨c0, c1, c2, c3, c4⟩ := HE.out _ (below_then HB.out HPI.out.b)
      go_wp2_with fail
      clear c0 c1 c2 c3 c4
      go_loopw [49] (fun i wr => ∃ (k : Nat) (ys : List Ty) (v : Value), i = .int .i64 k ∧ k ≤ d.pn ∧ PiS W g d.kind d.n v k ys (subL F l) wr) (fun i _ => d.pn - (intOf i).toNat)
      case atStart => exact ⟨0, [], _, rfl, Nat.zero_le _, HPI.out⟩
      case round =>
        obtain ⟨k, ys, v, rfl, hk, hS⟩ := hrel
        obtain ⟨A1, k1, rfl, _⟩ := own_cap hS.own
        have HS1 := Lib.hid hS
        by_cases hlt : k < d.pn
        · have hkl : k < l.length := by rw [HL.out]; exact hlt
          obtain ⟨pb, po, hpA, hAtP⟩ := HI.out.part (k := k) hkl
          have hpA' : d.pA = some ⟨pb, po, none⟩ := hpA
          have HWB := Lib.hid (below_then HB.out hS.b)
          have HM := Lib.hid (HX.out l[k] (List.getElem_mem hkl) pb (po + k * 5) wr.drew (hAtP k hkl) (below_then HWB.out (below_drew1 wr)))
          have HTK := Lib.hid (show (subL F l).take (k + 1) = (subL F l).take k ++ [subT F l[k]] by rw [List.take_succ_eq_append_getElem (by rw [subL_len]; exact hkl), subL_at F l k hkl])
          obtain ⟨x, hx⟩ : ∃ x, subT F l[k] = x := ⟨_, rfl⟩
          rw [hx] at HM HTK
          have c2 := (HE.out _ HWB.out).c2
          rw [hpA'] at c2
          have HC2 := Lib.hid (show ∀ V, Below wr.heap.size wr V → V.cell? ⟨b, o + 2, none⟩ = some (.slice (some ⟨pb, po, none⟩) d.pn d.pc) from fun V hV => by rw [← hpA']; exact (HE.out _ (below_then HWB.out hV)).c2)
          obtain ⟨_, _, t2, _, _⟩ := cells5 hS.hd
          have HGL := Lib.hid (lt_of_heap hS.hd)
          have hki : (k : Int) < (d.pn : Int) := by omega
          have hk0 : (0 : Int) ≤ (k : Int) := by omega
          have hk4 : (k : Int) ≤ 4000000 := by have := HCP.out.2.2.2.2.2; omega
          have HBY := Lib.hid (show (k + 1) * 72 ≤ 140737488355328 by have := HCP.out.2.2.2.2.2; omega)
          clear hpA hpA' hAtP hkl hx hS
          go_wp2_with fail
          go_region_law (first
            | (go_simp; go_at_call 20; (with_reducible refine HM.out.mono ?_); rintro e w1 ⟨y, rfl, hin, hbl, he, hb1⟩; have hbw : Below wr.heap.size wr w1 := below_then (below_drew1 wr) hb1; have H1 := Lib.hid (And.intro hin (And.intro (show y.Bl (fun b => wr.heap.size ≤ b) from hbl) (And.intro he hbw))); have hh1 := (hbw.block g HGL.out).trans HS1.out.hd; have hby : Below w1.heap.size w1 (w1.alloc (.cells #[.int .i64 y.d.kind, .int .i64 y.d.n, .slice y.d.pA y.d.pn y.d.pc, .slice y.d.lA y.d.ln y.d.lc, .int .i64 y.d.tail] 25)) := (Below.refl _ _).alloc (Nat.le_refl _) _; have g2 : w1.cell? ⟨g, 2, none⟩ = some (.slice A1 k k1) := (cells5 hh1).2.2.1; have g3 := cell_below hby g2; have HOW := Lib.hid (own_below (own_below HS1.out.own hbw) hby); have HRD := Lib.hid (Rd.lit (size := 5) (n := 1) w1 #[.int .i64 y.d.kind, .int .i64 y.d.n, .slice y.d.pA y.d.pn y.d.pc, .slice y.d.lA y.d.ln y.d.lc, .int .i64 y.d.tail] 25 rfl (fr := (0, 0))); have HSZ := Lib.hid (show g + 1 ≤ (w1.alloc (.cells #[.int .i64 y.d.kind, .int .i64 y.d.n, .slice y.d.pA y.d.pn y.d.pc, .slice y.d.lA y.d.ln y.d.lc, .int .i64 y.d.tail] 25)).heap.size by have := HGL.out; have := hbw.size; rw [World.size_alloc]; omega); have HBB := Lib.hid hby; have HH1 := Lib.hid hh1; clear hin hbl he hb1 hbw hby hh1)
            | (refine step_app elType (w1.alloc (.cells #[.int .i64 y.d.kind, .int .i64 y.d.n, .slice y.d.pA y.d.pn y.d.pc, .slice y.d.lA y.d.ln y.d.lc, .int .i64 y.d.tail] 25)) (by rfl) (.tmp 53) (.tmp 62) (by rfl) (g + 1) (.slice A1 k k1) k _ (by rfl) HOW.out (some ⟨w1.heap.size, 0, none⟩) 1 1 _ (by rfl) HRD.out (ty_ones y) HBY.out HSZ.out ?_; intro v6 w6 hown6 hg6 ho6; obtain ⟨A6, k6, hv6, _⟩ := own_cap hown6; rw [hv6] at hown6 ho6 ⊢; clear hv6; have H6 := Lib.hid (And.intro hown6 (And.intro hg6 ho6)); have hh6 : w6.heap[g]? = some (.cells #[.int .i64 d.kind, .int .i64 d.n, .slice A1 k k1, .slice none 0 0, .int .i64 (-1)] 25) := (hg6.block g (Nat.lt_of_lt_of_le (lt_of_heap HH1.out) HBB.out.size) (fun e => by have := (HS1.out.own.lt g e.symm).1; omega)).trans ((HBB.out.block g (lt_of_heap HH1.out)).trans HH1.out); have g6 : w6.cell? ⟨g, 2, none⟩ = some (.slice A1 k k1) := (cells5 hh6).2.2.1; have f6 := (frozen5 hh6).2.2.1; clear hown6 hg6 ho6 hh6)
            | fail)
          all_goals
            go_wp2_with fail
            have H7 := Lib.hid (HS1.out.step H1.out.2.2.2 H1.out.1 H1.out.2.1 H1.out.2.2.1 HTK.out HBB.out H6.out.1 H6.out.2.1 H6.out.2.2)
            go_roundw
            case rel => exact ⟨k + 1, ys ++ [y], _, by go_num, hlt, H7.out⟩
            case measure => simp [intOf] <;> omega
        · have hki : ¬ (k : Int) < (d.pn : Int) := by omega
          have hmm : (subL F l).take k = subL F l := List.take_of_length_le (by rw [subL_len, HL.out]; omega)
          have HEV := Lib.hid (show tyL ys (subL F l) by have h := hS.eqv; rwa [hmm] at h)
          obtain ⟨t0, t1, t2, t3, t4⟩ := cells5 hS.hd
          obtain ⟨r0, r1, r2, r3, r4⟩ := cells5 hS.rs
          obtain ⟨z0, z1, z2, z3, z4⟩ := frozen5 hS.rs
          obtain ⟨A2, k2, hv2, hc1, hc2, _⟩ := own_cap hS.own
          injection hv2 with h1 h2 h3
          subst h1
          subst h3
          have HIN : RowKit.Hid ((Ty.mk ⟨d.kind, d.n, A1, k, k1, none, 0, 0, [], -1⟩ ys).In wr) := Lib.hid (.mk _ _ (Rd.nil _ _ _) (Rd.of_own hS.own) ⟨Nat.le_refl _, Nat.zero_le _, hc1, hc2, Nat.zero_le _, by have h9 : d.pn ≤ 4000000 := HCP.out.2.2.2.2.2; show k ≤ 4000000; omega⟩ hS.inn)
          have HBL : RowKit.Hid ((Ty.mk ⟨d.kind, d.n, A1, k, k1, none, 0, 0, [], -1⟩ ys).Bl (fun b => g + 1 ≤ b)) := Lib.hid (.mk _ _ (fun h => absurd (show 0 < 0 from h) (by omega)) (fun _ a ha => (hS.own.lt a.block (by rw [show A1 = some a from ha]; rfl)).1) (fun y hy => (hS.bl y hy).imp (hS.inn y hy) (fun b hb _ => hb.1)))
          have HEN := Lib.hid (rc_end HIN.out HBL.out (show W.heap.size < g + 1 by have := hS.hg; omega) hS.b (Nat.le_refl _) hS.rs (.int .i64 d.kind) (.int .i64 d.n) (.slice A1 k k1) (.slice none 0 0) (.int .i64 (-1)))
          have HGW := Lib.hid hS.hg
          clear hS hc1 hc2
          go_wp2_with fail
          clear t0 t1 t2 t3 t4 r0 r1 r2 r3 r4 z0 z1 z2 z3 z4
          generalize (((((wr.setCell ⟨W.heap.size, 0, none⟩ (.int .i64 d.kind)).setCell ⟨W.heap.size, 1, none⟩ (.int .i64 d.n)).setCell ⟨W.heap.size, 2, none⟩ (.slice A1 k k1)).setCell ⟨W.heap.size, 3, none⟩ (.slice none 0 0)).setCell ⟨W.heap.size, 4, none⟩ (.int .i64 (-1))) = w7 at *
          obtain ⟨e0, e1, e2, e3, e4⟩ := cells5 HEN.out.2.2
          refine bodyPost_ret (by simp [results, Tryd.results20, go_sem, e0, e1, e2, e3, e4]; try rfl) rfl ?_
          have hbr := bare_of HK.out HF7.out
          exact ⟨Ty.mk ⟨d.kind, d.n, A1, k, k1, none, 0, 0, [], -1⟩ ys, rfl, HEN.out.1, HBL.out.imp HIN.out (fun b hb _ => by have := HGW.out; omega), by rw [HS.out]; exact ⟨rfl, rfl, hbr.1.symm, (List.eq_nil_of_length_eq_zero (by rw [HLL.out]; exact hbr.2)).symm, HEV.out⟩, HEN.out.2.1⟩
end Go.Proofs.YtklandpagieapaaDoor
