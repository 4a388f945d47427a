/-
  Types put in, by the code: in types without rows.
  How many nodes there would be: with rows.
  Labels of both, where one list has none: by the code.
  Whether a label would stand twice: with rows, by the code.
  Types put in, by the code: rows' variables too.
  What the law asks of: numbers that are the same; how much is left for a type.
  The document's example, by the law's own function.
  TypNames, walked: its loops that fill maps, and what it answers at its end.
  TypNames, walked: its loops that fill maps.
  TypNames, walked.
  From a walk to a statement: a law that returns true and turns nothing that was there meets its row.
  What the tied variables hold; from a walk to a statement.
  From a walk to a statement of the second form: where all that is read is bounded.
-/
import Derived.Test.YtklandpagieapaaDoorK06
import Derived.Test.YtklandpagieapaaDoorK07
import Derived.Test.YtklandpagieapaaDoorK00
import Derived.Test.YtklandpagieapaaDoorK10
import Derived.Test.YtklandpagieapaaDoorK02
import Derived.Deep.RegionHeld3
import Derived.Test.YtklandpagieapaaDoorRows
import Derived.WalkKit
import Derived.ProofKit
import Derived.OpenShut
import Derived.ShutString
import Derived.ChangeOld
import Derived.Below
import Derived.Carry
import Derived.Lib.LaidTab
import Derived.Shelf.Strconv.Itoa1
import Derived.LaidMore
import Derived.LaidLaws
import Derived.LaidHandle
import Derived.Stop.Joined
import Derived.Stop.LaidErr
import Derived.JoinedOf
import Derived.ChangeSame
import Derived.ChangeVars
import Derived.Deep.DeepHandedRow
namespace Go.Proofs.YtklandpagieapaaDoor
open Go.ChangeShapes Go.WideShapes Go.ChangeAt Go.RowKit Go.Sort Go.Maps
set_option linter.unusedVariables false
set_option linter.unusedSimpArgs false
attribute [local irreducible] Go.wpQuiet

set_option maxRecDepth 100000 in
set_option maxHeartbeats 2000000 in
theorem pclashes_any (w0 : World) (p : Nat) (t : Ty) (hI : t.In w0) : t.nr → ∀ (b o : Nat) (W : World), t.d.At w0 b o → Below w0.heap.size w0 W →
    Calls Tryd.prog 19 #[.pointer (some ⟨p, 0, none⟩), .pointer (some ⟨b, o, none⟩)] W fun e w' => e = .returned (.bool false) ∧ Below W.heap.size W w' := by
  induction hI with
  | mk d l lab par cap sub ih =>
  intro hnr b o W hAt hb
  have hI : (Ty.mk d l).In w0 := .mk d l lab par cap sub
  obtain ⟨hk, hnl⟩ : ¬ (d.kind = 4 ∨ d.kind = 5) ∧ nrL l := by unfold Ty.nr at hnr; exact hnr
  have HE := Lib.hid (fun V (h : Below w0.heap.size w0 V) => (show d.At w0 b o from hAt).lower h)
  have HB := Lib.hid hb
  have HI := Lib.hid hI
  have HX := Lib.hid (fun x (hx : x ∈ l) => ih x hx (nrL_mem l x hx hnl))
  have HL := Lib.hid (show l.length = d.pn from hI.len)
  have HCP := Lib.hid cap
  have HRO := Lib.hid (prow_no p d b o W (HE.out _ hb) hk)
  clear lab par cap sub ih hnr hAt hI hk hnl hb
  go_enter Tryd.func19, Tryd.ntmps19
  go_wp2_with fail
  refine HRO.out.mono ?_
  rintro e w2 ⟨rfl, hb2⟩
  have hb3 : Below w2.heap.size w2 (w2.alloc (.cells Lf.zero.arr 25)) := (Below.refl _ _).alloc (Nat.le_refl _) _
  have H3 := Lib.hid (below_then hb2 hb3)
  clear hb2 hb3 HRO
  obtain ⟨c0, c1, c2, c3, c4⟩ := HE.out _ (below_then HB.out H3.out)
  go_wp2_with fail
  generalize (w2.alloc (.cells Lf.zero.arr 25)) = w3 at *
  go_quiet (fail)
  have H4 := Lib.hid (show Below W.heap.size W (w3.drewN nq) from below_drewN H3.out nq)
  go_wp2_with fail
  clear c0 c1 c2 c3 c4
  go_loopw [31] (fun i wr => ∃ k : Nat, i = .int .i64 k ∧ k ≤ d.pn ∧ Below W.heap.size W wr) (fun i _ => d.pn - (intOf i).toNat)
  case atStart => exact ⟨0, rfl, Nat.zero_le _, H4.out⟩
  case round =>
    obtain ⟨k, rfl, hk, hbr⟩ := hrel
    have HR := Lib.hid hbr
    by_cases hlt : k < d.pn
    · have hkl : k < l.length := by rw [HL.out]; exact hlt
      obtain ⟨pb, po, hpA, hAtP⟩ := HI.out.part (k := k) hkl
      have hpA' : d.pA = some ⟨pb, po, none⟩ := hpA
      have c2 := (HE.out _ (below_then HB.out hbr)).c2
      rw [hpA'] at c2
      have HM := Lib.hid (HX.out l[k] (List.getElem_mem hkl) pb (po + k * 5) wr (hAtP k hkl) (below_then HB.out hbr))
      have hki : (k : Int) < (d.pn : Int) := by omega
      have hk0 : (0 : Int) ≤ (k : Int) := by omega
      have hk4 : (k : Int) ≤ 4000000 := by have := HCP.out.2.2.2.2.2; omega
      clear hpA hpA' hAtP hkl hbr
      go_wp2_with fail
      refine HM.out.mono ?_
      rintro e w4 ⟨rfl, hb4⟩
      have H4 := Lib.hid (below_then HR.out hb4)
      clear hb4 HM
      go_wp2_with fail
      go_roundw
      case rel => exact ⟨k + 1, by go_num, hlt, H4.out⟩
      case measure => simp [intOf] <;> omega
    · have hki : ¬ (k : Int) < (d.pn : Int) := by omega
      go_wp2_with fail
      go_returns
      exact ⟨rfl, HR.out⟩

/-- What Put tells: a type that is alike, and no error. -/
def PutR (t : Ty) (W : World) (e : Ending) (w' : World) : Prop := ∃ y : Ty, e = .returned (.tuple #[.agg y.d.arr, .nilIface]) ∧ y.In w' ∧ y.eqv t ∧ Below W.heap.size W w'
theorem LM.map {F : Int → Option Lf} {c : Nat} {w : World} {m : Value} (h : LM F c w m) : ∃ o, m = .map o := by
  cases h with
  | none h hc => exact ⟨_, rfl⟩
  | own bk k D hk h hD => exact ⟨_, rfl⟩

set_option maxRecDepth 100000 in
set_option maxHeartbeats 2000000 in
theorem put_any {F G : Int → Option Lf} {c1 c2 : Nat} {m1 m2 : Value} (hF : OkF F) (hG : OkF G) (hG4 : ∀ n x, G n = some x → x.k = 4) (t : Ty) (W : World) (hI : t.In W) (hnr : t.nr) (hR : t.Rg) (hm : (mayF t 0).isSome = true) (h1 : LM F c1 W m1) (h2 : LM G c2 W m2) :
    Calls Tryd.prog 7 #[.agg t.d.arr, m1, m2] W (PutR (subT F t) W) := by
  obtain ⟨o1, rfl⟩ := h1.map
  obtain ⟨o2, rfl⟩ := h2.map
  have hb1 : Below W.heap.size W (W.alloc (.cells t.d.arr 25)) := (Below.refl _ _).alloc (Nat.le_refl _) _
  have hb2 : Below W.heap.size W ((W.alloc (.cells t.d.arr 25)).alloc (.cells #[.int .i64 0, .int .i64 0, .slice none 0 0, .slice none 0 0, .int .i64 0] 25)) := hb1.alloc hb1.size _
  have hs1 : (W.alloc (.cells t.d.arr 25)).heap.size = W.heap.size + 1 := World.size_alloc _ _
  have HBX := Lib.hid ((box_at W t.d).lower (show Below _ _ ((W.alloc (.cells t.d.arr 25)).alloc (.cells #[.int .i64 0, .int .i64 0, .slice none 0 0, .slice none 0 0, .int .i64 0] 25)) from (Below.refl _ _).alloc (Nat.le_refl _) _))
  have HRS := Lib.hid (show ((W.alloc (.cells t.d.arr 25)).alloc (.cells #[.int .i64 0, .int .i64 0, .slice none 0 0, .slice none 0 0, .int .i64 0] 25)).heap[W.heap.size + 1]? = some (.cells #[.int .i64 0, .int .i64 0, .slice none 0 0, .slice none 0 0, .int .i64 0] 25) by
    have h := heap_alloc_new (W.alloc (.cells t.d.arr 25)) (.cells #[.int .i64 0, .int .i64 0, .slice none 0 0, .slice none 0 0, .int .i64 0] 25)
    rw [hs1] at h
    exact h)
  have HSZ := Lib.hid (show ((W.alloc (.cells t.d.arr 25)).alloc (.cells #[.int .i64 0, .int .i64 0, .slice none 0 0, .slice none 0 0, .int .i64 0] 25)).heap.size = W.heap.size + 2 by simp)
  have HL1 := Lib.hid (h1.below hb2)
  have HL2 := Lib.hid (h2.below hb2)
  have HI := Lib.hid (hI.lower hb2)
  have HB2 := Lib.hid hb2
  have HM := Lib.hid hm
  have HND := Lib.hid (show t.nodes ≤ 4000 ∧ t.fb by
    have hn := hm
    rw [mayF_nodes] at hn
    refine ⟨?_, ?_⟩
    · split at hn
      · rename_i h; omega
      · cases hn
    · cases h : mayF t 0 with
      | none => rw [h] at hm; cases hm
      | some j => exact mayF_fb t 0 j h)
  have HRG := Lib.hid hR
  have HNR := Lib.hid hnr
  clear hb1 hb2 hs1 h1 h2 hI hm hR hnr
  go_enter Tryd.func7, Tryd.ntmps7
  go_wp2_with fail
  generalize ((W.alloc (.cells t.d.arr 25)).alloc (.cells #[.int .i64 0, .int .i64 0, .slice none 0 0, .slice none 0 0, .int .i64 0] 25)) = w2 at *
  refine (sizes_any F c1 hF _ w2 HL1.out).mono ?_
  rintro e w3 ⟨b1, rfl, hs1, hb3⟩
  have H3 := Lib.hid (And.intro hs1 hb3)
  clear hs1 hb3
  go_wp2_with fail
  refine (sizes_any G c2 hG _ w3 (HL2.out.below H3.out.2)).mono ?_
  rintro e w4 ⟨b2, rfl, hs2, hb4⟩
  have H4 := Lib.hid (And.intro hs2 (And.intro (below_then H3.out.2 hb4) (H3.out.1.below hb4)))
  clear hs2 hb4
  have hb5 : Below w4.heap.size w4 (w4.alloc (.cells #[.map o1, .map o2, .map (some b1), .map (some b2)] 50)) := (Below.refl _ _).alloc (Nat.le_refl _) _
  have hp := heap_alloc_new w4 (.cells #[.map o1, .map o2, .map (some b1), .map (some b2)] 50)
  have HPA := Lib.hid (show PA F G c1 c2 (.map o1) (.map o2) b1 b2 (w4.alloc (.cells #[.map o1, .map o2, .map (some b1), .map (some b2)] 50)) w4.heap.size from ⟨by rw [Lib.cell_of_heap hp]; rfl, by rw [Lib.cell_of_heap hp]; rfl, by rw [Lib.cell_of_heap hp]; rfl, by rw [Lib.cell_of_heap hp]; rfl, HL1.out.below (below_then H4.out.2.1 hb5), HL2.out.below (below_then H4.out.2.1 hb5), H4.out.2.2.below hb5, H4.out.1.below hb5⟩)
  have H5 := Lib.hid (below_then H4.out.2.1 hb5)
  clear hp hb5
  obtain ⟨c0, c1, c2, c3, c4⟩ := HBX.out.lower H5.out
  go_wp2_with fail
  generalize (w4.alloc (.cells #[.map o1, .map o2, .map (some b1), .map (some b2)] 50)) = w5 at *
  obtain ⟨p, hpp⟩ : ∃ p, w4.heap.size = p := ⟨_, rfl⟩
  rw [hpp] at HPA ⊢
  clear hpp
  have HMY := Lib.hid (may_any t w5 (HI.out.lower H5.out))
  rw [HM.out] at HMY
  refine HMY.out.mono ?_
  rintro e w6 ⟨rfl, hb6⟩
  have H6 := Lib.hid hb6
  clear hb6 HMY c0 c1 c2 c3 c4
  go_wp2_with fail
  refine (pmay_any F G _ _ _ _ b1 b2 w6 p hG4 (HPA.out.below H6.out)).mono ?_
  rintro e w7 ⟨rfl, hb7⟩
  have H7 := Lib.hid (below_then H6.out hb7)
  clear hb7
  have HA5 := Lib.hid (HBX.out.lower H5.out)
  have hsz : ¬ (4000 : Int) < (t.nodes : Int) := by have := HND.out.1; omega
  go_wp2_with fail
  refine (psize_any w5 p HPA.out t (HI.out.lower H5.out) HNR.out HND.out.2 HRG.out (by have := HND.out.1; omega) W.heap.size 0 w7 HA5.out H7.out).mono ?_
  rintro e w8 ⟨rfl, hb8⟩
  have H8 := Lib.hid (below_then H7.out hb8)
  clear hb8
  go_wp2_with fail
  refine (pclashes_any w5 p t (HI.out.lower H5.out) HNR.out W.heap.size 0 w8 HA5.out H8.out).mono ?_
  rintro e w9 ⟨rfl, hb9⟩
  have H9 := Lib.hid (below_then H8.out hb9)
  clear hb9
  go_wp2_with fail
  refine (pin_any w5 p hF HPA.out t (HI.out.lower H5.out) HNR.out HND.out.2 HRG.out W.heap.size 0 w9 HA5.out H9.out).mono ?_
  rintro e v1 ⟨y, rfl, i1, k1, e1, hb1⟩
  have H1 := Lib.hid (And.intro i1 (And.intro k1 (And.intro e1 hb1)))
  have HBW := Lib.hid (below_then HB2.out (below_then H5.out (below_then H9.out hb1)))
  have hq := ((below_then H5.out (below_then H9.out hb1)).block (W.heap.size + 1) (by rw [HSZ.out]; omega)).trans HRS.out
  have HS9 := Lib.hid (show W.heap.size + 1 < w9.heap.size by have := HSZ.out; have := H5.out.size; have := H9.out.size; omega)
  clear i1 k1 e1 hb1
  obtain ⟨r0, r1, r2, r3, r4⟩ := cells5 hq
  obtain ⟨z0, z1, z2, z3, z4⟩ := frozen5 hq
  have HEN := Lib.hid (rc_end H1.out.1 H1.out.2.1 HS9.out HBW.out (Nat.le_succ _) hq (.int .i64 y.d.kind) (.int .i64 y.d.n) (.slice y.d.pA y.d.pn y.d.pc) (.slice y.d.lA y.d.ln y.d.lc) (.int .i64 y.d.tail))
  clear hq
  go_wp2_with fail
  clear r0 r1 r2 r3 r4 z0 z1 z2 z3 z4
  generalize (((((v1.setCell ⟨W.heap.size + 1, 0, none⟩ (.int .i64 y.d.kind)).setCell ⟨W.heap.size + 1, 1, none⟩ (.int .i64 y.d.n)).setCell ⟨W.heap.size + 1, 2, none⟩ (.slice y.d.pA y.d.pn y.d.pc)).setCell ⟨W.heap.size + 1, 3, none⟩ (.slice y.d.lA y.d.ln y.d.lc)).setCell ⟨W.heap.size + 1, 4, none⟩ (.int .i64 y.d.tail)) = w10 at *
  obtain ⟨e0, e1, e2, e3, e4⟩ := cells5 HEN.out.2.2
  refine bodyPost_ret (by simp [results, Tryd.results7, go_sem, e0, e1, e2, e3, e4]; try rfl) rfl ?_
  exact ⟨y, rfl, HEN.out.1, H1.out.2.2.1, HEN.out.2.1⟩
end Go.Proofs.YtklandpagieapaaDoor

namespace Go.Proofs.YtklandpagieapaaDoor
open Go.ChangeShapes Go.WideShapes Go.ChangeAt Go.RowKit Go.Sort Go.Maps
set_option linter.unusedVariables false
set_option linter.unusedSimpArgs false
attribute [local irreducible] Go.wpQuiet

set_option maxRecDepth 100000 in
set_option maxHeartbeats 2000000 in
theorem psizeR_any {F G : Int → Option Lf} {n1 n2 : Nat} {m1 m2 : Value} {b1 b2 : Nat} (w0 : World) (p : Nat) (hP : PA F G n1 n2 m1 m2 b1 b2 w0 p) (t : Ty) (hI : t.In w0) : t.fb → t.Rg → t.nodes ≤ 4000000 → ∀ (b o : Nat) (W : World), t.d.At w0 b o → Below w0.heap.size w0 W →
    Calls Tryd.prog 18 #[.pointer (some ⟨p, 0, none⟩), .pointer (some ⟨b, o, none⟩)] W fun e w' => e = .returned (.int .i64 t.nodes) ∧ Below W.heap.size W w' := by
  induction hI with
  | mk d l lab par cap sub ih =>
  intro hfb hG hnd b o W hAt hb
  have hI : (Ty.mk d l).In w0 := .mk d l lab par cap sub
  obtain ⟨gn, gt, gl⟩ : (Lit.int .i64 d.n).wf = true ∧ (Lit.int .i64 d.tail).wf = true ∧ ∀ x ∈ l, Ty.Rg x := by cases hG; exact ⟨by assumption, by assumption, by assumption⟩
  obtain ⟨hf, hfl⟩ : d.fieldsB = true ∧ fbL l := by unfold Ty.fb at hfb; exact hfb
  have HP := Lib.hid (fun V (h : Below w0.heap.size w0 V) => hP.below h)
  have HE := Lib.hid (fun V (h : Below w0.heap.size w0 V) => (show d.At w0 b o from hAt).lower h)
  have HB := Lib.hid hb
  have HI := Lib.hid hI
  have HGT := Lib.hid gt
  have HGN := Lib.hid gn
  have HX := Lib.hid (fun x (hx : x ∈ l) => ih x hx (fbL_mem l x hx hfl) (gl x hx))
  have HN := Lib.hid (show 1 + nodesL l ≤ 4000000 by unfold Ty.nodes at hnd; exact hnd)
  have HL := Lib.hid (show l.length = d.pn from hI.len)
  have HCP := Lib.hid cap
  have HF7 := Lib.hid hf
  clear lab par cap sub ih hfb hG hnd hAt hI gn gt gl hf hfl hP
  obtain ⟨c0, c1, c2, c3, c4⟩ := HE.out _ hb
  obtain ⟨q0, q1, q2, q3, l1, l2, s1, s2⟩ := HP.out _ hb
  have hlk := LM.look (l1.below (below_drew1 W)) HGN.out
  have hbz : Below W.heap.size W (W.alloc (.cells #[.int .i64 0, .int .i64 0, .slice none 0 0, .slice none 0 0, .int .i64 0] 25)) := (Below.refl _ _).alloc (Nat.le_refl _) _
  obtain ⟨y0, y1, y2, y3, y4⟩ := HE.out _ (below_then hb hbz)
  have u0 := cell_below hbz q0
  have hlk2 := LM.look (l1.below (below_then hbz (below_drew1 _))) HGN.out
  clear l1 l2 s1 s2 hb
  show Calls Tryd.prog 18 #[.pointer (some ⟨p, 0, none⟩), .pointer (some ⟨b, o, none⟩)] W fun e w' => e = .returned (.int .i64 (1 + nodesL l : Nat)) ∧ Below W.heap.size W w'
  go_enter Tryd.func18, Tryd.ntmps18
  go_upto_region 1 with fail
  go_cut [5, 6] from 11 to 23 (fun v5 v6 wx => v6 = .bool (F d.n).isSome ∧ Below W.heap.size W wx)
  case first =>
    go_region
    all_goals
      go_wp2_with fail
      go_meet
      exact ⟨rfl, Below.drew ((Below.refl _ _).alloc (Nat.le_refl _) _)⟩
  case rest =>
  obtain ⟨rfl, hbx⟩ := hcut
  have HX1 := Lib.hid hbx
  clear c0 c1 c2 c3 c4 q0 q1 q2 q3 hlk hlk2 hbz y0 y1 y2 y3 y4 u0 hbx
  obtain ⟨c0, c1, c2, c3, c4⟩ := HE.out _ (below_then HB.out HX1.out)
  by_cases hA : (F d.n).isSome = true ∧ d.kind = 7
  · have HPX := Lib.hid (HP.out _ (below_then HB.out HX1.out))
    obtain ⟨hF, hk7⟩ := hA
    have q7 : (d.kind == 7) = true := by simpa using hk7
    have HZ := Lib.hid (show nodesL l = 0 by
      have hf := HF7.out
      unfold TyD.fieldsB at hf
      rw [if_neg (by omega), if_pos hk7] at hf
      simp only [TyD.bareB, Bool.and_eq_true, decide_eq_true_eq] at hf
      have hpn : d.pn = 0 := by have := hf.2.1.1; omega
      have hl := HL.out
      rw [hpn] at hl
      match l, hl with
      | [], _ => rfl)
    rw [hF]
    generalize wc = w1 at *
    have kq2 := cell_regrown HPX.out.q2
    have kc1 := cell_regrown c1
    have kl : ∀ dd os, (Instr.lookup 47 (.map (some b1)) (.int .i64 d.n) false).run Tryd.prog (grow (redrawn w1 dd) os) = .ok (.int .i64 1) (grow (redrawn w1 dd) os) := fun dd os => SM.look (HPX.out.s1.below (below_regrown w1 dd os)) HGN.out hF
    clear hF hk7
    go_wp2_with fail
    refine wp_region_quiet_below (by kernel_rfl) (by kernel_rfl) ?_
    repeat (quiet_step (fail))
    refine wpQuiet_nil ?_
    intro _ hw
    obtain ⟨⟨dq, osq⟩, hw''⟩ := hw
    subst hw''
    have H2 := Lib.hid (below_then HX1.out (below_regrown w1 dq osq))
    clear kq2 kc1 kl c0 c1 c2 c3 c4
    go_wp2_with fail
    go_returns
    exact ⟨by rw [HZ.out]; rfl, H2.out⟩
  · have hB : (F d.n).isSome = false ∨ ((F d.n).isSome = true ∧ (d.kind == 7) = false) := by
      cases hF : (F d.n).isSome with
      | false => exact .inl rfl
      | true => exact .inr ⟨rfl, by simpa using fun e => hA ⟨hF, e⟩⟩
    clear hA
    rcases hB with h6 | ⟨h6, h7⟩
    all_goals
      rw [h6]
      clear h6
      have HRO := Lib.hid (prow_any p d b o wc (HP.out _ (below_then HB.out HX1.out)) ⟨c0, c1, c2, c3, c4⟩ HGT.out)
      have HRS := Lib.hid (show (rowF G d).isSome = true → (G d.tail).isSome = true from fun h => by
        unfold rowF at h
        split at h
        · exact h
        · cases h)
      obtain ⟨xr, hxr⟩ : ∃ xr, (rowF G d).getD Lf.zero = xr := ⟨_, rfl⟩
      obtain ⟨bs, hbs⟩ : ∃ bs, (rowF G d).isSome = bs := ⟨_, rfl⟩
      rw [hxr, hbs] at HRO
      rw [hbs] at HRS
      clear hxr hbs
      go_wp2_with fail
      refine HRO.out.mono ?_
      rintro e w2 ⟨rfl, hb2⟩
      have hb3 : Below w2.heap.size w2 (w2.alloc (.cells xr.arr 25)) := (Below.refl _ _).alloc (Nat.le_refl _) _
      have H3 := Lib.hid (below_then (below_then HX1.out hb2) hb3)
      clear c0 c1 c2 c3 c4 hb2 hb3 HRO
      go_upto_if 46 with fail
      generalize (w2.alloc (.cells xr.arr 25)) = w3 at *
      obtain ⟨c0, c1, c2, c3, c4⟩ := HE.out _ (below_then HB.out H3.out)
      have HPX := Lib.hid (HP.out _ (below_then HB.out H3.out))
      go_cut [7] from 47 to 55 (fun v7 wx => v7 = .int .i64 1 ∧ Below W.heap.size W wx)
      case first =>
        cases bs with
        | false =>
          go_wp2_with fail
          go_meet
          exact ⟨rfl, H3.out⟩
        | true =>
          have kq3 := cell_regrown HPX.out.q3
          have kc4 := cell_regrown c4
          have kl : ∀ dd os, (Instr.lookup 47 (.map (some b2)) (.int .i64 d.tail) false).run Tryd.prog (grow (redrawn w3 dd) os) = .ok (.int .i64 1) (grow (redrawn w3 dd) os) := fun dd os => SM.look (HPX.out.s2.below (below_regrown w3 dd os)) HGT.out (HRS.out rfl)
          go_wp2_with fail
          refine wp_region_quiet_below (by kernel_rfl) (by kernel_rfl) ?_
          repeat (quiet_step (fail))
          refine wpQuiet_nil ?_
          intro _ hw
          obtain ⟨⟨dq, osq⟩, hw''⟩ := hw
          subst hw''
          have H4 := Lib.hid (below_then H3.out (below_regrown w3 dq osq))
          clear kq3 kc4 kl c0 c1 c2 c3 c4
          go_wp2_with fail
          go_meet
          exact ⟨rfl, H4.out⟩
      case rest =>
      obtain ⟨rfl, hbx2⟩ := hcut
      have H5 := Lib.hid hbx2
      clear c0 c1 c2 c3 c4 hbx2
      obtain ⟨c0, c1, c2, c3, c4⟩ := HE.out _ (below_then HB.out H5.out)
      go_wp2_with fail
      clear c0 c1 c2 c3 c4
      go_loopw [7, 61] (fun v i wr => ∃ k : Nat, v = .int .i64 ((1 + nodesL (l.take k) : Nat) : Int) ∧ i = .int .i64 k ∧ k ≤ d.pn ∧ Below W.heap.size W wr) (fun _ i _ => d.pn - (intOf i).toNat)
      case atStart => exact ⟨0, by rw [List.take_zero]; rfl, rfl, Nat.zero_le _, H5.out⟩
      case round =>
        obtain ⟨k, rfl, rfl, hk, hbr⟩ := hrel
        have HR := Lib.hid hbr
        have hn9 := nodesL_take l k
        by_cases hlt : k < d.pn
        · have hkl : k < l.length := by rw [HL.out]; exact hlt
          obtain ⟨pb, po, hpA, hAtP⟩ := HI.out.part (k := k) hkl
          have hpA' : d.pA = some ⟨pb, po, none⟩ := hpA
          have c2 := (HE.out _ (below_then HB.out hbr)).c2
          rw [hpA'] at c2
          have HM := Lib.hid (HX.out l[k] (List.getElem_mem hkl) (by have := nodesL_take l (k + 1); rw [List.take_succ_eq_append_getElem hkl, nodesL_snoc] at this; have := HN.out; omega) pb (po + k * 5) wr (hAtP k hkl) (below_then HB.out hbr))
          have HS := Lib.hid (show nodesL (l.take (k + 1)) = nodesL (l.take k) + (l[k]).nodes by rw [List.take_succ_eq_append_getElem hkl, nodesL_snoc])
          have HS9 := Lib.hid (nodesL_take l (k + 1))
          obtain ⟨m, hm⟩ : ∃ m, (l[k]).nodes = m := ⟨_, rfl⟩
          rw [hm] at HM HS
          obtain ⟨a, ha⟩ : ∃ a, nodesL (l.take k) = a := ⟨_, rfl⟩
          rw [ha] at HS hn9
          rw [ha]
          have hki : (k : Int) < (d.pn : Int) := by omega
          have hk0 : (0 : Int) ≤ (k : Int) := by omega
          have hk4 : (k : Int) ≤ 4000000 := by have := HCP.out.2.2.2.2.2; omega
          have ha4 : ((1 + a : Nat) : Int) + (m : Int) ≤ 4000000 := by have h1 := HS.out; have h2 := HS9.out; have h3 := HN.out; omega
          clear hpA hpA' hAtP hkl hm ha hbr hn9
          go_wp2_with fail
          refine HM.out.mono ?_
          rintro e w4 ⟨rfl, hb4⟩
          have H4 := Lib.hid (below_then HR.out hb4)
          clear hb4 HM
          go_wp2_with fail
          go_roundw
          case rel => exact ⟨k + 1, by rw [HS.out]; go_num, by go_num, hlt, H4.out⟩
          case measure => simp [intOf] <;> omega
        · have hki : ¬ (k : Int) < (d.pn : Int) := by omega
          have hmm : l.take k = l := List.take_of_length_le (by rw [HL.out]; omega)
          rw [hmm]
          go_wp2_with fail
          go_returns
          exact ⟨rfl, HR.out⟩
end Go.Proofs.YtklandpagieapaaDoor

namespace Go.Proofs.YtklandpagieapaaDoor
open Go.ChangeShapes Go.WideShapes Go.ChangeAt Go.RowKit
set_option linter.unusedVariables false
set_option linter.unusedSimpArgs false

theorem meetF_nil (B : Option Addr) (d : Nat) (p : Addr) (s : Str) (w : World) (hp : w.cell? p = some (.slice B 0 d)) :
    Calls Tryd.prog 46 #[.string (bstr s), .pointer (some p)] w fun e w' => e = .returned (.bool false) ∧ Below w.heap.size w w' := by
  have HH := Lib.hid (has_any B [] s 0 d w ⟨rfl, fun h => absurd h (by simp [strs])⟩ (by omega) List.Pairwise.nil)
  go_enter Tryd.func46, Tryd.ntmps46
  go_wp2_with fail
  refine HH.out.mono ?_
  rintro e w1 ⟨rfl, hb1⟩
  go_wp2_with fail
  go_returns
  exact ⟨rfl, hb1⟩

set_option maxRecDepth 100000 in
set_option maxHeartbeats 1000000 in
theorem chosen_nil (p : Addr) (A : Option Addr) (l : List Str) (n c : Nat) (w : World) (hr : Rd w 1 A n (strs l)) (hm : n ≤ 4000000)
    (hf : ∀ (w1 : World) (s : Str), Below w.heap.size w w1 → Calls Tryd.prog 46 #[.string (bstr s), .pointer (some p)] w1 fun e w' => e = .returned (.bool false) ∧ Below w1.heap.size w1 w') :
    Calls Tryd.prog 45 #[.slice A n c, .func (.func 46) #[] #[.pointer (some p)]] w fun e w' => e = .returned (.slice none 0 0) ∧ Below w.heap.size w w' := by
  have hl := rd_len hr
  subst hl
  have HF := Lib.hid hf
  clear hf
  go_enter Tryd.func45, Tryd.ntmps45
  go_wp2_with fail
  go_loopw [5, 10] (fun v i wr => v = .slice none 0 0 ∧ ∃ k : Nat, i = .int .i64 k ∧ k ≤ l.length ∧ Below w.heap.size w wr) (fun _ i _ => l.length - (intOf i).toNat)
  case atStart => exact ⟨rfl, 0, rfl, by omega, Below.refl _ _⟩
  case round =>
    obtain ⟨rfl, k, rfl, hk, hb⟩ := hrel
    by_cases hlt : k < l.length
    · obtain ⟨ab, o, rfl, hc⟩ := (hr.below hb).str (k := k) hlt
      have hc1 := hc k hlt
      have HM := Lib.hid (HF.out _ l[k] hb)
      obtain ⟨x, hx⟩ : ∃ x, l[k] = x := ⟨_, rfl⟩
      rw [hx] at hc1 HM
      have HB := Lib.hid hb
      have hki : (k : Int) < (l.length : Int) := by omega
      have hk0 : (0 : Int) ≤ (k : Int) := by omega
      have hk4 : (k : Int) ≤ 4000000 := by omega
      clear hc hr hx hb
      go_wp2_with fail
      refine HM.out.mono ?_
      rintro e w1 ⟨rfl, hb1⟩
      have H1 := Lib.hid (below_then HB.out hb1)
      clear hb1 HM hc1
      go_wp2_with fail
      go_roundw
      case rel => exact ⟨rfl, k + 1, by go_num, by omega, H1.out⟩
      case measure => simp [intOf] <;> omega
    · have hki : ¬ (k : Int) < (l.length : Int) := by omega
      go_wp2_with fail
      go_returns
      exact ⟨rfl, hb⟩

set_option maxRecDepth 100000 in
theorem meet_nil (A B : Option Addr) (a : List Str) (n c d : Nat) (w : World) (hr : Rd w 1 A n (strs a)) (hm : n ≤ 4000000) :
    Calls Tryd.prog 32 #[.slice A n c, .slice B 0 d] w fun e w' => e = .returned (.slice none 0 0) ∧ Below w.heap.size w w' := by
  have hb0 : Below w.heap.size w (w.alloc (.cells #[.slice B 0 d] 23)) := (Below.refl _ _).alloc (Nat.le_refl _) _
  have hp0 : (w.alloc (.cells #[.slice B 0 d] 23)).cell? ⟨w.heap.size, 0, none⟩ = some (.slice B 0 d) := cell_new w _ _ 0 rfl
  have HC := Lib.hid (chosen_nil ⟨w.heap.size, 0, none⟩ A a n c _ (hr.below hb0) hm (fun w1 s hb => meetF_nil B d _ s w1 (cell_below hb hp0)))
  have HB := Lib.hid hb0
  clear hb0 hp0
  go_enter Tryd.func32, Tryd.ntmps32
  go_wp2_with fail
  refine HC.out.mono ?_
  rintro e w1 ⟨rfl, hb1⟩
  go_wp2_with fail
  go_returns
  exact ⟨rfl, below_then HB.out hb1⟩
end Go.Proofs.YtklandpagieapaaDoor

namespace Go.Proofs.YtklandpagieapaaDoor
open Go.ChangeShapes Go.WideShapes Go.ChangeAt Go.RowKit Go.Sort Go.Maps
set_option linter.unusedVariables false
set_option linter.unusedSimpArgs false
attribute [local irreducible] Go.wpQuiet

set_option maxRecDepth 100000 in
set_option maxHeartbeats 2000000 in
theorem pclashesR_any {F G : Int → Option Lf} {n1 n2 : Nat} {m1 m2 : Value} {b1 b2 : Nat} (w0 : World) (p : Nat) (hP : PA F G n1 n2 m1 m2 b1 b2 w0 p) (t : Ty) (hI : t.In w0) : t.Rg → ∀ (b o : Nat) (W : World), t.d.At w0 b o → Below w0.heap.size w0 W →
    Calls Tryd.prog 19 #[.pointer (some ⟨p, 0, none⟩), .pointer (some ⟨b, o, none⟩)] W fun e w' => e = .returned (.bool false) ∧ Below W.heap.size W w' := by
  induction hI with
  | mk d l lab par cap sub ih =>
  intro hG b o W hAt hb
  have hI : (Ty.mk d l).In w0 := .mk d l lab par cap sub
  obtain ⟨gn, gt, gl⟩ : (Lit.int .i64 d.n).wf = true ∧ (Lit.int .i64 d.tail).wf = true ∧ ∀ x ∈ l, Ty.Rg x := by cases hG; exact ⟨by assumption, by assumption, by assumption⟩
  have HE := Lib.hid (fun V (h : Below w0.heap.size w0 V) => (show d.At w0 b o from hAt).lower h)
  have HB := Lib.hid hb
  have HI := Lib.hid hI
  have HX := Lib.hid (fun x (hx : x ∈ l) => ih x hx (gl x hx))
  have HL := Lib.hid (show l.length = d.pn from hI.len)
  have HCP := Lib.hid cap
  have HRO := Lib.hid (prow_any p d b o W (hP.below hb) (HE.out _ hb) gt)
  have HLB := Lib.hid (show Rd w0 1 d.lA d.ln (strs d.labels) from hI.lab)
  obtain ⟨xr, hxr⟩ : ∃ xr, (rowF G d).getD Lf.zero = xr := ⟨_, rfl⟩
  obtain ⟨bs, hbs⟩ : ∃ bs, (rowF G d).isSome = bs := ⟨_, rfl⟩
  rw [hxr, hbs] at HRO
  clear lab par cap sub ih hG hAt hI gn gt gl hb hP hxr hbs
  go_enter Tryd.func19, Tryd.ntmps19
  go_wp2_with fail
  refine HRO.out.mono ?_
  rintro e w2 ⟨rfl, hb2⟩
  have hb3 : Below w2.heap.size w2 (w2.alloc (.cells xr.arr 25)) := (Below.refl _ _).alloc (Nat.le_refl _) _
  have H3 := Lib.hid (below_then hb2 hb3)
  have HBX := Lib.hid (heap_alloc_new w2 (.cells xr.arr 25))
  clear hb2 hb3 HRO
  go_upto_region 2 with fail
  generalize (w2.alloc (.cells xr.arr 25)) = w3 at *
  obtain ⟨c0, c1, c2, c3, c4⟩ := HE.out _ (below_then HB.out H3.out)
  obtain ⟨t0, t1, t2, t3, t4⟩ := cells5 HBX.out
  go_cut [25] from 14 to 25 (fun v wx => v = .bool false ∧ Below W.heap.size W wx)
  case first =>
    cases bs with
    | false =>
      go_quiet (fail)
      have H4 := Lib.hid (show Below W.heap.size W (w3.drewN nq) from below_drewN H3.out nq)
      go_wp2_with fail
      go_meet
      exact ⟨rfl, H4.out⟩
    | true =>
      have CM := Lib.hid (fun dd os => Calls.regrown_of ((meet_nil d.lA xr.lA d.labels d.ln d.lc xr.lc (grow (redrawn w3 dd) os) (HLB.out.below (below_then (below_then HB.out H3.out) (below_regrown w3 dd os))) HCP.out.2.2.2.2.1).mono fun e w' hh => ⟨hh.1, hh.2⟩))
      have kc3 := cell_regrown c3
      have kt3 := cell_regrown t3
      refine wp_region_quiet_below (by kernel_rfl) (by kernel_rfl) ?_
      repeat (quiet_step ((go_at_call 32; with_reducible exact CM.out _ _)))
      refine wpQuiet_nil ?_
      intro _ hw
      obtain ⟨⟨dq, osq⟩, hw''⟩ := hw
      subst hw''
      have H4 := Lib.hid (below_then H3.out (below_regrown w3 dq osq))
      clear kc3 kt3 CM c0 c1 c2 c3 c4 t0 t1 t2 t3 t4
      go_wp2_with fail
      go_meet
      exact ⟨rfl, H4.out⟩
  case rest =>
  obtain ⟨rfl, hbx⟩ := hcut
  have H4 := Lib.hid hbx
  clear c0 c1 c2 c3 c4 t0 t1 t2 t3 t4 hbx
  obtain ⟨c0, c1, c2, c3, c4⟩ := HE.out _ (below_then HB.out H4.out)
  go_wp2_with fail
  clear c0 c1 c2 c3 c4
  go_loopw [31] (fun i wr => ∃ k : Nat, i = .int .i64 k ∧ k ≤ d.pn ∧ Below W.heap.size W wr) (fun i _ => d.pn - (intOf i).toNat)
  case atStart => exact ⟨0, rfl, Nat.zero_le _, H4.out⟩
  case round =>
    obtain ⟨k, rfl, hk, hbr⟩ := hrel
    have HR := Lib.hid hbr
    by_cases hlt : k < d.pn
    · have hkl : k < l.length := by rw [HL.out]; exact hlt
      obtain ⟨pb, po, hpA, hAtP⟩ := HI.out.part (k := k) hkl
      have hpA' : d.pA = some ⟨pb, po, none⟩ := hpA
      have c2 := (HE.out _ (below_then HB.out hbr)).c2
      rw [hpA'] at c2
      have HM := Lib.hid (HX.out l[k] (List.getElem_mem hkl) pb (po + k * 5) wr (hAtP k hkl) (below_then HB.out hbr))
      have hki : (k : Int) < (d.pn : Int) := by omega
      have hk0 : (0 : Int) ≤ (k : Int) := by omega
      have hk4 : (k : Int) ≤ 4000000 := by have := HCP.out.2.2.2.2.2; omega
      clear hpA hpA' hAtP hkl hbr
      go_wp2_with fail
      refine HM.out.mono ?_
      rintro e w4 ⟨rfl, hb4⟩
      have H4 := Lib.hid (below_then HR.out hb4)
      clear hb4 HM
      go_wp2_with fail
      go_roundw
      case rel => exact ⟨k + 1, by go_num, hlt, H4.out⟩
      case measure => simp [intOf] <;> omega
    · have hki : ¬ (k : Int) < (d.pn : Int) := by omega
      go_wp2_with fail
      go_returns
      exact ⟨rfl, HR.out⟩
end Go.Proofs.YtklandpagieapaaDoor

namespace Go.Proofs.YtklandpagieapaaDoor
open Go.ChangeShapes Go.WideShapes Go.ChangeAt Go.RowKit Go.Sort Go.Maps
set_option linter.unusedVariables false
set_option linter.unusedSimpArgs false
attribute [local irreducible] Go.wpQuiet

set_option maxRecDepth 100000 in
set_option maxHeartbeats 2000000 in
theorem putR_any {F G : Int → Option Lf} {c1 c2 : Nat} {m1 m2 : Value} (hF : OkF F) (hG : OkF G) (hG4 : ∀ n x, G n = some x → x.k = 4) (t : Ty) (W : World) (hI : t.In W) (hR : t.Rg) (hm : (mayF t 0).isSome = true) (h1 : LM F c1 W m1) (h2 : LM G c2 W m2) :
    Calls Tryd.prog 7 #[.agg t.d.arr, m1, m2] W (PutR (subR F G t) W) := by
  obtain ⟨o1, rfl⟩ := h1.map
  obtain ⟨o2, rfl⟩ := h2.map
  have hb1 : Below W.heap.size W (W.alloc (.cells t.d.arr 25)) := (Below.refl _ _).alloc (Nat.le_refl _) _
  have hb2 : Below W.heap.size W ((W.alloc (.cells t.d.arr 25)).alloc (.cells #[.int .i64 0, .int .i64 0, .slice none 0 0, .slice none 0 0, .int .i64 0] 25)) := hb1.alloc hb1.size _
  have hs1 : (W.alloc (.cells t.d.arr 25)).heap.size = W.heap.size + 1 := World.size_alloc _ _
  have HBX := Lib.hid ((box_at W t.d).lower (show Below _ _ ((W.alloc (.cells t.d.arr 25)).alloc (.cells #[.int .i64 0, .int .i64 0, .slice none 0 0, .slice none 0 0, .int .i64 0] 25)) from (Below.refl _ _).alloc (Nat.le_refl _) _))
  have HRS := Lib.hid (show ((W.alloc (.cells t.d.arr 25)).alloc (.cells #[.int .i64 0, .int .i64 0, .slice none 0 0, .slice none 0 0, .int .i64 0] 25)).heap[W.heap.size + 1]? = some (.cells #[.int .i64 0, .int .i64 0, .slice none 0 0, .slice none 0 0, .int .i64 0] 25) by
    have h := heap_alloc_new (W.alloc (.cells t.d.arr 25)) (.cells #[.int .i64 0, .int .i64 0, .slice none 0 0, .slice none 0 0, .int .i64 0] 25)
    rw [hs1] at h
    exact h)
  have HSZ := Lib.hid (show ((W.alloc (.cells t.d.arr 25)).alloc (.cells #[.int .i64 0, .int .i64 0, .slice none 0 0, .slice none 0 0, .int .i64 0] 25)).heap.size = W.heap.size + 2 by simp)
  have HL1 := Lib.hid (h1.below hb2)
  have HL2 := Lib.hid (h2.below hb2)
  have HI := Lib.hid (hI.lower hb2)
  have HB2 := Lib.hid hb2
  have HM := Lib.hid hm
  have HND := Lib.hid (show t.nodes ≤ 4000 ∧ t.fb by
    have hn := hm
    rw [mayF_nodes] at hn
    refine ⟨?_, ?_⟩
    · split at hn
      · rename_i h; omega
      · cases hn
    · cases h : mayF t 0 with
      | none => rw [h] at hm; cases hm
      | some j => exact mayF_fb t 0 j h)
  have HRG := Lib.hid hR
  clear hb1 hb2 hs1 h1 h2 hI hm hR
  go_enter Tryd.func7, Tryd.ntmps7
  go_wp2_with fail
  generalize ((W.alloc (.cells t.d.arr 25)).alloc (.cells #[.int .i64 0, .int .i64 0, .slice none 0 0, .slice none 0 0, .int .i64 0] 25)) = w2 at *
  refine (sizes_any F c1 hF _ w2 HL1.out).mono ?_
  rintro e w3 ⟨b1, rfl, hs1, hb3⟩
  have H3 := Lib.hid (And.intro hs1 hb3)
  clear hs1 hb3
  go_wp2_with fail
  refine (sizes_any G c2 hG _ w3 (HL2.out.below H3.out.2)).mono ?_
  rintro e w4 ⟨b2, rfl, hs2, hb4⟩
  have H4 := Lib.hid (And.intro hs2 (And.intro (below_then H3.out.2 hb4) (H3.out.1.below hb4)))
  clear hs2 hb4
  have hb5 : Below w4.heap.size w4 (w4.alloc (.cells #[.map o1, .map o2, .map (some b1), .map (some b2)] 50)) := (Below.refl _ _).alloc (Nat.le_refl _) _
  have hp := heap_alloc_new w4 (.cells #[.map o1, .map o2, .map (some b1), .map (some b2)] 50)
  have HPA := Lib.hid (show PA F G c1 c2 (.map o1) (.map o2) b1 b2 (w4.alloc (.cells #[.map o1, .map o2, .map (some b1), .map (some b2)] 50)) w4.heap.size from ⟨by rw [Lib.cell_of_heap hp]; rfl, by rw [Lib.cell_of_heap hp]; rfl, by rw [Lib.cell_of_heap hp]; rfl, by rw [Lib.cell_of_heap hp]; rfl, HL1.out.below (below_then H4.out.2.1 hb5), HL2.out.below (below_then H4.out.2.1 hb5), H4.out.2.2.below hb5, H4.out.1.below hb5⟩)
  have H5 := Lib.hid (below_then H4.out.2.1 hb5)
  clear hp hb5
  obtain ⟨c0, c1, c2, c3, c4⟩ := HBX.out.lower H5.out
  go_wp2_with fail
  generalize (w4.alloc (.cells #[.map o1, .map o2, .map (some b1), .map (some b2)] 50)) = w5 at *
  obtain ⟨p, hpp⟩ : ∃ p, w4.heap.size = p := ⟨_, rfl⟩
  rw [hpp] at HPA ⊢
  clear hpp
  have HMY := Lib.hid (may_any t w5 (HI.out.lower H5.out))
  rw [HM.out] at HMY
  refine HMY.out.mono ?_
  rintro e w6 ⟨rfl, hb6⟩
  have H6 := Lib.hid hb6
  clear hb6 HMY c0 c1 c2 c3 c4
  go_wp2_with fail
  refine (pmay_any F G _ _ _ _ b1 b2 w6 p hG4 (HPA.out.below H6.out)).mono ?_
  rintro e w7 ⟨rfl, hb7⟩
  have H7 := Lib.hid (below_then H6.out hb7)
  clear hb7
  have HA5 := Lib.hid (HBX.out.lower H5.out)
  have hsz : ¬ (4000 : Int) < (t.nodes : Int) := by have := HND.out.1; omega
  go_wp2_with fail
  refine (psizeR_any w5 p HPA.out t (HI.out.lower H5.out) HND.out.2 HRG.out (by have := HND.out.1; omega) W.heap.size 0 w7 HA5.out H7.out).mono ?_
  rintro e w8 ⟨rfl, hb8⟩
  have H8 := Lib.hid (below_then H7.out hb8)
  clear hb8
  go_wp2_with fail
  refine (pclashesR_any w5 p HPA.out t (HI.out.lower H5.out) HRG.out W.heap.size 0 w8 HA5.out H8.out).mono ?_
  rintro e w9 ⟨rfl, hb9⟩
  have H9 := Lib.hid (below_then H8.out hb9)
  clear hb9
  go_wp2_with fail
  refine (pinR_any w5 p hF HPA.out t (HI.out.lower H5.out) HND.out.2 HRG.out W.heap.size 0 w9 HA5.out H9.out).mono ?_
  rintro e v1 ⟨y, rfl, i1, k1, e1, hb1⟩
  have H1 := Lib.hid (And.intro i1 (And.intro k1 (And.intro e1 hb1)))
  have HBW := Lib.hid (below_then HB2.out (below_then H5.out (below_then H9.out hb1)))
  have hq := ((below_then H5.out (below_then H9.out hb1)).block (W.heap.size + 1) (by rw [HSZ.out]; omega)).trans HRS.out
  have HS9 := Lib.hid (show W.heap.size + 1 < w9.heap.size by have := HSZ.out; have := H5.out.size; have := H9.out.size; omega)
  clear i1 k1 e1 hb1
  obtain ⟨r0, r1, r2, r3, r4⟩ := cells5 hq
  obtain ⟨z0, z1, z2, z3, z4⟩ := frozen5 hq
  have HEN := Lib.hid (rc_end H1.out.1 H1.out.2.1 HS9.out HBW.out (Nat.le_succ _) hq (.int .i64 y.d.kind) (.int .i64 y.d.n) (.slice y.d.pA y.d.pn y.d.pc) (.slice y.d.lA y.d.ln y.d.lc) (.int .i64 y.d.tail))
  clear hq
  go_wp2_with fail
  clear r0 r1 r2 r3 r4 z0 z1 z2 z3 z4
  generalize (((((v1.setCell ⟨W.heap.size + 1, 0, none⟩ (.int .i64 y.d.kind)).setCell ⟨W.heap.size + 1, 1, none⟩ (.int .i64 y.d.n)).setCell ⟨W.heap.size + 1, 2, none⟩ (.slice y.d.pA y.d.pn y.d.pc)).setCell ⟨W.heap.size + 1, 3, none⟩ (.slice y.d.lA y.d.ln y.d.lc)).setCell ⟨W.heap.size + 1, 4, none⟩ (.int .i64 y.d.tail)) = w10 at *
  obtain ⟨e0, e1, e2, e3, e4⟩ := cells5 HEN.out.2.2
  refine bodyPost_ret (by simp [results, Tryd.results7, go_sem, e0, e1, e2, e3, e4]; try rfl) rfl ?_
  exact ⟨y, rfl, HEN.out.1, H1.out.2.2.1, HEN.out.2.1⟩
end Go.Proofs.YtklandpagieapaaDoor

namespace Go.Proofs.YtklandpagieapaaDoor
open Go.ChangeShapes Go.WideShapes Go.ChangeAt Go.RowKit Go.Sort
set_option linter.unusedVariables false
set_option linter.unusedSimpArgs false

set_option maxRecDepth 100000 in
theorem few_any (t : Ty) (w : World) (hI : t.In w) : Calls Tryd.prog 5 #[.agg t.d.arr] w fun e w' => (∃ v : Int, e = .returned (.int .i64 v)) ∧ Below w.heap.size w w' := by
  have hb1 : Below w.heap.size w (w.alloc (.cells t.d.arr 25)) := (Below.refl _ _).alloc (Nat.le_refl _) _
  have HC := Lib.hid (count_any w t hI 5000 _ hb1)
  have HB1 := Lib.hid hb1
  clear hb1
  clear hI
  go_enter Tryd.func5, Tryd.ntmps5
  go_wp2_with fail
  refine HC.out.mono ?_
  rintro e w' ⟨⟨v, rfl⟩, hb⟩
  have HB := Lib.hid hb
  clear hb
  go_wp2_with fail
  go_returns
  exact ⟨⟨v, rfl⟩, below_then HB1.out HB.out⟩
end Go.Proofs.YtklandpagieapaaDoor

namespace Go.Proofs.YtklandpagieapaaDoor
open Go.ChangeShapes Go.WideShapes Go.ChangeAt Go.RowKit Go.Sort Go.Maps
set_option linter.unusedVariables false
set_option linter.unusedSimpArgs false

mutual
theorem subT_eqv (F : Int → Option Lf) : ∀ (x y : Ty), x.eqv y → (subT F x).eqv (subT F y)
  | .mk d l, .mk e m, h => by
    unfold Ty.eqv at h
    unfold subT
    rw [h.1, h.2.1]
    split
    · exact Ty.eqv_refl _
    · exact ⟨h.1, h.2.1, h.2.2.1, h.2.2.2.1, subL_eqv F l m h.2.2.2.2⟩
theorem subL_eqv (F : Int → Option Lf) : ∀ (l m : List Ty), tyL l m → tyL (subL F l) (subL F m)
  | [], [], _ => trivial
  | x :: l, y :: m, h => by
    unfold tyL at h
    exact ⟨subT_eqv F x y h.1, subL_eqv F l m h.2⟩
  | [], _ :: _, h => by simp [tyL] at h
  | _ :: _, [], h => by simp [tyL] at h
end
mutual
theorem eqv_trans : ∀ (x y z : Ty), x.eqv y → y.eqv z → x.eqv z
  | .mk d l, .mk e m, .mk f n, h, k => by
    unfold Ty.eqv at h k ⊢
    exact ⟨h.1.trans k.1, h.2.1.trans k.2.1, h.2.2.1.trans k.2.2.1, h.2.2.2.1.trans k.2.2.2.1, tyL_trans l m n h.2.2.2.2 k.2.2.2.2⟩
theorem tyL_trans : ∀ (l m n : List Ty), tyL l m → tyL m n → tyL l n
  | [], [], [], _, _ => trivial
  | x :: l, y :: m, z :: n, h, k => by
    unfold tyL at h k ⊢
    exact ⟨eqv_trans x y z h.1 k.1, tyL_trans l m n h.2 k.2⟩
  | [], _ :: _, _, h, _ => by simp [tyL] at h
  | _ :: _, [], _, h, _ => by simp [tyL] at h
  | [], [], _ :: _, _, h => by simp [tyL] at h
  | _ :: _, _ :: _, [], _, h => by simp [tyL] at h
end
mutual
theorem nr_eqv : ∀ (x y : Ty), x.eqv y → y.nr → x.nr
  | .mk d l, .mk e m, h, k => by
    unfold Ty.eqv at h
    unfold Ty.nr at k ⊢
    rw [h.1]
    exact ⟨k.1, nrL_eqv l m h.2.2.2.2 k.2⟩
theorem nrL_eqv : ∀ (l m : List Ty), tyL l m → nrL m → nrL l
  | [], [], _, _ => trivial
  | x :: l, y :: m, h, k => by
    unfold tyL at h
    unfold nrL at k ⊢
    exact ⟨nr_eqv x y h.1 k.1, nrL_eqv l m h.2 k.2⟩
  | [], _ :: _, h, _ => by simp [tyL] at h
  | _ :: _, [], h, _ => by simp [tyL] at h
end

def ty7 : Ty := .mk ⟨7, 7, none, 0, 0, none, 0, 0, [], -1⟩ []
def lf1 : Lf := ⟨1, 0, -1, none, 0, none, 0⟩
/-- The example's type; what it comes to. -/
def exA : Ty := .mk ⟨3, 0, none, 2, 2, none, 0, 0, [], -1⟩ [ty7, ty7]
def exB : Ty := .mk ⟨3, 0, none, 2, 2, none, 0, 0, [], -1⟩ [lf1.ty, lf1.ty]
def ex7 (n : Int) : Option Lf := if n = 7 then some lf1 else none
theorem leaf_ln {d : TyD} (hp : d.pn = 0) (hl : d.ln = 0) (hb : d.labels = []) : (Ty.mk d []).Ln := .mk d [] hp.symm (by rw [hl, hb]; rfl) (fun x hx => by cases hx)
theorem exA_ln : exA.Ln := .mk _ _ rfl rfl (fun x hx => by
  simp only [List.mem_cons, List.not_mem_nil, or_false] at hx
  rcases hx with rfl | rfl <;> exact leaf_ln rfl rfl rfl)
theorem exB_ln : exB.Ln := .mk _ _ rfl rfl (fun x hx => by
  simp only [List.mem_cons, List.not_mem_nil, or_false] at hx
  rcases hx with rfl | rfl <;> exact leaf_ln rfl rfl rfl)
theorem exA_rg : exA.Rg := .mk _ _ (by decide) (by decide) (fun x hx => by
  simp only [List.mem_cons, List.not_mem_nil, or_false] at hx
  rcases hx with rfl | rfl <;> exact .mk _ _ (by decide) (by decide) (fun x hx => by cases hx))
theorem exB_rg : exB.Rg := .mk _ _ (by decide) (by decide) (fun x hx => by
  simp only [List.mem_cons, List.not_mem_nil, or_false] at hx
  rcases hx with rfl | rfl <;> exact .mk _ _ (by decide) (by decide) (fun x hx => by cases hx))
theorem exA_nr : exA.nr := by simp [exA, ty7, Ty.nr, nrL]
theorem sub_exA : (subT ex7 exA).eqv exB := by
  simp [exA, exB, ty7, subT, subL, ex7, lf1, Lf.ty, Lf.d, Ty.eqv, tyL]
theorem exA_text : exA.text = [39, 48, 32, 45, 62, 32, 39, 48] := by decide +kernel
theorem exB_text : exB.text = [105, 110, 116, 32, 45, 62, 32, 105, 110, 116] := by decide +kernel
theorem exA_may : (mayF exA 0).isSome = true := by decide +kernel
theorem exB_may : (mayF exB 0).isSome = true := by decide +kernel
theorem zero_may : (mayF Lf.zero.ty 0).isSome = false := by decide +kernel
theorem okF7 : OkF ex7 := by
  intro n x h
  unfold ex7 at h
  split at h
  · cases h
    exact ⟨by decide, by decide, by decide⟩
  · cases h
theorem lm7 {w : World} {bm : Nat} (h : OM w bm (0 + 1) ((DataW.map [] : DataW Lf).put (.int .i64 7) (.held lf1))) : LM ex7 1 w (.map (some bm)) := by
  have hk : WideAt.IsKeyLit (.int .i64 7) := lawInt.key (keyOf_int_mk Tryd.underlying3 (by decide))
  refine .own bm (0 + 1) _ (by omega) h ⟨fun n hn => ?_, fun n hn x hx zd => ?_, ?_⟩
  · unfold ex7
    by_cases e : n = 7
    · subst e
      rw [has_put_same isMap_empty hk]
      rfl
    · rw [has_put_other (by intro h'; injection h' with _ h'; exact e h'), if_neg e]
      rfl
  · unfold ex7 at hx
    split at hx
    · rename_i e
      subst e
      cases hx
      exact atKey_put_same isMap_empty hk _ _
    · cases hx
  · rw [size_put tidy_empty]
    rfl
theorem bstr_lit (l : Str) : bstr l = ⟨l.toArray⟩ := rfl

set_option maxRecDepth 100000 in
set_option maxHeartbeats 4000000 in
theorem up_any (w : World) (hT : Tab w) : Calls Tryd.prog 4 #[] w fun e w' => e = .returned (.bool true) ∧ Below w.heap.size w w' := by
  have HT := Lib.hid hT
  clear hT
  have hmm := @run_makeMap Tryd.prog
  go_enter Tryd.func4, Tryd.ntmps4
  go_wp2_with fail
  refine (typVar_any 7 w).mono ?_
  rintro e w1 ⟨rfl, hb1⟩
  have H1 := Lib.hid hb1
  clear hb1
  go_wp2_with fail
  refine (typVar_any 7 w1).mono ?_
  rintro e w2 ⟨rfl, hb2⟩
  have H2 := Lib.hid (below_then H1.out hb2)
  clear hb2
  go_wp2_with fail
  refine (typFn_any ty7 ty7 w2 (Lf.inn ⟨7, 7, -1, none, 0, none, 0⟩ w2 (by decide) (by decide)) (Lf.inn ⟨7, 7, -1, none, 0, none, 0⟩ w2 (by decide) (by decide))).mono ?_
  rintro e w3 ⟨y, rfl, i3, e3, hb3⟩
  have H3 := Lib.hid (And.intro i3 (And.intro (show y.eqv exA from eqv_trans _ _ _ e3 ⟨rfl, rfl, rfl, rfl, Ty.eqv_refl _, Ty.eqv_refl _, trivial⟩) (below_then H2.out hb3)))
  clear i3 e3 hb3
  have hb4 : Below w3.heap.size w3 (w3.alloc (.cells #[.int .i64 y.d.kind, .int .i64 y.d.n, .slice y.d.pA y.d.pn y.d.pc, .slice y.d.lA y.d.ln y.d.lc, .int .i64 y.d.tail] 25)) := (Below.refl _ _).alloc (Nat.le_refl _) _
  have hmade := World.ownsMap_made (H := Lf) (w3.alloc (.cells #[.int .i64 y.d.kind, .int .i64 y.d.n, .slice y.d.pA y.d.pn y.d.pc, .slice y.d.lA y.d.ln y.d.lc, .int .i64 y.d.tail] 25)) Tryd.prog 3 leafR
  rw [World.size_alloc] at hmade
  obtain ⟨w5, hrun5, hown5, hgr5⟩ := World.ownsMap.update hmade lawInt Tryd.underlying36 (by unfold maxLen; omega) (keyOf_int_mk (P := Tryd.prog) Tryd.underlying3 (show (Lit.int .i64 7).wf = true by decide)) (leafR_mk lf1)
  have hrun : (Instr.mapUpdate 36 (.map (some (w3.heap.size + 1))) (.int .i64 7) (.agg #[.int .i64 1, .int .i64 0, .slice none 0 0, .slice none 0 0, .int .i64 (-1)])).run Tryd.prog ((w3.alloc (.cells #[.int .i64 y.d.kind, .int .i64 y.d.n, .slice y.d.pA y.d.pn y.d.pc, .slice y.d.lA y.d.ln y.d.lc, .int .i64 y.d.tail] 25)).alloc (.map #[] 0)) = .ok () w5 := hrun5
  have hb5 : Below w3.heap.size w3 w5 := (hb4.alloc hb4.size _).grown hgr5 (by simp; omega) (fun q hq => by cases hq; omega)
  have HLM := Lib.hid (lm7 hown5)
  have hbx : y.d.At (w3.alloc (.cells #[.int .i64 y.d.kind, .int .i64 y.d.n, .slice y.d.pA y.d.pn y.d.pc, .slice y.d.lA y.d.ln y.d.lc, .int .i64 y.d.tail] 25)) w3.heap.size 0 := box_at w3 y.d
  have hbx5 : w5.heap[w3.heap.size]? = some (.cells #[.int .i64 y.d.kind, .int .i64 y.d.n, .slice y.d.pA y.d.pn y.d.pc, .slice y.d.lA y.d.ln y.d.lc, .int .i64 y.d.tail] 25) := by
    rw [hgr5.block w3.heap.size (by simp; omega) (by intro h'; injection h' with h'; omega)]
    exact (Below.heap_alloc _ _ _ (by simp)).trans (heap_alloc_new w3 _)
  have H5 := Lib.hid (And.intro hbx5 hb5)
  have HIN := Lib.hid (H3.out.1.lower hb5)
  have HEV := Lib.hid H3.out.2.1
  have HNR := Lib.hid (nr_eqv _ _ H3.out.2.1 exA_nr)
  have HRG := Lib.hid (rg_eqvM _ _ H3.out.2.1 exA_rg)
  have HMY := Lib.hid (show (mayF y 0).isSome = true by rw [mayF_eqv H3.out.1.ln exA_ln H3.out.2.1 0]; exact exA_may)
  have HTX := Lib.hid (show y.text = [39, 48, 32, 45, 62, 32, 39, 48] by rw [text_eqv H3.out.2.1]; exact exA_text)
  have HNN := Lib.hid (show y.nodes ≤ 4000000 ∧ y.wt ≤ CAP by rw [nodes_eqv _ _ H3.out.2.1, wt_eqv _ _ H3.out.2.1]; decide +kernel)
  clear hb4 hmade hrun5 hown5 hgr5 hb5 hbx hbx5
  go_wp2_with fail
  refine (put_any okF7 (fun n x h => by cases h) (fun n x h => by cases h) y w5 HIN.out HNR.out HRG.out HMY.out HLM.out (LM.none (F := fun _ => none) (fun _ => rfl) rfl)).mono ?_
  rintro e w6 ⟨z, rfl, i6, e6, hb6⟩
  have H6 := Lib.hid (And.intro i6 (And.intro (show z.eqv exB from eqv_trans _ _ _ e6 (eqv_trans _ _ _ (subT_eqv ex7 _ _ HEV.out) sub_exA)) hb6))
  clear i6 e6 hb6 hrun
  have hb7 : Below w6.heap.size w6 (w6.alloc (.cells #[.int .i64 z.d.kind, .int .i64 z.d.n, .slice z.d.pA z.d.pn z.d.pc, .slice z.d.lA z.d.ln z.d.lc, .int .i64 z.d.tail] 25)) := (Below.refl _ _).alloc (Nat.le_refl _) _
  have HBZ := Lib.hid (heap_alloc_new w6 (.cells #[.int .i64 z.d.kind, .int .i64 z.d.n, .slice z.d.pA z.d.pn z.d.pc, .slice z.d.lA z.d.ln z.d.lc, .int .i64 z.d.tail] 25))
  have H7 := Lib.hid (below_then H6.out.2.2 hb7)
  have HZ := Lib.hid (And.intro (H6.out.1.lower hb7) H6.out.2.1)
  have HMZ := Lib.hid (show (mayF z 0).isSome = true by rw [mayF_eqv H6.out.1.ln exB_ln H6.out.2.1 0]; exact exB_may)
  have HTZ := Lib.hid (show z.text = [105, 110, 116, 32, 45, 62, 32, 105, 110, 116] by rw [text_eqv H6.out.2.1]; exact exB_text)
  have HRZ := Lib.hid (rg_eqvM _ _ H6.out.2.1 exB_rg)
  have HNZ := Lib.hid (show z.nodes ≤ 4000000 ∧ z.wt ≤ CAP by rw [nodes_eqv _ _ H6.out.2.1, wt_eqv _ _ H6.out.2.1]; decide +kernel)
  obtain ⟨t0, t1, t2, t3, t4⟩ := cells5 ((H7.out.block w3.heap.size (lt_of_heap H5.out.1)).trans H5.out.1)
  obtain ⟨s0, s1, s2, s3, s4⟩ := cells5 HBZ.out
  have HG6 := Lib.hid (And.intro (lt_of_heap H5.out.1) (show w3.heap.size < w6.heap.size from Nat.lt_of_lt_of_le (lt_of_heap H5.out.1) H6.out.2.2.size))
  clear hb7
  go_wp2_with fail
  generalize (w6.alloc (.cells #[.int .i64 z.d.kind, .int .i64 z.d.n, .slice z.d.pA z.d.pn z.d.pc, .slice z.d.lA z.d.ln z.d.lc, .int .i64 z.d.tail] 25)) = w7 at *
  have HB7 := Lib.hid (below_then (below_then H3.out.2.2 H5.out.2) H7.out)
  refine (typText_any y w7 (tab_below HT.out HB7.out) (HIN.out.lower H7.out) HRG.out HNN.out.1 HNN.out.2).mono ?_
  rintro e w8 ⟨rfl, hb8⟩
  have H8 := Lib.hid hb8
  rw [HMY.out, if_pos rfl, HTX.out, bstr_lit]
  clear hb8 t0 t1 t2 t3 t4 s0 s1 s2 s3 s4
  have HT3 := Lib.hid ((H7.out.block w3.heap.size HG6.out.1).trans H5.out.1)
  obtain ⟨t0, t1, t2, t3, t4⟩ := cells5 ((H8.out.block w3.heap.size (lt_of_heap HT3.out)).trans HT3.out)
  go_wp2_with fail
  have HMM := Lib.hid (may_any y w8 (HIN.out.lower (below_then H7.out H8.out)))
  rw [HMY.out] at HMM
  refine HMM.out.mono ?_
  rintro e w9 ⟨rfl, hb9⟩
  have H9 := Lib.hid (below_then H8.out hb9)
  clear hb9 t0 t1 t2 t3 t4 HMM
  have HM0 := Lib.hid (may_any Lf.zero.ty w9 (Lf.zero.inn w9 (by decide) (by decide)))
  rw [zero_may] at HM0
  go_wp2_with fail
  refine HM0.out.mono ?_
  rintro e w10 ⟨rfl, hb10⟩
  have H10 := Lib.hid (below_then H9.out hb10)
  clear hb10 HM0
  obtain ⟨s0, s1, s2, s3, s4⟩ := cells5 ((H10.out.block w6.heap.size (lt_of_heap HBZ.out)).trans HBZ.out)
  go_wp2_with fail
  refine (typText_any z w10 (tab_below HT.out (below_then HB7.out H10.out)) (HZ.out.1.lower H10.out) HRZ.out HNZ.out.1 HNZ.out.2).mono ?_
  rintro e w11 ⟨rfl, hb11⟩
  have H11 := Lib.hid (below_then HB7.out (below_then H10.out hb11))
  rw [HMZ.out, if_pos rfl, HTZ.out, bstr_lit]
  clear hb11 s0 s1 s2 s3 s4
  go_wp2_with fail
  go_returns
  exact ⟨rfl, H11.out⟩
end Go.Proofs.YtklandpagieapaaDoor

namespace Go.Proofs.YtklandpagieapaaDoor
open Go.ChangeShapes Go.WideShapes Go.ChangeAt Go.RowKit Go.Sort Go.Maps
set_option linter.unusedVariables false
set_option linter.unusedSimpArgs false
attribute [local irreducible] Go.wpQuiet

/-- A contract, wherever the memory has grown to. -/
theorem quiet_of {f : FuncId} {args : Array Value} {w0 : World} {v : Value} (h : ∀ W : World, Below w0.heap.size w0 W → Calls Tryd.prog f args W fun e w' => e = .returned v ∧ Below W.heap.size W w') : ∀ dd os, Calls Tryd.prog f args (grow (redrawn w0 dd) os) fun e w'' => e = .returned v ∧ ∃ p : Regrown, w'' = grow (redrawn w0 p.d) p.os :=
  fun dd os => Calls.regrown_of ((h (grow (redrawn w0 dd) os) (below_regrown w0 dd os)).mono fun e w' hh => ⟨hh.1, hh.2⟩)
def dropSeqT : Nat → Code → Code
  | 0, c => c
  | n + 1, .seq _ b => dropSeqT n b
  | _ + 1, c => c
def headSeqT : Code → Code
  | .seq a _ => a
  | c => c
/-- The text from its n-th statement on; that statement. -/
noncomputable def tlT (n : Nat) : Code := dropSeqT n (Tryd.f3.body.getD .skip)
noncomputable def haT (n : Nat) : Code := headSeqT (tlT n)

/-- What is known ahead of the maps: the type, its copy, its variables. -/
structure NmC (W : World) (t y : Ty) (ga gs : Nat) (A1 A2 : Option Addr) (T R : List Int) (w : World) : Prop where
  b : Below W.heap.size W w
  tab : Tab w
  inn : t.In w
  at_ : t.d.At w ga 0
  yin : y.In w
  yat : y.d.At w gs 0
  r1 : Rd w 1 A1 T.length (i64s T)
  r2 : Rd w 1 A2 R.length (i64s R)
theorem NmC.below {W : World} {t y : Ty} {ga gs : Nat} {A1 A2 : Option Addr} {T R : List Int} {w w' : World} (h : NmC W t y ga gs A1 A2 T R w) (hb : Below w.heap.size w w') : NmC W t y ga gs A1 A2 T R w' :=
  ⟨below_then h.b hb, tab_below h.tab hb, h.inn.lower hb, h.at_.lower hb, h.yin.lower hb, h.yat.lower hb, h.r1.below hb, h.r2.below hb⟩
/-- What is known of the type and of its numbers. -/
structure NmS (t y : Ty) (T R : List Int) (far : Int) : Prop where
  eT : T = (meetT t [] []).1
  eR : R = (meetT t [] []).2
  rg : t.Rg
  may : (mayF t 0).isSome = true
  wt : t.wt ≤ CAP
  yq : y.eqv t
  f1 : 1 ≤ far
  f2 : far ≤ 1000000
  n1 : T.Nodup
  n2 : R.Nodup
  p1 : ∀ n ∈ T, 0 ≤ n
  p2 : ∀ n ∈ R, 0 ≤ n
  l1 : T.length ≤ 4000000
  l2 : R.length ≤ 4000000
theorem NmS.fb {t y : Ty} {T R : List Int} {far : Int} (h : NmS t y T R far) : t.fb := by
  cases hm : mayF t 0 with
  | none => have := h.may; rw [hm] at this; cases this
  | some j => exact mayF_fb t 0 j hm
theorem NmS.nodes {t y : Ty} {T R : List Int} {far : Int} (h : NmS t y T R far) : t.nodes ≤ 4000 := by
  have hn := h.may
  rw [mayF_nodes] at hn
  split at hn
  · rename_i h; omega
  · cases hn
/-- What a variable put in for each comes to. -/
theorem NmS.sub {t y : Ty} {T R : List Int} {far : Int} {w : World} (h : NmS t y T R far) (hI : t.In w) : (subR (vF far T) (rF far R) t).eqv (renT (fun n => n + far) (fun n => n + far) t) :=
  subR_ren far T R t h.fb (by rw [h.eT, h.eR]; exact meetT_vin t [] []) hI.ln
theorem NmS.textRen {t y : Ty} {T R : List Int} {far : Int} {w : World} (h : NmS t y T R far) (hI : t.In w) : (renT (fun n => n + far) (fun n => n + far) t).text = t.text := by
  have h1 := h.f1
  exact text_ren (g := fun n => n + far) (h := fun n => n + far) (fun a b e => by omega) (fun a b e => by omega) (fun a h => by omega) (kd7_of hI.ln h.fb)
theorem NmS.mayRen {t y : Ty} {T R : List Int} {far : Int} (h : NmS t y T R far) : (mayF (renT (fun n => n + far) (fun n => n + far) t) 0).isSome = true := by
  have h1 := h.f1
  exact may_ren (fun a h => by omega) (fun a h => by omega) h.may
theorem NmS.rgRen {t y : Ty} {T R : List Int} {far : Int} (h : NmS t y T R far) (hT : ∀ n ∈ T, n ≤ 1000000) (hR : ∀ n ∈ R, n ≤ 1000000) : (renT (fun n => n + far) (fun n => n + far) t).Rg := by
  have h1 := h.f1
  have h2 := h.f2
  exact rg_ren (T := T) (R := R) (fun n hn => wf_small (by have := h.p1 n hn; omega) (by have := hT n hn; omega)) (fun n hn => wf_small (by have := h.p2 n hn; omega) (by have := hR n hn; omega)) h.rg (by rw [h.eT, h.eR]; exact meetT_vin t [] [])

set_option maxRecDepth 100000 in
set_option maxHeartbeats 4000000 in
theorem names_end {u0 u3 u4 u8 u9 u12 u13 u14 u15 u16 u17 u18 u19 u20 u21 u22 u23 u24 u25 u26 u27 u28 u29 u30 u31 u32 u33 u34 u35 u36 u37 u38 u39 u40 u41 u42 u43 u44 u45 u46 u47 u48 u49 u50 u51 u52 u53 u54 u55 u56 u57 u58 u59 u60 u61 u62 u63 u64 u65 u66 u67 u68 u69 u70 u71 u72 u73 u74 u75 u76 u77 u78 u79 u80 u81 u82 u83 u84 u85 u86 u87 u88 u89 u90 u91 u92 u93 u94 u95 u96 u97 u98 u99 u100 u101 u102 u103 u104 u105 u106 u107 u108 u109 u110 u111 u112 u113 u114 u115 u116 u117 u118 u119 : Value} (W : World) (t y : Ty) (ga gs bx bY : Nat) (A1 A2 : Option Addr) (T R : List Int) (far : Int) (w : World) (hC : NmC W t y ga gs A1 A2 T R w) (hS : NmS t y T R far) (hT : ∀ n ∈ T, n ≤ 1000000) (hR : ∀ n ∈ R, n ≤ 1000000)
    (hM1 : LM (vF far T) T.length w (.map (some bx))) (hM2 : LM (rF far R) R.length w (.map (some bY)))
    {K : Act → World → Prop} (hK : ∀ a w, Code.wp Tryd.prog (tlT 11) (bodyPost Tryd.prog Tryd.f3 fun e w' => e = .returned (.bool true) ∧ Below W.heap.size W w') a w → K a w) :
    Code.wp Tryd.prog (haT 10) (Exit.then K (bodyPost Tryd.prog Tryd.f3 fun e w' => e = .returned (.bool true) ∧ Below W.heap.size W w')) ⟨#[u0, .int .i64 far, .pointer (some ⟨ga, 0, none⟩), u3, u4, .bool true, .pointer (some ⟨gs, 0, none⟩), .nilIface, u8, u9, .map (some bx), .map (some bY), u12, u13, u14, u15, u16, u17, u18, u19, u20, u21, u22, u23, u24, u25, u26, u27, u28, u29, u30, u31, u32, u33, u34, u35, u36, u37, u38, u39, u40, u41, u42, u43, u44, u45, u46, u47, u48, u49, u50, u51, u52, u53, u54, u55, u56, u57, u58, u59, u60, u61, u62, u63, u64, u65, u66, u67, u68, u69, u70, u71, u72, u73, u74, u75, u76, u77, u78, u79, u80, u81, u82, u83, u84, u85, u86, u87, u88, u89, u90, u91, u92, u93, u94, u95, u96, u97, u98, u99, u100, u101, u102, u103, u104, u105, u106, u107, u108, u109, u110, u111, u112, u113, u114, u115, u116, u117, u118, u119], []⟩ w := by
  have HC := Lib.hid hC
  have HS := Lib.hid hS
  have HB := Lib.hid (And.intro hT hR)
  have hf0 : 0 ≤ far := by have := hS.f1; omega
  have HP := Lib.hid (putR_any (okF_vF hf0 hS.p1) (okF_rF hf0 hS.p2) rF_4 t w hC.inn hS.rg hS.may hM1 hM2)
  have HSB := Lib.hid (hS.sub hC.inn)
  clear hC hS hT hR hM1 hM2 hf0
  conv at hK => enter [a, w, 1, 2]; whnf
  conv => arg 2; whnf
  obtain ⟨c0, c1, c2, c3, c4⟩ := HC.out.at_
  go_wp2_with fail
  refine HP.out.mono ?_
  rintro e w2 ⟨z, rfl, i2, e2, hb2⟩
  have hb3 : Below w2.heap.size w2 (w2.alloc (.cells #[.int .i64 z.d.kind, .int .i64 z.d.n, .slice z.d.pA z.d.pn z.d.pc, .slice z.d.lA z.d.ln z.d.lc, .int .i64 z.d.tail] 25)) := (Below.refl _ _).alloc (Nat.le_refl _) _
  have HBZ := Lib.hid (show z.d.At (w2.alloc (.cells #[.int .i64 z.d.kind, .int .i64 z.d.n, .slice z.d.pA z.d.pn z.d.pc, .slice z.d.lA z.d.ln z.d.lc, .int .i64 z.d.tail] 25)) w2.heap.size 0 from box_at w2 z.d)
  have HZ := Lib.hid (And.intro (i2.lower hb3) (eqv_trans _ _ _ e2 HSB.out))
  have H3 := Lib.hid (HC.out.below (below_then hb2 hb3))
  clear i2 e2 hb2 hb3 c0 c1 c2 c3 c4
  go_wp2_with fail
  generalize (w2.alloc (.cells #[.int .i64 z.d.kind, .int .i64 z.d.n, .slice z.d.pA z.d.pn z.d.pc, .slice z.d.lA z.d.ln z.d.lc, .int .i64 z.d.tail] 25)) = w3 at *
  obtain ⟨gz, hgz⟩ : ∃ g, w2.heap.size = g := ⟨_, rfl⟩
  rw [hgz] at HBZ ⊢
  clear hgz
  have hzl := HZ.out.1.ln
  have htl := H3.out.inn.ln
  have HMZ := Lib.hid (show (mayF z 0).isSome = true by rw [mayF_eqv hzl (ln_ren _ _ htl) HZ.out.2 0]; exact HS.out.mayRen)
  have HTX := Lib.hid (show z.text = t.text by rw [text_eqv HZ.out.2]; exact HS.out.textRen H3.out.inn)
  have HRG := Lib.hid (rg_eqvM _ _ HZ.out.2 (HS.out.rgRen HB.out.1 HB.out.2))
  have HNZ := Lib.hid (show z.nodes ≤ 4000000 by rw [nodes_eqv _ _ HZ.out.2, nodes_ren]; have := HS.out.nodes; omega)
  have HWZ := Lib.hid (show z.wt ≤ CAP by rw [wt_eqv _ _ HZ.out.2, wt_ren]; exact HS.out.wt)
  clear hzl htl
  have CS := quiet_of (w0 := w3) (fun V h => typSame_any y t V (H3.out.yin.lower h) (H3.out.inn.lower h))
  rw [tyB_true HS.out.yq] at CS
  have CZ := quiet_of (w0 := w3) (fun V h => typText_any z V (tab_below H3.out.tab h) (HZ.out.1.lower h) HRG.out HNZ.out HWZ.out)
  rw [HMZ.out, if_pos rfl, HTX.out] at CZ
  have CT := quiet_of (w0 := w3) (fun V h => typText_any t V (tab_below H3.out.tab h) (H3.out.inn.lower h) HS.out.rg (by have := HS.out.nodes; omega) HS.out.wt)
  rw [HS.out.may, if_pos rfl] at CT
  obtain ⟨x, hx⟩ : ∃ x, t.text = x := ⟨_, rfl⟩
  rw [hx] at CZ CT
  clear hx
  have q5 : ((bstr x).toList == (bstr x).toList) = true := by simp
  have HCS := Lib.hid CS
  have HCZ := Lib.hid CZ
  have HCT := Lib.hid CT
  clear CS CZ CT
  obtain ⟨c0, c1, c2, c3, c4⟩ := H3.out.at_
  obtain ⟨d0, d1, d2, d3, d4⟩ := H3.out.yat
  obtain ⟨f0, f1, f2, f3, f4⟩ := HBZ.out
  have kc0 := cell_regrown c0
  have kc1 := cell_regrown c1
  have kc2 := cell_regrown c2
  have kc3 := cell_regrown c3
  have kc4 := cell_regrown c4
  have kd0 := cell_regrown d0
  have kd1 := cell_regrown d1
  have kd2 := cell_regrown d2
  have kd3 := cell_regrown d3
  have kd4 := cell_regrown d4
  have kf0 := cell_regrown f0
  have kf1 := cell_regrown f1
  have kf2 := cell_regrown f2
  have kf3 := cell_regrown f3
  have kf4 := cell_regrown f4
  go_wp2_with fail
  refine wp_region_quiet_below (by kernel_rfl) (by kernel_rfl) ?_
  repeat (quiet_step (first
    | (go_at_call 11; with_reducible exact HCS.out _ _)
    | (go_at_call 12; with_reducible exact HCZ.out _ _)
    | (go_at_call 12; with_reducible exact HCT.out _ _)))
  refine wpQuiet_nil ?_
  intro _ hw
  obtain ⟨⟨dq, osq⟩, hw''⟩ := hw
  subst hw''
  have H8 := Lib.hid (below_regrown w3 dq osq)
  clear kc0 kc1 kc2 kc3 kc4 kd0 kd1 kd2 kd3 kd4 kf0 kf1 kf2 kf3 kf4 c0 c1 c2 c3 c4 d0 d1 d2 d3 d4 f0 f1 f2 f3 f4 HCS HCZ HCT
  go_wp2_with fail
  go_returns
  exact ⟨rfl, below_then H3.out.b H8.out⟩

/-- The maps under way, over the world ahead of them: that of types with its first k; that of rows. -/
structure NmM (w5 : World) (bx bY : Nat) (far : Int) (T R : List Int) (k j : Nat) (wr : World) : Prop where
  b : Below w5.heap.size w5 wr
  m1 : ∃ D, OM wr bx k D ∧ MapIs (inF (mkV far) (T.take k)) k D
  m2 : ∃ D, OM wr bY j D ∧ MapIs (inF (mkR far) (R.take j)) j D
  s1 : ∀ n ∈ T.take k, n ≤ 1000000
  s2 : ∀ n ∈ R.take j, n ≤ 1000000
theorem take_mem {l : List Int} {k : Nat} (hk : k < l.length) (h : ∀ n ∈ l.take k, n ≤ 1000000) (hx : l[k] ≤ 1000000) : ∀ n ∈ l.take (k + 1), n ≤ 1000000 := by
  intro n hn
  rw [List.take_succ_eq_append_getElem hk] at hn
  rcases List.mem_append.1 hn with q | q
  · exact h n q
  · rw [List.mem_singleton] at q; rw [q]; exact hx
theorem take_not {l : List Int} {k : Nat} (hk : k < l.length) (hd : l.Nodup) : l[k] ∉ l.take k := by
  intro h
  rw [List.mem_take_iff_getElem] at h
  obtain ⟨i, hi, e⟩ := h
  have hi' : i < k := by omega
  exact List.pairwise_iff_getElem.1 hd i k (by omega) hk hi' e
end Go.Proofs.YtklandpagieapaaDoor

namespace Go.Proofs.YtklandpagieapaaDoor
open Go.ChangeShapes Go.WideShapes Go.ChangeAt Go.RowKit Go.Sort Go.Maps
set_option linter.unusedVariables false
set_option linter.unusedSimpArgs false
attribute [local irreducible] Go.wpQuiet

/-- The n-th statement's first part; what follows in it. -/
noncomputable def hcT (n : Nat) : Code := headSeqT (headSeqT (tlT n))
noncomputable def hbT (n : Nat) : Code := dropSeqT 1 (headSeqT (tlT n))
theorem Rd.intAt {w : World} {b o n : Nat} {l : List Int} (h : Rd w 1 (some ⟨b, o, none⟩) n (i64s l)) {k : Nat} (hk : k < l.length) : w.cell? ⟨b, o + k, none⟩ = some (.int .i64 l[k]) := by
  obtain ⟨b', o', e, _, hc⟩ := h.int hk
  cases e
  exact hc k hk
theorem NmM.step2 {w5 : World} {bx bY : Nat} {far : Int} {T R : List Int} {k j : Nat} {wr w4 w6 : World} {D : DataW Lf} (h : NmM w5 bx bY far T R k j wr) (hj : j < R.length) {x : Int} (hxx : R[j] = x) (hd : R.Nodup) (hwf : (Lit.int .i64 x).wf = true) (hle : x ≤ 1000000) (hne : bx ≠ bY) (hY : w5.heap.size ≤ bY) (hb : Below wr.heap.size wr w4) (ho : OM wr bY j D) (hm : MapIs (inF (mkR far) (R.take j)) j D) (hown : OM w6 bY (j + 1) (D.put (.int .i64 x) (.held (mkR far x)))) (hgr : w4.grownBy w6 (some bY)) : NmM w5 bx bY far T R k (j + 1) w6 := by
  subst hxx
  obtain ⟨D1, h1, h2⟩ := h.m1
  have hb5 := below_then h.b hb
  refine ⟨hb5.grown hgr hb5.size (fun q hq => by cases hq; exact hY), ⟨D1, (h1.below hb).kept hgr (by intro e; injection e with e; exact hne e), h2⟩, ⟨_, hown, ?_⟩, h.s1, take_mem hj h.s2 hle⟩
  rw [List.take_succ_eq_append_getElem hj]
  exact mapIs_step ho hm (take_not hj hd) hwf
theorem NmM.step1 {w5 : World} {bx bY : Nat} {far : Int} {T R : List Int} {k j : Nat} {wr w4 w6 : World} {D : DataW Lf} (h : NmM w5 bx bY far T R k j wr) (hj : k < T.length) {x : Int} (hxx : T[k] = x) (hd : T.Nodup) (hwf : (Lit.int .i64 x).wf = true) (hle : x ≤ 1000000) (hne : bx ≠ bY) (hY : w5.heap.size ≤ bx) (hb : Below wr.heap.size wr w4) (ho : OM wr bx k D) (hm : MapIs (inF (mkV far) (T.take k)) k D) (hown : OM w6 bx (k + 1) (D.put (.int .i64 x) (.held (mkV far x)))) (hgr : w4.grownBy w6 (some bx)) : NmM w5 bx bY far T R (k + 1) j w6 := by
  subst hxx
  obtain ⟨D1, h1, h2⟩ := h.m2
  have hb5 := below_then h.b hb
  refine ⟨hb5.grown hgr hb5.size (fun q hq => by cases hq; exact hY), ⟨_, hown, ?_⟩, ⟨D1, (h1.below hb).kept hgr (by intro e; injection e with e; exact hne e.symm), h2⟩, take_mem hj h.s1 hle, h.s2⟩
  rw [List.take_succ_eq_append_getElem hj]
  exact mapIs_step ho hm (take_not hj hd) hwf

set_option maxRecDepth 100000 in
set_option maxHeartbeats 4000000 in
theorem names_loop2 {u0 u3 u4 u8 u12 u13 u14 u15 u16 u17 u18 u19 u20 u21 u22 u23 u24 u25 u26 u27 u28 u29 u30 u31 u32 u33 u34 u35 u36 u37 u38 u39 u40 u41 u42 u43 u44 u45 u46 u47 u48 u49 u50 u51 u52 u53 u54 u55 u56 u57 u58 u59 u60 u61 u62 u63 u64 u65 u66 u67 u68 u69 u70 u71 u72 u73 u74 u75 u76 u77 u78 u79 u80 u81 u82 u83 u84 u85 u86 u87 u88 u89 u90 u91 u92 u93 u94 u95 u96 u97 u98 u99 u100 u101 u102 u103 u104 u105 u106 u107 u108 u109 u110 u111 u112 u113 u114 u115 u116 u117 u118 u119 : Value} (W w5 : World) (t y : Ty) (ga gs bx bY n c : Nat) (A A1 A2 : Option Addr) (T R : List Int) (far : Int) (w : World) (hC : NmC W t y ga gs A1 A2 T R w5) (hS : NmS t y T R far) (hA : A2 = A) (hn : R.length = n)
    (hx : w5.heap.size ≤ bx) (hy : w5.heap.size ≤ bY) (hne : bx ≠ bY) (hM : NmM w5 bx bY far T R T.length 0 w)
    {K K2 : Act → World → Prop} (hK2 : ∀ a w, Code.wp Tryd.prog (hbT 9) (Exit.then K (bodyPost Tryd.prog Tryd.f3 fun e w' => e = .returned (.bool true) ∧ Below W.heap.size W w')) a w → K2 a w) (hK : ∀ a w, Code.wp Tryd.prog (tlT 10) (bodyPost Tryd.prog Tryd.f3 fun e w' => e = .returned (.bool true) ∧ Below W.heap.size W w') a w → K a w) :
    Code.wp Tryd.prog (hcT 9) (Exit.then K2 (Exit.then K (bodyPost Tryd.prog Tryd.f3 fun e w' => e = .returned (.bool true) ∧ Below W.heap.size W w'))) ⟨#[u0, .int .i64 far, .pointer (some ⟨ga, 0, none⟩), u3, u4, .bool true, .pointer (some ⟨gs, 0, none⟩), .nilIface, u8, .slice A n c, .map (some bx), .map (some bY), u12, u13, u14, u15, u16, u17, u18, u19, u20, u21, u22, u23, u24, u25, u26, u27, u28, u29, u30, u31, u32, u33, u34, u35, u36, u37, u38, u39, u40, u41, u42, u43, u44, u45, u46, u47, u48, u49, u50, u51, u52, u53, u54, u55, u56, u57, u58, u59, u60, u61, u62, u63, u64, u65, u66, u67, u68, u69, u70, u71, u72, u73, u74, u75, u76, u77, u78, u79, u80, u81, u82, u83, u84, u85, u86, u87, u88, u89, u90, u91, u92, u93, u94, u95, u96, u97, u98, u99, u100, u101, u102, u103, u104, u105, u106, u107, u108, u109, u110, u111, u112, u113, u114, u115, u116, u117, u118, u119], []⟩ w := by
  have HC := Lib.hid hC
  have HS := Lib.hid hS
  have HM := Lib.hid hM
  have HB := Lib.hid (And.intro hx (And.intro hy hne))
  have HN := Lib.hid hn
  have HRD := Lib.hid (show ∀ V, Below w5.heap.size w5 V → Rd V 1 A n (i64s R) from fun V h => by rw [← hA, ← hn]; exact hC.r2.below h)
  have hn4 : n ≤ 4000000 := by rw [← hn]; exact hS.l2
  have HN4 := Lib.hid hn4
  clear hC hS hA hn hx hy hne hM hn4
  conv at hK2 => enter [a, w, 1, 2]; whnf
  conv at hK => enter [a, w, 1, 2]; whnf
  conv => arg 2; whnf
  go_wp2_with fail
  go_loopw [13] (fun i wr => ∃ k : Nat, i = .int .i64 k ∧ k ≤ n ∧ NmM w5 bx bY far T R T.length k wr) (fun i _ => n - (intOf i).toNat)
  case atStart => exact ⟨0, rfl, Nat.zero_le _, HM.out⟩
  case round =>
    obtain ⟨k, rfl, hk, hMr⟩ := hrel
    have HR := Lib.hid hMr
    clear hMr
    by_cases hlt : k < n
    · have hkl : k < R.length := by rw [HN.out]; exact hlt
      obtain ⟨b1, o1, rfl, hbb, hcc⟩ := (HRD.out _ HR.out.b).int hkl
      clear hbb hcc
      have HCV := Lib.hid (show ∀ V, Below w5.heap.size w5 V → V.cell? ⟨b1, o1 + k, none⟩ = some (.int .i64 R[k]) from fun V h => (HRD.out V h).intAt hkl)
      have HX0 := Lib.hid (HS.out.p2 _ (List.getElem_mem hkl))
      have HKL := Lib.hid hkl
      obtain ⟨x, hx⟩ : ∃ x, R[k] = x := ⟨_, rfl⟩
      have HXX := Lib.hid hx
      have HC1 := Lib.hid (show ∀ V, Below w5.heap.size w5 V → V.cell? ⟨b1, o1 + k, none⟩ = some (.int .i64 x) from fun V h => by rw [← HXX.out]; exact HCV.out V h)
      have h1 := HC1.out _ HR.out.b
      have hx0 : 0 ≤ x := by rw [← hx]; exact HX0.out
      have hki : (k : Int) < (n : Int) := by omega
      have hk0 : (0 : Int) ≤ (k : Int) := by omega
      have hk4 : (k : Int) ≤ 4000000 := by have := HN4.out; omega
      clear hx HCV HX0
      by_cases hg : 1000000 < x
      · clear hx0
        go_wp2_with fail
        go_returns
        exact ⟨rfl, below_then HC.out.b HR.out.b⟩
      · have hf1 := HS.out.f1
        have hf2 := HS.out.f2
        have hx1 : x ≤ 1000000 := by omega
        have HXL := Lib.hid hx1
        have hwr : IntKind.i64.wrap (x + far) = x + far := by rw [IntKind.wrap_i64]; omega
        have HWF := Lib.hid (wf_small (n := x) (by omega) (by omega))
        obtain ⟨D, ho, hm⟩ := HR.out.m2
        have HO := Lib.hid (And.intro ho hm)
        have HUP : RowKit.Hid (∀ V, Below wr.heap.size wr V → ∃ w6, (Instr.mapUpdate 36 (.map (some bY)) (.int .i64 x) (.agg #[.int .i64 4, .int .i64 0, .slice none 0 0, .slice none 0 0, .int .i64 (x + far)])).run Tryd.prog V = .ok () w6 ∧ OM w6 bY (k + 1) (D.put (.int .i64 x) (.held (mkR far x))) ∧ V.grownBy w6 (some bY)) := Lib.hid (fun V h => (HO.out.1.below h).update lawInt Tryd.underlying36 (by have := HN4.out; unfold maxLen; omega) (keyOf_int_mk Tryd.underlying3 HWF.out) (leafR_mk (mkR far x)))
        clear ho hm
        go_upto_region 21 with fail
        go_region_law (first
          | (go_simp; go_at_call 10; (with_reducible refine (typRow_nil _ _).mono ?_); rintro e w4 ⟨rfl, hb4⟩; have hbv := below_then (below_drew1 wr) hb4; have h4 := HC1.out w4 (below_then HR.out.b hbv); obtain ⟨w6, hrun, hown6, hgr6⟩ := HUP.out w4 hbv; have H6 := Lib.hid (And.intro hbv (And.intro hown6 hgr6)); clear hb4 hbv hown6 hgr6)
          | fail)
        all_goals
          go_wp2_with fail
          go_roundw
          case rel => exact ⟨k + 1, by go_num, hlt, by
            exact HR.out.step2 HKL.out HXX.out HS.out.n2 HWF.out HXL.out HB.out.2.2 HB.out.2.1 H6.out.1 HO.out.1 HO.out.2 H6.out.2.1 H6.out.2.2⟩
          case measure => simp [intOf] <;> omega
    · have hki : ¬ (k : Int) < (n : Int) := by omega
      have ek : k = n := by omega
      subst ek
      have HF := Lib.hid HR.out
      go_upto_region 22 with fail
      obtain ⟨D1, p1, p2⟩ := HF.out.m1
      obtain ⟨D2, p3, p4⟩ := HF.out.m2
      have g1 := HF.out.s1
      have g2 := HF.out.s2
      rw [List.take_length] at p2 g1
      rw [← HN.out, List.take_length] at p4 g2
      exact names_end W t y ga gs bx bY A1 A2 T R far wr (HC.out.below HF.out.b) HS.out g1 g2 (.own bx T.length D1 HS.out.l1 p1 p2) (.own bY R.length D2 HS.out.l2 (by rw [HN.out]; exact p3) (by rw [HN.out] at p4 ⊢; exact p4)) (by assumption)

set_option maxRecDepth 100000 in
set_option maxHeartbeats 4000000 in
theorem names_loop1 {u0 u3 u4 u12 u13 u14 u15 u16 u17 u18 u19 u20 u21 u22 u23 u24 u25 u26 u27 u28 u29 u30 u31 u32 u33 u34 u35 u36 u37 u38 u39 u40 u41 u42 u43 u44 u45 u46 u47 u48 u49 u50 u51 u52 u53 u54 u55 u56 u57 u58 u59 u60 u61 u62 u63 u64 u65 u66 u67 u68 u69 u70 u71 u72 u73 u74 u75 u76 u77 u78 u79 u80 u81 u82 u83 u84 u85 u86 u87 u88 u89 u90 u91 u92 u93 u94 u95 u96 u97 u98 u99 u100 u101 u102 u103 u104 u105 u106 u107 u108 u109 u110 u111 u112 u113 u114 u115 u116 u117 u118 u119 : Value} (W w5 : World) (t y : Ty) (ga gs bx bY n c : Nat) (A A1 A2 : Option Addr) (T R : List Int) (far : Int) (w : World) (hC : NmC W t y ga gs A1 A2 T R w5) (hS : NmS t y T R far) (hA : A1 = A) (hn : T.length = n) (m : Nat) (B : Option Addr) (cB : Nat) (hB : A2 = B) (hm2 : R.length = m)
    (hx : w5.heap.size ≤ bx) (hy : w5.heap.size ≤ bY) (hne : bx ≠ bY) (hM : NmM w5 bx bY far T R 0 0 w)
    {K K2 : Act → World → Prop} (hK2 : ∀ a w, Code.wp Tryd.prog (hbT 8) (Exit.then K (bodyPost Tryd.prog Tryd.f3 fun e w' => e = .returned (.bool true) ∧ Below W.heap.size W w')) a w → K2 a w) (hK : ∀ a w, Code.wp Tryd.prog (tlT 9) (bodyPost Tryd.prog Tryd.f3 fun e w' => e = .returned (.bool true) ∧ Below W.heap.size W w') a w → K a w) :
    Code.wp Tryd.prog (hcT 8) (Exit.then K2 (Exit.then K (bodyPost Tryd.prog Tryd.f3 fun e w' => e = .returned (.bool true) ∧ Below W.heap.size W w'))) ⟨#[u0, .int .i64 far, .pointer (some ⟨ga, 0, none⟩), u3, u4, .bool true, .pointer (some ⟨gs, 0, none⟩), .nilIface, .slice A n c, .slice B m cB, .map (some bx), .map (some bY), u12, u13, u14, u15, u16, u17, u18, u19, u20, u21, u22, u23, u24, u25, u26, u27, u28, u29, u30, u31, u32, u33, u34, u35, u36, u37, u38, u39, u40, u41, u42, u43, u44, u45, u46, u47, u48, u49, u50, u51, u52, u53, u54, u55, u56, u57, u58, u59, u60, u61, u62, u63, u64, u65, u66, u67, u68, u69, u70, u71, u72, u73, u74, u75, u76, u77, u78, u79, u80, u81, u82, u83, u84, u85, u86, u87, u88, u89, u90, u91, u92, u93, u94, u95, u96, u97, u98, u99, u100, u101, u102, u103, u104, u105, u106, u107, u108, u109, u110, u111, u112, u113, u114, u115, u116, u117, u118, u119], []⟩ w := by
  have HC := Lib.hid hC
  have HS := Lib.hid hS
  have HM := Lib.hid hM
  have HB := Lib.hid (And.intro hx (And.intro hy hne))
  have HN := Lib.hid hn
  have HRD := Lib.hid (show ∀ V, Below w5.heap.size w5 V → Rd V 1 A n (i64s T) from fun V h => by rw [← hA, ← hn]; exact hC.r1.below h)
  have hn4 : n ≤ 4000000 := by rw [← hn]; exact hS.l1
  have HN4 := Lib.hid hn4
  have HBB := Lib.hid (And.intro hB hm2)
  clear hB hm2
  clear hC hS hA hn hx hy hne hM hn4
  conv at hK2 => enter [a, w, 1, 2]; whnf
  conv at hK => enter [a, w, 1, 2]; whnf
  conv => arg 2; whnf
  go_wp2_with fail
  go_loopw [12] (fun i wr => ∃ k : Nat, i = .int .i64 k ∧ k ≤ n ∧ NmM w5 bx bY far T R k 0 wr) (fun i _ => n - (intOf i).toNat)
  case atStart => exact ⟨0, rfl, Nat.zero_le _, HM.out⟩
  case round =>
    obtain ⟨k, rfl, hk, hMr⟩ := hrel
    have HR := Lib.hid hMr
    clear hMr
    by_cases hlt : k < n
    · have hkl : k < T.length := by rw [HN.out]; exact hlt
      obtain ⟨b1, o1, rfl, hbb, hcc⟩ := (HRD.out _ HR.out.b).int hkl
      clear hbb hcc
      have HCV := Lib.hid (show ∀ V, Below w5.heap.size w5 V → V.cell? ⟨b1, o1 + k, none⟩ = some (.int .i64 T[k]) from fun V h => (HRD.out V h).intAt hkl)
      have HX0 := Lib.hid (HS.out.p1 _ (List.getElem_mem hkl))
      have HKL := Lib.hid hkl
      obtain ⟨x, hx⟩ : ∃ x, T[k] = x := ⟨_, rfl⟩
      have HXX := Lib.hid hx
      have HC1 := Lib.hid (show ∀ V, Below w5.heap.size w5 V → V.cell? ⟨b1, o1 + k, none⟩ = some (.int .i64 x) from fun V h => by rw [← HXX.out]; exact HCV.out V h)
      have h1 := HC1.out _ HR.out.b
      have hx0 : 0 ≤ x := by rw [← hx]; exact HX0.out
      have hki : (k : Int) < (n : Int) := by omega
      have hk0 : (0 : Int) ≤ (k : Int) := by omega
      have hk4 : (k : Int) ≤ 4000000 := by have := HN4.out; omega
      clear hx HCV HX0
      by_cases hg : 1000000 < x
      · clear hx0
        go_wp2_with fail
        go_returns
        exact ⟨rfl, below_then HC.out.b HR.out.b⟩
      · have hf1 := HS.out.f1
        have hf2 := HS.out.f2
        have hx1 : x ≤ 1000000 := by omega
        have HXL := Lib.hid hx1
        have hwr : IntKind.i64.wrap (x + far) = x + far := by rw [IntKind.wrap_i64]; omega
        have HWF := Lib.hid (wf_small (n := x) (by omega) (by omega))
        obtain ⟨D, ho, hm⟩ := HR.out.m1
        have HO := Lib.hid (And.intro ho hm)
        have HUP : RowKit.Hid (∀ V, Below wr.heap.size wr V → ∃ w6, (Instr.mapUpdate 36 (.map (some bx)) (.int .i64 x) (.agg #[.int .i64 7, .int .i64 (x + far), .slice none 0 0, .slice none 0 0, .int .i64 (-1)])).run Tryd.prog V = .ok () w6 ∧ OM w6 bx (k + 1) (D.put (.int .i64 x) (.held (mkV far x))) ∧ V.grownBy w6 (some bx)) := Lib.hid (fun V h => (HO.out.1.below h).update lawInt Tryd.underlying36 (by have := HN4.out; unfold maxLen; omega) (keyOf_int_mk Tryd.underlying3 HWF.out) (leafR_mk (mkV far x)))
        clear ho hm
        go_upto_region 15 with fail
        go_region_law (first
          | (go_simp; go_at_call 9; (with_reducible refine (typVar_any _ _).mono ?_); rintro e w4 ⟨rfl, hb4⟩; have hbv := below_then (below_drew1 wr) hb4; have h4 := HC1.out w4 (below_then HR.out.b hbv); obtain ⟨w6, hrun, hown6, hgr6⟩ := HUP.out w4 hbv; have H6 := Lib.hid (And.intro hbv (And.intro hown6 hgr6)); clear hb4 hbv hown6 hgr6)
          | fail)
        all_goals
          go_wp2_with fail
          go_roundw
          case rel => exact ⟨k + 1, by go_num, hlt, by
            exact HR.out.step1 HKL.out HXX.out HS.out.n1 HWF.out HXL.out HB.out.2.2 HB.out.1 H6.out.1 HO.out.1 HO.out.2 H6.out.2.1 H6.out.2.2⟩
          case measure => simp [intOf] <;> omega
    · have hki : ¬ (k : Int) < (n : Int) := by omega
      have ek : k = n := by omega
      subst ek
      have HF := Lib.hid HR.out
      go_upto_region 16 with fail
      exact names_loop2 W w5 t y ga gs bx bY m cB B A1 A2 T R far wr HC.out HS.out HBB.out.1 HBB.out.2 HB.out.1 HB.out.2.1 HB.out.2.2 (by rw [HN.out]; exact HF.out) (by assumption) (by assumption)
end Go.Proofs.YtklandpagieapaaDoor

namespace Go.Proofs.YtklandpagieapaaDoor
open Go.ChangeShapes Go.WideShapes Go.ChangeAt Go.RowKit Go.Sort Go.Maps
set_option linter.unusedVariables false
set_option linter.unusedSimpArgs false
attribute [local irreducible] Go.wpQuiet

set_option maxRecDepth 100000 in
set_option maxHeartbeats 4000000 in
theorem typNames_any (t : Ty) (far : Int) (W : World) (hT : Tab W) (ht : t.In W) (hG : t.Rg) (hnd : t.nodes ≤ 4000000) (hwa : t.wt ≤ CAP) :
    Calls Tryd.prog 3 #[.agg t.d.arr, .int .i64 far] W fun e w' => e = .returned (.bool true) ∧ Below W.heap.size W w' := by
  have hb1 : Below W.heap.size W (W.alloc (.cells t.d.arr 25)) := (Below.refl _ _).alloc (Nat.le_refl _) _
  have HA := Lib.hid (box_at W t.d)
  have HIA := Lib.hid (ht.lower hb1)
  have HT := Lib.hid (tab_below hT hb1)
  have HX := Lib.hid (And.intro hG (And.intro hnd hwa))
  have HB1 := Lib.hid hb1
  clear hb1 ht hT hG hnd hwa
  have hmm := @run_makeMap Tryd.prog
  go_enter Tryd.func3, Tryd.ntmps3
  go_wp2_with fail
  generalize (W.alloc (.cells t.d.arr 25)) = w1 at *
  refine (up_any w1 HT.out).mono ?_
  rintro e w2 ⟨rfl, hb2⟩
  have H2 := Lib.hid hb2
  clear hb2
  obtain ⟨c0, c1, c2, c3, c4⟩ := HA.out.lower H2.out
  go_wp2_with fail
  refine (few_any t w2 (HIA.out.lower H2.out)).mono ?_
  rintro e w3 ⟨⟨v1, rfl⟩, hb3⟩
  have H3 := Lib.hid (below_then H2.out hb3)
  clear hb3 c0 c1 c2 c3 c4
  by_cases hv1 : v1 < 0
  · have q1 : decide (v1 < 0) = true := decide_eq_true hv1
    go_wp2_with fail
    go_returns
    exact ⟨rfl, below_then HB1.out H3.out⟩
  have q1 : decide (v1 < 0) = false := decide_eq_false hv1
  clear hv1
  obtain ⟨c0, c1, c2, c3, c4⟩ := HA.out.lower H3.out
  go_wp2_with fail
  refine (may_any t w3 (HIA.out.lower H3.out)).mono ?_
  rintro e w4 ⟨rfl, hb4⟩
  have H4 := Lib.hid (below_then H3.out hb4)
  clear hb4 c0 c1 c2 c3 c4
  obtain ⟨m, hm⟩ : ∃ m, (mayF t 0).isSome = m := ⟨_, rfl⟩
  rw [hm]
  have HM := Lib.hid hm
  clear hm
  cases m with
  | false =>
    go_wp2_with fail
    go_returns
    exact ⟨rfl, below_then HB1.out H4.out⟩
  | true =>
  by_cases hf1 : far < 1
  · have q2 : decide (far < 1) = true := decide_eq_true hf1
    go_wp2_with fail
    go_returns
    exact ⟨rfl, below_then HB1.out H4.out⟩
  by_cases hf2 : 1000000 < far
  · have q2 : decide (far < 1) = false := decide_eq_false hf1
    have q3 : decide (1000000 < far) = true := decide_eq_true hf2
    go_wp2_with fail
    go_returns
    exact ⟨rfl, below_then HB1.out H4.out⟩
  have q2 : decide (far < 1) = false := decide_eq_false hf1
  have q3 : decide (1000000 < far) = false := decide_eq_false hf2
  have HF := Lib.hid (show 1 ≤ far ∧ far ≤ 1000000 by omega)
  clear hf1 hf2
  obtain ⟨c0, c1, c2, c3, c4⟩ := HA.out.lower H4.out
  go_wp2_with fail
  refine (putR_any (F := fun _ => none) (G := fun _ => none) (fun n x h => by cases h) (fun n x h => by cases h) (fun n x h => by cases h) t w4 (HIA.out.lower H4.out) HX.out.1 HM.out (LM.none (F := fun _ => none) (fun _ => rfl) rfl) (LM.none (F := fun _ => none) (fun _ => rfl) rfl)).mono ?_
  rintro e w5 ⟨y, rfl, i5, e5, hb5⟩
  have hb6 : Below w5.heap.size w5 (w5.alloc (.cells #[.int .i64 y.d.kind, .int .i64 y.d.n, .slice y.d.pA y.d.pn y.d.pc, .slice y.d.lA y.d.ln y.d.lc, .int .i64 y.d.tail] 25)) := (Below.refl _ _).alloc (Nat.le_refl _) _
  have HBY := Lib.hid (show y.d.At (w5.alloc (.cells #[.int .i64 y.d.kind, .int .i64 y.d.n, .slice y.d.pA y.d.pn y.d.pc, .slice y.d.lA y.d.ln y.d.lc, .int .i64 y.d.tail] 25)) w5.heap.size 0 from box_at w5 y.d)
  have HY := Lib.hid (And.intro (i5.lower hb6) (show y.eqv t by rw [subR_none] at e5; exact e5))
  have H6 := Lib.hid (below_then (below_then H4.out hb5) hb6)
  clear i5 e5 hb5 hb6 c0 c1 c2 c3 c4
  go_upto_region 5 with fail
  generalize (w5.alloc (.cells #[.int .i64 y.d.kind, .int .i64 y.d.n, .slice y.d.pA y.d.pn y.d.pc, .slice y.d.lA y.d.ln y.d.lc, .int .i64 y.d.tail] 25)) = w6 at *
  obtain ⟨c0, c1, c2, c3, c4⟩ := HA.out.lower H6.out
  go_wp2_with fail
  refine (vars_any w1 t HIA.out HX.out.1 HX.out.2.1 w6 H6.out).mono ?_
  rintro e w7 ⟨A1, n1, A2, n2, rfl, ho1, ho2, hb7⟩
  clear c0 c1 c2 c3 c4
  have HS := Lib.hid (meetT_small t HX.out.2.1)
  have HFB : RowKit.Hid t.fb := Lib.hid (by
    have hm := HM.out
    cases h : mayF t 0 with
    | none => rw [h] at hm; cases hm
    | some j => exact mayF_fb t 0 j h)
  have HND := Lib.hid (meetT_nodup t [] [] List.nodup_nil List.nodup_nil)
  have HNN := Lib.hid (meetT_nn t HFB.out [] [] (by simp) (by simp))
  obtain ⟨T, hTT⟩ : ∃ T, (meetT t [] []).1 = T := ⟨_, rfl⟩
  obtain ⟨R, hRR⟩ : ∃ R, (meetT t [] []).2 = R := ⟨_, rfl⟩
  have HTR := Lib.hid (And.intro hTT.symm hRR.symm)
  rw [hTT, hRR] at HS HND HNN
  rw [hTT] at ho1
  rw [hRR] at ho2
  rw [hTT, hRR]
  clear hTT hRR
  have HNC := Lib.hid (show NmC W t y W.heap.size w5.heap.size A1 A2 T R w7 from ⟨below_then HB1.out (below_then H6.out hb7), tab_below HT.out (below_then H6.out hb7), HIA.out.lower (below_then H6.out hb7), HA.out.lower (below_then H6.out hb7), HY.out.1.lower hb7, HBY.out.lower hb7, Rd.of_own ho1, Rd.of_own ho2⟩)
  have HNS := Lib.hid (show NmS t y T R far from ⟨HTR.out.1, HTR.out.2, HX.out.1, HM.out, HX.out.2.2, HY.out.2, HF.out.1, HF.out.2, HND.out.1, HND.out.2, HNN.out.1, HNN.out.2, HS.out.1, HS.out.2⟩)
  have hm1 := World.ownsMap_made (H := Lf) w7 Tryd.prog 3 leafR
  have hm2 := World.ownsMap_made (H := Lf) (w7.alloc (.map #[] 0)) Tryd.prog 3 leafR
  rw [World.size_alloc] at hm2
  have hba : Below w7.heap.size w7 (w7.alloc (.map #[] 0)) := (Below.refl _ _).alloc (Nat.le_refl _) _
  have HNM := Lib.hid (show NmM w7 w7.heap.size (w7.heap.size + 1) far T R 0 0 ((w7.alloc (.map #[] 0)).alloc (.map #[] 0)) from ⟨hba.alloc hba.size _, ⟨_, hm1.alloc _, mapIs_nil _⟩, ⟨_, hm2, mapIs_nil _⟩, (fun n hn => by cases hn), (fun n hn => by cases hn)⟩)
  clear ho1 ho2 hb7 hm1 hm2 hba
  go_upto_region 10 with fail
  exact names_loop1 W w7 t y W.heap.size w5.heap.size w7.heap.size (w7.heap.size + 1) T.length n1 A1 A1 A2 T R far _ HNC.out HNS.out rfl rfl R.length A2 n2 rfl rfl (Nat.le_refl _) (Nat.le_succ _) (by omega) HNM.out (by assumption) (by assumption)
end Go.Proofs.YtklandpagieapaaDoor

namespace Go.Proofs.YtklandpagieapaaDoor
open Go.ChangeShapes Go.WideShapes Go.ChangeAt Go.RowKit
set_option linter.unusedVariables false

theorem own : ownKnob Tryd.prog.godebug = none := by kernel_rfl
theorem laidOut : laidOutB Tryd.prog = true := by kernel_rfl

/-- All arguments read behind the call as they did. -/
theorem trodAll_stays {H : Type} {enc : TypeId × Value → H} {W W' : World} (hb : Below W.heap.size W W') :
    ∀ (ts : List TypeId) (vs : List Value) (ds : List (DataW H)) (ps : List MemPlace), (∀ t ∈ ts, Tryd.prog.readableRec t = true ∧ t < Tryd.prog.types.size) → (∀ x ∈ ps, x.block < W.heap.size) →
      DataW.TrodAll enc Tryd.prog W 0 (fun _ => true) true ts vs ds ps → DataW.TrodAll enc Tryd.prog W' 0 (fun b => decide (b < W.heap.size)) true ts vs ds ps
  | [], vs, ds, ps, _, _, h => by
    obtain ⟨rfl, rfl, rfl⟩ := trodAll_nil h
    exact trodAll_mk0
  | t :: ts, vs, ds, ps, hr, hlt, h => by
    obtain ⟨v, vs', d, ds', p, q, rfl, rfl, rfl, h0, h1⟩ := trodAll_cons h
    have ht := hr t (by simp)
    exact trodAll_cons_mk (Below.trod laidOut ht.1 ht.2 h0 hb (fun x hx => hlt x (by simp [hx]))) (trodAll_stays hb ts vs' ds' q (fun t' ht' => hr t' (by simp [ht'])) (fun x hx => hlt x (by simp [hx])) h1)

theorem trodAll_length {H : Type} {enc : TypeId × Value → H} {P : Program} {W : World} {base : Nat} {sp : Nat → Bool} {hd : Bool} :
    ∀ (ts : List TypeId) (vs : List Value) (ds : List (DataW H)) (ps : List MemPlace), DataW.TrodAll enc P W base sp hd ts vs ds ps → ds.length = ts.length
  | [], vs, ds, ps, h => by obtain ⟨_, h, _⟩ := trodAll_nil h; simp [h]
  | t :: ts, vs, ds, ps, h => by
    obtain ⟨v, vs', d, ds', p, q, rfl, rfl, rfl, h0, h1⟩ := trodAll_cons h
    simp [trodAll_length ts vs' ds' q h1]

/-- What is to be walked of a law: whatever its arguments read as, it returns true, and turns nothing that was there. -/
def LawWalk (F : FuncId) (ts : List TypeId) : Prop :=
  ∀ (H : Type) (enc : TypeId × Value → H) (W : World) (base : Nat) (args : Array Value) (ds : List (DataW H)) (p : List MemPlace),
    (∀ (j : Nat) t v, ts[j]? = some t → args[j]? = some v → Value.okWide Tryd.prog W .any base t v) →
    DataW.TrodAll enc Tryd.prog W 0 (fun _ => true) true ts args.toList ds p → (∀ x ∈ p, x.block < W.heap.size) →
    Calls Tryd.prog F args W fun e W' => e = .returned (.bool true) ∧ Below W.heap.size W W'

theorem law_post {H : Type} {enc : TypeId × Value → H} {f : Func} {s : ChangeSpec} {W W' : World} {args : Array Value} {ds gs : List (DataW H)} {before : List MemPlace} {ts : List TypeId}
    (hp : f.params.toList = ts) (hres : f.resultTypes = #[4]) (hv : s.vars = []) (hs : s.fn H (ds ++ gs) = { results := [.lit (.bool true)], args := ds }) (hr : ∀ t ∈ ts, Tryd.prog.readableRec t = true ∧ t < Tryd.prog.types.size)
    (hW : DataW.Whole enc Tryd.prog f.params.toList s.vars false W args.toList ds gs before) (hb : Below W.heap.size W W') :
    s.post enc Tryd.prog f false true false false W args (.bool true) W' := by
  have hW' := hW
  obtain ⟨p, q, hA, hV, rfl, hfz, hnd⟩ := hW
  rw [hv] at hV
  obtain ⟨rfl, rfl⟩ := trodVars_none hV
  have hlt : ∀ x ∈ p, x.block < W.heap.size := fun x hx => hW'.lt x (by simp [hx])
  refine ⟨ds, [], p ++ [], [], p, [], hW', ?_, ?_, ?_, hb.frame _, fun h => by cases h⟩
  · rw [hs, hres]
    exact trodAll_mk1 (shut_bool Tryd.underlying4 _)
  · rw [hs, hp]
    rw [hp] at hA
    exact trodAll_stays hb ts _ _ _ hr hlt hA
  · rw [hv]
    rw [hs]
    rfl

set_option maxRecDepth 100000 in
theorem law_lifted {os : Os} (started : os.Started) {H : Type} {enc : TypeId × Value → H} {F : FuncId} {f : Func} {s : ChangeSpec} {ts : List TypeId}
    (hF : Tryd.prog.funcs[F]? = some f) (noInit : Tryd.checked.prog.inits.idxOf? F = none) (hp : f.params.toList = ts) (hres : f.resultTypes = #[4]) (hv : s.vars = [])
    (hs : ∀ (H : Type) (ds : List (DataW H)), ds.length = ts.length → s.fn H ds = { results := [.lit (.bool true)], args := ds })
    (hr0 : (ts.all fun t => Tryd.prog.readableRec t && decide (t < Tryd.prog.types.size)) = true)
    (witness : ∃ (w : World) (tape : Tape) (i : Input), w.os = os ∧ (w.forCall tape i).Shaped Tryd.checked.prog ∧ i.vars = [] ∧ Input.okWide Tryd.checked.prog (w.forCall tape i) .any w.heap.size F i ∧
      s.pre6 enc Tryd.checked.prog f [] false (w.forCall tape i).memory i.args ∧ Assume.holds {} Tryd.checked.prog (lone (Frame.enter Tryd.checked.prog F i.args .normal) [] (w.forCall tape i)))
    (walk : LawWalk F ts) :
    ReturnsInHanded {} Tryd.checked os F .any (s.pre6 enc Tryd.prog f [] false) (s.post enc Tryd.prog f false true false false) := by
  have hr : ∀ t ∈ ts, Tryd.prog.readableRec t = true ∧ t < Tryd.prog.types.size := fun t ht => by
    have h := List.all_eq_true.1 hr0 t ht
    simpa using h
  refine returnsInHanded_of_change (C := Tryd.checked) own started noInit hF witness ?_
  intro W base args ds gs before hval hW _ _
  have hW' : DataW.Whole enc Tryd.prog f.params.toList s.vars false W args.toList ds gs before := hW
  obtain ⟨p, q, hA0, hV, rfl, hfz, hnd⟩ := hW
  have hA : DataW.TrodAll enc Tryd.prog W 0 (fun _ => true) true f.params.toList args.toList ds p := hA0
  have hlt : ∀ x ∈ p, x.block < W.heap.size := fun x hx => hW'.lt x (by simp [hx])
  rw [hp] at hA
  have hlen : ds.length = ts.length := trodAll_length ts _ _ _ hA
  rw [hv] at hV
  obtain ⟨rfl, rfl⟩ := trodVars_none hV
  refine (walk H enc W base args ds p ?_ hA hlt).mono fun e W' ⟨he, hb⟩ => ?_
  · intro j t v hj hva
    refine hval j t v ?_ hva
    rw [← hp] at hj
    simpa using hj
  · subst he
    exact ⟨_, rfl, law_post hp hres hv (by rw [List.append_nil]; exact hs H ds hlen) hr hW' hb⟩
end Go.Proofs.YtklandpagieapaaDoor

namespace Go.Proofs.YtklandpagieapaaDoor
open Go.ChangeShapes Go.WideShapes Go.ChangeAt Go.RowKit
set_option linter.unusedVariables false

/-- What the tied variables hold, as far as it is read. -/
structure Lay (w : World) : Prop where
  tab : Lib.TabIs Tryd.prog w "internal/strconv.uint64pow10" .u64 Lib.pow10Tab
theorem Lay.below {w w' : World} (h : Lay w) (hb : Below w.heap.size w w') : Lay w' := ⟨tab_below h.tab hb⟩

/-- What the rows of this seat list. -/
abbrev seatLaid : List (String × DataW Unit) := [("math/bits.deBruijn32tab", Rows.laid_math_bits_deBruijn32tab), ("math/bits.deBruijn64tab", Rows.laid_math_bits_deBruijn64tab), ("internal/strconv.uint64pow10", Rows.laid_internal_strconv_uint64pow10)]

set_option maxRecDepth 100000 in
theorem lay_of_laid {W : World} (h : laidMetH Tryd.prog seatLaid W) : Lay W := by
  have h' : laidMet Tryd.prog seatLaid W := h
  have h2 : laidMet Tryd.prog [("internal/strconv.uint64pow10", Lib.tabData .u64 Lib.pow10Tab)] W := by
    have h3 := h'.tail.tail
    exact h3
  exact ⟨Lib.tabIs_of_head gTab (by kernel_rfl) Tryd.underlying117 Tryd.underlying108 (by kernel_rfl) (by kernel_rfl) h2⟩
theorem door_met (os : Os) (args : Array Value) : laidMetH Tryd.prog seatLaid ((World.doorLaid Tryd.prog 65 os).forCall (fun _ _ => 0) ⟨#[], args, []⟩).memory :=
  laidMetH_of_parts3 (fuel := 8) (laidMet_of_run' 8 (by kernel_rfl) (by kernel_rfl)) (by kernel_rfl) (by kernel_rfl)

/-- What is to be walked of a law, the form's own reach and the tied variables handed to the walk. -/
def LawWalkL (F : FuncId) (ts : List TypeId) : Prop :=
  ∀ (H : Type) (enc : TypeId × Value → H) (W : World) (base : Nat) (args : Array Value) (ds : List (DataW H)) (p : List MemPlace),
    (∀ (j : Nat) t v, ts[j]? = some t → args[j]? = some v → Value.okWide Tryd.prog W .any base t v) →
    DataW.TrodAll enc Tryd.prog W 0 (fun _ => true) true ts args.toList ds p → (∀ x ∈ p, x.block < W.heap.size) → Lay W →
    Calls Tryd.prog F args W fun e W' => e = .returned (.bool true) ∧ Below W.heap.size W W'

set_option maxRecDepth 100000 in
theorem law_liftedL {os : Os} (started : os.Started) {H : Type} {enc : TypeId × Value → H} {F : FuncId} {f : Func} {s : ChangeSpec} {ts : List TypeId}
    (hF : Tryd.prog.funcs[F]? = some f) (noInit : Tryd.checked.prog.inits.idxOf? F = none) (hp : f.params.toList = ts) (hres : f.resultTypes = #[4]) (hv : s.vars = [])
    (hs : ∀ (H : Type) (ds : List (DataW H)), ds.length = ts.length → s.fn H ds = { results := [.lit (.bool true)], args := ds })
    (hr0 : (ts.all fun t => Tryd.prog.readableRec t && decide (t < Tryd.prog.types.size)) = true)
    (witness : ∃ (w : World) (tape : Tape) (i : Input), w.os = os ∧ (w.forCall tape i).Shaped Tryd.checked.prog ∧ i.vars = [] ∧ Input.okWide Tryd.checked.prog (w.forCall tape i) .any w.heap.size F i ∧
      ((s.pre enc Tryd.checked.prog f [] false (w.forCall tape i).memory i.args ∧ laidMetH Tryd.prog seatLaid (w.forCall tape i).memory) ∧ sizedMet enc Tryd.checked.prog f (OpenSpec.ofChange s) false (w.forCall tape i).memory i.args) ∧ Assume.holds {} Tryd.checked.prog (lone (Frame.enter Tryd.checked.prog F i.args .normal) [] (w.forCall tape i)))
    (walk : LawWalkL F ts) :
    ReturnsInHanded {} Tryd.checked os F .any (fun w args => (s.pre enc Tryd.prog f [] false w args ∧ laidMetH Tryd.prog seatLaid w) ∧ sizedMet enc Tryd.prog f (OpenSpec.ofChange s) false w args) (s.post enc Tryd.prog f false true false false) := by
  have hr : ∀ t ∈ ts, Tryd.prog.readableRec t = true ∧ t < Tryd.prog.types.size := fun t ht => by
    have h := List.all_eq_true.1 hr0 t ht
    simpa using h
  refine returnsInHanded_of_change_and (C := Tryd.checked) (X := fun w _ => laidMetH Tryd.prog seatLaid w) (fun _ _ _ hh h => h.of_heap hh) own started noInit hF witness ?_
  intro W base args ds gs before hval hW _ _ hL _
  have hW' : DataW.Whole enc Tryd.prog f.params.toList s.vars false W args.toList ds gs before := hW
  obtain ⟨p, q, hA0, hV, rfl, hfz, hnd⟩ := hW
  have hA : DataW.TrodAll enc Tryd.prog W 0 (fun _ => true) true f.params.toList args.toList ds p := hA0
  have hlt : ∀ x ∈ p, x.block < W.heap.size := fun x hx => hW'.lt x (by simp [hx])
  rw [hp] at hA
  have hlen : ds.length = ts.length := trodAll_length ts _ _ _ hA
  rw [hv] at hV
  obtain ⟨rfl, rfl⟩ := trodVars_none hV
  refine (walk H enc W base args ds p ?_ hA hlt (lay_of_laid hL)).mono fun e W' ⟨he, hb⟩ => ?_
  · intro j t v hj hva
    refine hval j t v ?_ hva
    rw [← hp] at hj
    simpa using hj
  · subst he
    exact ⟨_, rfl, law_post hp hres hv (by rw [List.append_nil]; exact hs H ds hlen) hr hW' hb⟩
end Go.Proofs.YtklandpagieapaaDoor

namespace Go.Proofs.YtklandpagieapaaDoor
open Go.ChangeShapes Go.WideShapes Go.ChangeAt Go.RowKit
set_option linter.unusedVariables false

/-- What is to be walked of a law, the bound and the tied variables handed to the walk. -/
def LawWalkU (F : FuncId) (ts : List TypeId) : Prop :=
  ∀ (H : Type) (enc : TypeId × Value → H) (W : World) (base : Nat) (args : Array Value) (ds : List (DataW H)) (p : List MemPlace),
    (∀ (j : Nat) t v, ts[j]? = some t → args[j]? = some v → Value.okWide Tryd.prog W .any base t v) →
    DataW.TrodAll enc Tryd.prog W 0 (fun _ => true) true ts args.toList ds p → (∀ x ∈ p, x.block < W.heap.size) → Lay W → Rows.uptoBulkAll ds ≤ 1048576 →
    Calls Tryd.prog F args W fun e W' => e = .returned (.bool true) ∧ Below W.heap.size W W'

set_option maxRecDepth 100000 in
theorem law_liftedU {os : Os} (started : os.Started) {H : Type} {enc : TypeId × Value → H} {F : FuncId} {f : Func} {s : ChangeSpec} {ts : List TypeId} (G : Stop.Interp)
    (hF : Tryd.prog.funcs[F]? = some f) (noInit : Tryd.checked.prog.inits.idxOf? F = none) (hp : f.params.toList = ts) (hres : f.resultTypes = #[4]) (hv : s.vars = [])
    (hs : ∀ (H : Type) (ds : List (DataW H)), ds.length = ts.length → s.fn H ds = { results := [.lit (.bool true)], args := ds })
    (hr0 : (ts.all fun t => Tryd.prog.readableRec t && decide (t < Tryd.prog.types.size)) = true)
    (witness : ∃ (w : World) (tape : Tape) (i : Input), w.os = os ∧ (w.forCall tape i).Shaped Tryd.checked.prog ∧ i.vars = [] ∧ Input.okWide Tryd.checked.prog (w.forCall tape i) .any w.heap.size F i ∧
      (Rows.OpenSpec.upto s).preRow enc Tryd.checked.prog f [] false seatLaid (w.forCall tape i).memory i.args ∧ Assume.holds {} Tryd.checked.prog (lone (Frame.enter Tryd.checked.prog F i.args .normal) [] (w.forCall tape i)))
    (walk : LawWalkU F ts) :
    ReturnsInHanded {} Tryd.checked os F .any ((Rows.OpenSpec.upto s).preRow enc Tryd.prog f [] false seatLaid) (((Rows.OpenSpec.upto s).at G).post enc Tryd.prog f false true false false) := by
  have hr : ∀ t ∈ ts, Tryd.prog.readableRec t = true ∧ t < Tryd.prog.types.size := fun t ht => by
    have h := List.all_eq_true.1 hr0 t ht
    simpa using h
  refine returnsInHanded_of_row (C := Tryd.checked) (s := Rows.OpenSpec.upto s) own started noInit hF witness ?_
  intro W base args ds gs before hval hW _ hk _ hL _ _
  have hW' : DataW.Whole enc Tryd.prog f.params.toList s.vars false W args.toList ds gs before := hW
  obtain ⟨p, q, hA0, hV, rfl, hfz, hnd⟩ := hW
  have hA : DataW.TrodAll enc Tryd.prog W 0 (fun _ => true) true f.params.toList args.toList ds p := hA0
  have hlt : ∀ x ∈ p, x.block < W.heap.size := fun x hx => hW'.lt x (by simp [hx])
  rw [hp] at hA
  have hlen : ds.length = ts.length := trodAll_length ts _ _ _ hA
  rw [show (Rows.OpenSpec.upto s).vars = [] from hv] at hV
  obtain ⟨rfl, rfl⟩ := trodVars_none hV
  have hbulk : Rows.uptoBulkAll ds ≤ 1048576 := by
    have h := hk _ rfl
    rw [List.append_nil] at h
    exact of_decide_eq_true h
  refine (walk H enc W base args ds p ?_ hA hlt (lay_of_laid hL) hbulk).mono fun e W' ⟨he, hb⟩ => ?_
  · intro j t v hj hva
    refine hval j t v ?_ hva
    rw [← hp] at hj
    simpa using hj
  · subst he
    exact ⟨_, rfl, law_post hp hres hv (by rw [List.append_nil]; exact hs H ds hlen) hr hW' hb⟩
end Go.Proofs.YtklandpagieapaaDoor
