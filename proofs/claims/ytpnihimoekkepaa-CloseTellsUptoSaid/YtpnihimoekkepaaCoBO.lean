/-
  The document's functions of an expression.
-/
import Derived.Test.YtpnihimoekkepaaCoBN
namespace Go.Proofs.Ytpnihimoekkepaa
open Go.ChangeShapes Go.WideShapes Go.ChangeAt Go.RowKit Go.Sort Go.Maps
set_option linter.unusedVariables false
set_option linter.unusedSimpArgs false

abbrev Z9 : Array Value := #[.string ⟨#[]⟩, .string ⟨#[]⟩, .slice none 0 0, .int .i64 0, .int .i64 0, .string ⟨#[]⟩, .string ⟨#[]⟩, .slice none 0 0, .slice none 0 0]
abbrev fuO (y : Ex) : Fu := ⟨[], [], none, 0, 0, [], y⟩
/-- What an expression's functions come to, by the document. -/
def RcR (t : Ex) (W : World) (e : Ending) (w' : World) : Prop :=
  Below W.heap.size W w' ∧
  ((e = .returned (.tuple #[.slice none 0 0, .int .i64 4]) ∧ ((∃ x, t.freeB x = true) ∨ t.nlB = true)) ∨
   (e = .returned (.tuple #[.slice none 0 0, .int .i64 6]) ∧ (∀ x, t.freeB x = false) ∧ t.nlB = false ∧ 2000 < 1 + t.cnt) ∨
   (∃ (y : Ex) (fs : List Fu) (A : Option Addr) (c : Nat), e = .returned (.tuple #[.slice A (fs.length + 1) c, .int .i64 0]) ∧ Rd w' 9 A (fs.length + 1) ((fuO y :: fs).flatMap Fu.cells) ∧ (∀ f ∈ fuO y :: fs, f.In w') ∧
      y.eqv (numE t 0) ∧ FunL (fnsE t 0) fs ∧ (∀ x, t.freeB x = false) ∧ t.nlB = false ∧ 1 + t.cnt ≤ 2000))
theorem cw_start (w : World) : CW ((w.alloc (.cells Z9 37)).alloc (.cells #[.slice (some ⟨w.heap.size, 0, none⟩) 1 1] 54)) (w.heap.size + 1) (.slice (some ⟨w.heap.size, 0, none⟩) 1 1) 1 Z9.toList ∧ Below w.heap.size w ((w.alloc (.cells Z9 37)).alloc (.cells #[.slice (some ⟨w.heap.size, 0, none⟩) 1 1] 54)) := by
  have s1 : (w.alloc (.cells Z9 37)).heap.size = w.heap.size + 1 := World.size_alloc _ _
  have h1 := heap_alloc_new (w.alloc (.cells Z9 37)) (.cells #[.slice (some ⟨w.heap.size, 0, none⟩) 1 1] 54)
  rw [s1] at h1
  have hb : Below w.heap.size w (w.alloc (.cells Z9 37)) := (Below.refl _ _).alloc (Nat.le_refl _) _
  refine ⟨⟨h1, ?_, fun e => ?_⟩, hb.alloc hb.size _⟩
  · exact (own_lit w 37 (size := 9) Z9 rfl).alloc _
  · have e : some w.heap.size = some (w.heap.size + 1) := e
    injection e with e
    omega
/-- What walking from the beginning leaves of what was. -/
theorem kw_below {w V V' : World} {v' : Value} (hb : Below w.heap.size w V) (h : KW (w.heap.size + 1) V (.slice (some ⟨w.heap.size, 0, none⟩) 1 1) V' v') : Below w.heap.size w V' := by
  have hs := hb.size
  exact ⟨h.os.trans hb.os, h.tape.trans hb.tape, h.output.trans hb.output, Nat.le_trans hb.size h.size, fun i hi => (h.block i (by omega) (by omega) (fun e => by
    have e : some i = some w.heap.size := e
    injection e with e
    omega)).trans (hb.block i hi)⟩

theorem six0_facts (M : Nat) (w : World) (q : Nat) (hq : M ≤ q) (y : Ex) : (∀ b, b ≠ q → ((((((w.setCell ⟨q, 3, none⟩ (.int .i64 y.d.kind)).setCell ⟨q, 4, none⟩ (.int .i64 y.d.n)).setCell ⟨q, 5, none⟩ (.string (bstr y.d.s))).setCell ⟨q, 6, none⟩ (.string (bstr y.d.t))).setCell ⟨q, 7, none⟩ (.slice y.d.nA y.d.nn y.d.nc)).setCell ⟨q, 8, none⟩ (.slice y.d.pA y.d.pn y.d.pc)).heap[b]? = w.heap[b]?) ∧ Below M w ((((((w.setCell ⟨q, 3, none⟩ (.int .i64 y.d.kind)).setCell ⟨q, 4, none⟩ (.int .i64 y.d.n)).setCell ⟨q, 5, none⟩ (.string (bstr y.d.s))).setCell ⟨q, 6, none⟩ (.string (bstr y.d.t))).setCell ⟨q, 7, none⟩ (.slice y.d.nA y.d.nn y.d.nc)).setCell ⟨q, 8, none⟩ (.slice y.d.pA y.d.pn y.d.pc)) :=
  ⟨fun b hb => (Below.heap_setCell _ ⟨q, 8, none⟩ _ b hb).trans ((Below.heap_setCell _ ⟨q, 7, none⟩ _ b hb).trans ((Below.heap_setCell _ ⟨q, 6, none⟩ _ b hb).trans ((Below.heap_setCell _ ⟨q, 5, none⟩ _ b hb).trans ((Below.heap_setCell _ ⟨q, 4, none⟩ _ b hb).trans (Below.heap_setCell _ ⟨q, 3, none⟩ _ b hb))))), Below.setCell (p := ⟨q, 8, none⟩) (Below.setCell (p := ⟨q, 7, none⟩) (Below.setCell (p := ⟨q, 6, none⟩) (Below.setCell (p := ⟨q, 5, none⟩) (Below.setCell (p := ⟨q, 4, none⟩) (Below.setCell (p := ⟨q, 3, none⟩) (Below.refl _ _) (hq) (.int .i64 y.d.kind)) (hq) (.int .i64 y.d.n)) (hq) (.string (bstr y.d.s))) (hq) (.string (bstr y.d.t))) (hq) (.slice y.d.nA y.d.nn y.d.nc)) (hq) (.slice y.d.pA y.d.pn y.d.pc)⟩
theorem row_six0 {w : World} {base q nf cf : Nat} {rest : List Value} {y : Ex} (h : w.ownsRow base 37 9 (.slice (some ⟨q, 0, none⟩) nf cf) nf (Z9.toList ++ rest)) (hb : 9 ≤ nf * 9) :
    ((((((w.setCell ⟨q, 3, none⟩ (.int .i64 y.d.kind)).setCell ⟨q, 4, none⟩ (.int .i64 y.d.n)).setCell ⟨q, 5, none⟩ (.string (bstr y.d.s))).setCell ⟨q, 6, none⟩ (.string (bstr y.d.t))).setCell ⟨q, 7, none⟩ (.slice y.d.nA y.d.nn y.d.nc)).setCell ⟨q, 8, none⟩ (.slice y.d.pA y.d.pn y.d.pc)).ownsRow base 37 9 (.slice (some ⟨q, 0, none⟩) nf cf) nf ((fuO y).cells ++ rest) := by
  have h6 := own_set (own_set (own_set (own_set (own_set (own_set (h) 3 (by omega) (.int .i64 y.d.kind)) 4 (by omega) (.int .i64 y.d.n)) 5 (by omega) (.string (bstr y.d.s))) 6 (by omega) (.string (bstr y.d.t))) 7 (by omega) (.slice y.d.nA y.d.nn y.d.nc)) 8 (by omega) (.slice y.d.pA y.d.pn y.d.pc)
  exact h6
noncomputable def tlC (n : Nat) : Code := dropSeqG n (Try.f8.body.getD .skip)
set_option maxRecDepth 100000 in
theorem close_out {u0 u1 u2 u3 u4 u6 u7 u8 u9 u10 u11 u12 u13 u14 u15 u16 u17 u18 u19 u20 u21 u22 u23 u24 u25 u26 u27 u28 u29 u30 u31 u32 u33 u34 u35 u36 u37 u38 u39 : Value} (V : World) (p q n cf : Nat) (cp : V.cell? ⟨p, 0, none⟩ = some (.slice (some ⟨q, 0, none⟩) n cf)) (R : Ending → World → Prop) (h : R (.returned (.tuple #[.slice (some ⟨q, 0, none⟩) n cf, .int .i64 0])) V) :
    Code.wp Try.prog (tlC 7) (bodyPost Try.prog Try.f8 R) ⟨#[u0, u1, u2, u3, u4, .pointer (some ⟨p, 0, none⟩), u6, u7, u8, u9, u10, u11, u12, u13, u14, u15, u16, u17, u18, u19, u20, u21, u22, u23, u24, u25, u26, u27, u28, u29, u30, u31, u32, u33, u34, u35, u36, u37, u38, u39], []⟩ V := by
  have HR := Lib.hid h
  clear h
  conv => arg 2; whnf
  go_wp2_with fail
  exact HR.out

set_option maxRecDepth 100000 in
set_option maxHeartbeats 4000000 in
theorem refClose_any (w0 : World) (t : Ex) (hIn : t.In w0) (W : World) (hb : Below w0.heap.size w0 W) (hnd : t.nodes ≤ 2000000) :
    Calls Try.prog 8 #[.agg t.d.arr] W (RcR t W) := by
  have hb1 : Below W.heap.size W (W.alloc (.cells t.d.arr 25)) := (Below.refl _ _).alloc (Nat.le_refl _) _
  have HB1 := Lib.hid hb1
  have HI := Lib.hid (show t.In (W.alloc (.cells t.d.arr 25)) from hIn.lower (below_then hb hb1))
  have HE := Lib.hid (show ∀ V, Below (W.alloc (.cells t.d.arr 25)).heap.size (W.alloc (.cells t.d.arr 25)) V → t.d.At V W.heap.size 0 from fun V h => (ex_box W t.d).lower h)
  have HND := Lib.hid hnd
  obtain ⟨c0, c1, c2, c3, c4, c5⟩ := ex_box W t.d
  clear hb1 hIn hb hnd
  go_enter Try.func8, Try.ntmps8
  go_upto_region 1 with fail
  generalize (W.alloc (.cells t.d.arr 25)) = w1 at *
  go_wp2_with fail
  refine (nameless_any w1 t HI.out w1 (Below.refl _ _)).mono ?_
  rintro e w2 ⟨rfl, hb2⟩
  have H2 := Lib.hid hb2
  clear hb2 c0 c1 c2 c3 c4 c5
  obtain ⟨c0, c1, c2, c3, c4, c5⟩ := HE.out _ H2.out
  obtain ⟨nl, hnl⟩ : ∃ nl, t.nlB = nl := ⟨_, rfl⟩
  rw [hnl]
  have HNL := Lib.hid hnl
  clear hnl
  go_wp2_with fail
  refine (refFree_any w1 t HI.out w2 H2.out (Nat.le_trans HND.out (by omega))).mono ?_
  rintro e w3 ⟨FA, fc, ss, rfl, hown, hord, hmem, hlen, hb3⟩
  have H3 := Lib.hid (below_then H2.out hb3)
  have HM := Lib.hid hmem
  clear hb3 c0 c1 c2 c3 c4 c5 hown hord hmem hlen
  cases ss with
  | cons s ss =>
    have hpos : (0 : Int) < (ss.length : Int) + 1 := by omega
    go_wp2_with fail
    go_returns
    exact ⟨below_then HB1.out H3.out, .inl ⟨rfl, .inl ⟨s, (HM.out s).1 (by simp)⟩⟩⟩
  | nil =>
    have HNF := Lib.hid (show ∀ x, t.freeB x = false from fun x => by
      cases h : t.freeB x with
      | false => rfl
      | true => have := (HM.out x).2 h; cases this)
    cases nl with
    | true =>
      go_wp2_with fail
      go_returns
      exact ⟨below_then HB1.out H3.out, .inl ⟨rfl, .inr HNL.out⟩⟩
    | false =>
      obtain ⟨hcw, hb5⟩ := cw_start w3
      have HCW := Lib.hid hcw
      have H5 := Lib.hid hb5
      clear hcw hb5
      go_upto_region 5 with fail
      have s1 : ((w3.alloc (.cells Z9 37)).alloc (.cells #[.slice (some ⟨w3.heap.size, 0, none⟩) 1 1] 54)).heap.size = w3.heap.size + 2 := by simp
      generalize ((w3.alloc (.cells Z9 37)).alloc (.cells #[.slice (some ⟨w3.heap.size, 0, none⟩) 1 1] 54)) = w5 at *
      have HS1 := Lib.hid s1
      clear s1
      obtain ⟨c0, c1, c2, c3, c4, c5⟩ := HE.out _ (below_then H3.out H5.out)
      go_wp2_with fail
      refine (walk_any w3 t (HI.out.lower H3.out) (w3.heap.size + 1) _ 1 _ w5 H5.out (by omega) HCW.out (Nat.le_refl _) (by have := cnt_nodes t; have := HND.out; omega) (Nat.le_trans HND.out (by omega))).mono ?_
      rintro e w6 ⟨y, v, gs, rfl, hy, heq, hcw, hgs, hf, hkw⟩
      have hlen : gs.length = t.cnt := by rw [← hf.len, fnsE_len]
      have hcw1 : CW w6 (w3.heap.size + 1) v (gs.length + 1) (Z9.toList ++ gs.flatMap Fu.cells) := by
        have h := hcw
        rw [Nat.add_comm 1 gs.length] at h
        exact h
      obtain ⟨q, cf, rfl⟩ := own_some hcw1.own
      have HC6 := Lib.hid hcw1
      have HY := Lib.hid hy
      have HQ := Lib.hid heq
      have HGS := Lib.hid hgs
      have HF := Lib.hid hf
      have HB6 := Lib.hid (kw_below H5.out hkw)
      have HLN := Lib.hid hlen
      have HCN := Lib.hid (show gs.length ≤ 2000000 from by rw [hlen]; exact Nat.le_trans (cnt_nodes t) HND.out)
      have HS6 := Lib.hid (show w5.heap.size ≤ w6.heap.size from hkw.size)
      clear hy heq hcw hcw1 hgs hf hkw hlen c0 c1 c2 c3 c4 c5
      have hba : Below w6.heap.size w6 (w6.alloc (.cells #[.int .i64 y.d.kind, .int .i64 y.d.n, .string (bstr y.d.s), .string (bstr y.d.t), .slice y.d.nA y.d.nn y.d.nc, .slice y.d.pA y.d.pn y.d.pc] 25)) := (Below.refl _ _).alloc (Nat.le_refl _) _
      have HX7 := Lib.hid (heap_alloc_new w6 (.cells #[.int .i64 y.d.kind, .int .i64 y.d.n, .string (bstr y.d.s), .string (bstr y.d.t), .slice y.d.nA y.d.nn y.d.nc, .slice y.d.pA y.d.pn y.d.pc] 25))
      have HBA := Lib.hid hba
      clear hba
      go_upto_region 6 with fail
      generalize (w6.alloc (.cells #[.int .i64 y.d.kind, .int .i64 y.d.n, .string (bstr y.d.s), .string (bstr y.d.t), .slice y.d.nA y.d.nn y.d.nc, .slice y.d.pA y.d.pn y.d.pc] 25)) = w7 at *
      have HC7 := Lib.hid (HC6.out.below HBA.out)
      have cp : w7.cell? ⟨w3.heap.size + 1, 0, none⟩ = some (.slice (some ⟨q, 0, none⟩) (gs.length + 1) cf) := by rw [Lib.cell_of_heap HC7.out.c]; rfl
      have hg4 : (gs.length : Int) + 1 ≤ 2000001 := by have := HCN.out; omega
      by_cases hbig : 2000 < 1 + t.cnt
      · have hbi : (2000 : Int) < (gs.length : Int) + 1 := by have := HLN.out; omega
        have HBG := Lib.hid hbig
        clear hbig
        go_wp2_with fail
        go_returns
        exact ⟨below_then HB1.out (below_then H3.out (below_then HB6.out HBA.out)), .inr (.inl ⟨rfl, HNF.out, HNL.out, HBG.out⟩)⟩
      · have hbi : ¬ (2000 : Int) < (gs.length : Int) + 1 := by have := HLN.out; omega
        have HBG := Lib.hid (show 1 + t.cnt ≤ 2000 by omega)
        clear hbig
        have hat : ∀ j u, (Z9.toList)[3 + j]? = some u → w7.cell? ⟨q, 3 + j, none⟩ = some u ∧ w7.frozen? ⟨q, 3 + j, none⟩ = false := fun j u hu => own_cell HC7.out.own (by
          have hlt : 3 + j < Z9.toList.length := (List.getElem?_eq_some_iff.1 hu).1
          rw [List.getElem?_append_left (by omega)]
          exact hu)
        obtain ⟨a0, b0⟩ := hat 0 _ rfl
        obtain ⟨a1, b1⟩ := hat 1 _ rfl
        obtain ⟨a2, b2⟩ := hat 2 _ rfl
        obtain ⟨a3, b3⟩ := hat 3 _ rfl
        obtain ⟨a4, b4⟩ := hat 4 _ rfl
        obtain ⟨a5, b5⟩ := hat 5 _ rfl
        rw [Nat.add_zero] at a0 b0
        obtain ⟨y0, y1, y2, y3, y4, y5⟩ := cells6 HX7.out
        have hpos : (0 : Int) < (gs.length : Int) + 1 := by omega
        have hpos2 : 0 < gs.length + 1 := by omega
        clear hat
        have hvq : q ≠ w3.heap.size + 1 ∧ w3.heap.size ≤ q := ⟨fun e => HC6.out.np (by rw [e]; rfl), by have := (HC6.out.own.lt q rfl).1; omega⟩
        have hro := row_six0 (y := y) HC7.out.own (by omega)
        obtain ⟨hk, hb8⟩ := six0_facts w3.heap.size w7 q hvq.2 y
        have hz : ∀ b, some b ≠ (Value.slice (some ⟨q, 0, none⟩) (gs.length + 1) cf).ownBlock → b < w7.heap.size → ((((((w7.setCell ⟨q, 3, none⟩ (.int .i64 y.d.kind)).setCell ⟨q, 4, none⟩ (.int .i64 y.d.n)).setCell ⟨q, 5, none⟩ (.string (bstr y.d.s))).setCell ⟨q, 6, none⟩ (.string (bstr y.d.t))).setCell ⟨q, 7, none⟩ (.slice y.d.nA y.d.nn y.d.nc)).setCell ⟨q, 8, none⟩ (.slice y.d.pA y.d.pn y.d.pc)).heap[b]? = w7.heap[b]? := fun b hb _ => hk b (fun e => hb (by rw [e]; rfl))
        have hyw := (HY.out.keep (w' := w7) (fun b _ hl => HBA.out.block b hl)).keep (w' := ((((((w7.setCell ⟨q, 3, none⟩ (.int .i64 y.d.kind)).setCell ⟨q, 4, none⟩ (.int .i64 y.d.n)).setCell ⟨q, 5, none⟩ (.string (bstr y.d.s))).setCell ⟨q, 6, none⟩ (.string (bstr y.d.t))).setCell ⟨q, 7, none⟩ (.slice y.d.nA y.d.nn y.d.nc)).setCell ⟨q, 8, none⟩ (.slice y.d.pA y.d.pn y.d.pc))) (fun b hb hl => hz b hb.2 hl)
        have HR := Lib.hid (show RcR t W (.returned (.tuple #[.slice (some ⟨q, 0, none⟩) (gs.length + 1) cf, .int .i64 0])) ((((((w7.setCell ⟨q, 3, none⟩ (.int .i64 y.d.kind)).setCell ⟨q, 4, none⟩ (.int .i64 y.d.n)).setCell ⟨q, 5, none⟩ (.string (bstr y.d.s))).setCell ⟨q, 6, none⟩ (.string (bstr y.d.t))).setCell ⟨q, 7, none⟩ (.slice y.d.nA y.d.nn y.d.nc)).setCell ⟨q, 8, none⟩ (.slice y.d.pA y.d.pn y.d.pc)).drew from ⟨below_then HB1.out (below_then H3.out (((below_then HB6.out HBA.out).trans hb8).drew)), .inr (.inr ⟨y, gs, some ⟨q, 0, none⟩, cf, rfl, (Rd.of_own hro).below (below_drew1 _), fun f hf => by
          rcases List.mem_cons.1 hf with rfl | r
          · exact ⟨Rd.nil _ _ _, ⟨Nat.le_refl _, Nat.zero_le _, Nat.zero_le _⟩, hyw.inn.lower (below_drew1 _)⟩
          · obtain ⟨a, b⟩ := HGS.out f r
            exact ((a.lower HBA.out).keepP b (fun b hb hl => hz b hb.2 hl)).lower (below_drew1 _), HQ.out, HF.out, HNF.out, HNL.out, HBG.out⟩)⟩)
        have HCP := Lib.hid (show ((((((w7.setCell ⟨q, 3, none⟩ (.int .i64 y.d.kind)).setCell ⟨q, 4, none⟩ (.int .i64 y.d.n)).setCell ⟨q, 5, none⟩ (.string (bstr y.d.s))).setCell ⟨q, 6, none⟩ (.string (bstr y.d.t))).setCell ⟨q, 7, none⟩ (.slice y.d.nA y.d.nn y.d.nc)).setCell ⟨q, 8, none⟩ (.slice y.d.pA y.d.pn y.d.pc)).drew.cell? ⟨w3.heap.size + 1, 0, none⟩ = some (.slice (some ⟨q, 0, none⟩) (gs.length + 1) cf) from by
          have h := (heap_drew ((hk (w3.heap.size + 1) (fun e => hvq.1 e.symm)).trans HC7.out.c))
          rw [Lib.cell_of_heap h]
          rfl)
        clear hro hk hb8 hz hyw hvq
        go_upto_region 8 with fail
        go_region
        refine then_k (by assumption) ?_
        exact close_out _ _ _ _ _ HCP.out _ HR.out
end Go.Proofs.Ytpnihimoekkepaa
