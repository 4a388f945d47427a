/-
  A row with all put in, by the code: its parts, one after another.
-/
import Derived.Test.YtklandpagieapaaDoorK07
import Derived.Deep.RegionHeld3
namespace Go.Proofs.YtklandpagieapaaDoor
open Go.ChangeShapes Go.WideShapes Go.ChangeAt Go.RowKit Go.Sort Go.Maps
set_option linter.unusedVariables false
set_option linter.unusedSimpArgs false
attribute [local irreducible] Go.wpQuiet

def dropSeqI : Nat → Code → Code
  | 0, c => c
  | n + 1, .seq _ b => dropSeqI n b
  | _ + 1, c => c
def headSeqI : Code → Code
  | .seq a _ => a
  | c => c
/-- The text from its n-th statement on; the n-th statement's first part, and what follows in it. -/
noncomputable def tlI (n : Nat) : Code := dropSeqI n (Tryd.f34.body.getD .skip)
noncomputable def haI (n : Nat) : Code := headSeqI (headSeqI (tlI n))
noncomputable def hbI (n : Nat) : Code := dropSeqI 1 (headSeqI (tlI n))

set_option maxRecDepth 100000 in
set_option maxHeartbeats 8000000 in
theorem inRow_loop {u2 u3 u5 u6 u8 u9 u10 u11 u12 u13 u14 u15 u16 u17 u18 u19 u20 u21 u22 u23 u24 u25 u26 u27 u28 u29 u30 u31 u32 u33 u34 u35 u36 u37 u38 u39 u40 u41 u42 u43 u44 u45 u46 u47 u48 u49 u50 u51 u52 u53 u54 u55 u56 u57 u58 u59 u60 u61 u62 u63 u64 u65 u66 u67 u68 u69 u70 u71 u72 u73 u74 u75 u76 u77 u78 u79 u80 u81 : Value} {F G : Int → Option Lf} (w0 W w5 : World) (p b o g c : Nat) (A : Option Addr) (d : TyD) (l : List Ty) (tl : Int) (X : Ty) (eX : X = .mk { d with tail := tl } (subRL F G l)) (hI : (Ty.mk d l).In w0) (hAt : d.At w0 b o) (hb : Below w0.heap.size w0 W)
    (hX : ∀ x ∈ l, ∀ (b o : Nat) (W : World), x.d.At w0 b o → Below w0.heap.size w0 W → Calls Tryd.prog 20 #[.pointer (some ⟨p, 0, none⟩), .pointer (some ⟨b, o, none⟩)] W (CpR (subR F G x) W))
    (hgd : d.n = 0 ∧ -1 ≤ d.tail ∧ d.pn = d.ln ∧ inOrder d.labels) (hpi : PiR W g d.kind 0 A d.ln c d.labels tl (.slice none 0 0) 0 [] (subRL F G l) w5) (hcc : d.ln ≤ c ∧ c ≤ maxLen)
    {K K2 : Act → World → Prop} (hK2 : ∀ a w, Code.wp Tryd.prog (hbI 4) (Exit.then K (bodyPost Tryd.prog Tryd.f34 (CpR X W))) a w → K2 a w) (hK : ∀ a w, Code.wp Tryd.prog (tlI 5) (bodyPost Tryd.prog Tryd.f34 (CpR X W)) a w → K a w) :
    Code.wp Tryd.prog (haI 4) (Exit.then K2 (Exit.then K (bodyPost Tryd.prog Tryd.f34 (CpR X W)))) ⟨#[.pointer (some ⟨p, 0, none⟩), .pointer (some ⟨b, o, none⟩), u2, u3, .pointer (some ⟨W.heap.size, 0, none⟩), u5, u6, .pointer (some ⟨g, 0, none⟩), u8, u9, u10, u11, u12, u13, u14, u15, u16, u17, u18, u19, u20, u21, u22, u23, u24, u25, u26, u27, u28, u29, u30, u31, u32, u33, u34, u35, u36, u37, u38, u39, u40, u41, u42, u43, u44, u45, u46, u47, u48, u49, u50, u51, u52, u53, u54, u55, u56, u57, u58, u59, u60, u61, u62, u63, u64, u65, u66, u67, u68, u69, u70, u71, u72, u73, u74, u75, u76, u77, u78, u79, u80, u81], []⟩ w5 := by
  have HE := Lib.hid (fun V (h : Below w0.heap.size w0 V) => (show d.At w0 b o from hAt).lower h)
  have HB := Lib.hid hb
  have HI := Lib.hid hI
  have HX := Lib.hid hX
  have HL := Lib.hid (show l.length = d.pn from hI.len)
  have HLL := Lib.hid (show d.labels.length = d.ln from hI.labLen)
  have HCP := Lib.hid hI.cap
  have HGD := Lib.hid hgd
  have HLB := Lib.hid (show Rd w0 1 d.lA d.ln (strs d.labels) from hI.lab)
  have HPI := Lib.hid hpi
  have HCC := Lib.hid hcc
  have HEX := Lib.hid eX
  clear hI hX hAt hb hgd hpi hcc eX
  conv at hK2 => enter [a, w, 1, 2]; whnf
  conv at hK => enter [a, w, 1, 2]; whnf
  conv => arg 2; whnf
  obtain ⟨t0, t1, t2, t3, t4⟩ := cells5 HPI.out.hd
  go_wp2_with fail
  clear t0 t1 t2 t3 t4
  go_loopw [39] (fun i wr => ∃ (k : Nat) (ys : List Ty) (v : Value), i = .int .i64 k ∧ k ≤ d.ln ∧ PiR W g d.kind 0 A d.ln c d.labels tl v k ys (subRL F G l) wr) (fun i _ => d.ln - (intOf i).toNat)
  case atStart => exact ⟨0, [], _, rfl, Nat.zero_le _, HPI.out⟩
  case round =>
    obtain ⟨k, ys, v, rfl, hk, hS⟩ := hrel
    obtain ⟨A1, k1, rfl, _⟩ := own_cap hS.own
    have HS1 := Lib.hid hS
    by_cases hlt : k < d.ln
    · have hkl : k < l.length := by rw [HL.out, HGD.out.2.2.1]; exact hlt
      have hks : k < d.labels.length := by rw [HLL.out]; exact hlt
      obtain ⟨pb, po, hpA, hAtP⟩ := HI.out.part (k := k) hkl
      have hpA' : d.pA = some ⟨pb, po, none⟩ := hpA
      obtain ⟨ab, ao, rfl, hcl⟩ := hS.lab.str (k := k) hks
      have hl1 := hcl k hks
      have HWB := Lib.hid (below_then HB.out hS.b)
      have HM := Lib.hid (fun V (h : Below wr.heap.size wr V) => HX.out l[k] (List.getElem_mem hkl) pb (po + k * 5) V (hAtP k hkl) (below_then HWB.out h))
      have HTK := Lib.hid (show (subRL F G l).take (k + 1) = (subRL F G l).take k ++ [subR F G l[k]] by rw [List.take_succ_eq_append_getElem (by rw [subRL_len]; exact hkl), subRL_at F G l k hkl])
      obtain ⟨x, hx⟩ : ∃ x, subR F G l[k] = x := ⟨_, rfl⟩
      rw [hx] at HM HTK
      have HHA := has_any d.lA d.labels d.labels[k] d.ln d.lc wr (HLB.out.below HWB.out) HCP.out.2.2.2.2.1 HGD.out.2.2.2
      rw [decide_eq_true (List.getElem_mem hks)] at HHA
      have HOF := fun V (h : Below wr.heap.size wr V) => offset_any d.lA d.labels d.labels[k] d.ln d.lc V (HLB.out.below (below_then HWB.out h)) HCP.out.2.2.2.2.1 HGD.out.2.2.2
      rw [offs_at HGD.out.2.2.2 k hks] at HOF
      obtain ⟨s, hs⟩ : ∃ s, d.labels[k] = s := ⟨_, rfl⟩
      rw [hs] at HHA HOF hl1
      have HHH := Lib.hid HHA
      have HOO := Lib.hid HOF
      obtain ⟨c0, c1, c2, c3, c4⟩ := HE.out _ HWB.out
      have HPP := Lib.hid hpA'
      have HC2 := Lib.hid (show ∀ V, Below wr.heap.size wr V → (V.cell? ⟨b, o + 2, none⟩ = some (.slice (some ⟨pb, po, none⟩) d.pn d.pc) ∧ V.cell? ⟨b, o + 3, none⟩ = some (.slice d.lA d.ln d.lc) ∧ V.cell? ⟨g, 2, none⟩ = some (.slice A1 k k1)) from fun V hV => ⟨by rw [← hpA']; exact (HE.out _ (below_then HWB.out hV)).c2, (HE.out _ (below_then HWB.out hV)).c3, cell_below hV (cells5 hS.hd).2.2.1⟩)
      have HGL := Lib.hid (lt_of_heap hS.hd)
      have hki : (k : Int) < (d.ln : Int) := by omega
      have hkp : (k : Int) < (d.pn : Int) := by have := HGD.out.2.2.1; omega
      have hk0 : (0 : Int) ≤ (k : Int) := by omega
      have hk4 : (k : Int) ≤ 4000000 := by have := HCP.out.2.2.2.2.1; show (k : Int) ≤ 4000000; have h9 : d.ln ≤ 4000000 := this; omega
      have HBY := Lib.hid (show (k + 1) * 72 ≤ 140737488355328 by have h9 : d.ln ≤ 4000000 := HCP.out.2.2.2.2.1; omega)
      have HLT := Lib.hid hlt
      clear hpA hpA' hAtP hkl hx hS hcl hs HHA HOF hks hlt
      go_wp2_with fail
      refine HHH.out.mono ?_
      rintro e w1 ⟨rfl, hb1⟩
      have H1 := Lib.hid hb1
      clear hb1 c0 c1 c2 c3 c4 hl1 HHH
      go_upto_region 9 with fail
      have hg0 : w0.heap.size ≤ g := by have := HB.out.size; have := HS1.out.hg; omega
      have HG0 := Lib.hid hg0
      have HVO := Lib.hid (show ∀ q, (Value.slice A1 k k1).ownBlock = some q → w0.heap.size ≤ q from fun q hq => by have := (HS1.out.own.lt q hq).1; omega)
      have HSC := Lib.hid (show ∀ V, Below w0.heap.size w0 V → (V.cell? ⟨b, o + 2, none⟩ = some (.slice (some ⟨pb, po, none⟩) d.pn d.pc) ∧ V.cell? ⟨b, o + 3, none⟩ = some (.slice d.lA d.ln d.lc)) from fun V hV => ⟨by rw [← HPP.out]; exact (HE.out _ hV).c2, (HE.out _ hV).c3⟩)
      have HD := Lib.hid (show Below wr.heap.size wr w1.drew from below_then H1.out (below_drew1 _))
      have HWD := Lib.hid (below_then HWB.out HD.out)
      have g1 := (HC2.out _ H1.out).2.2
      have hgd := (HC2.out _ HD.out).2.2
      clear hg0
      obtain ⟨c1a, c1b, c1c⟩ := HC2.out _ H1.out
      clear g1 hgd
      go_region_law (first
        | (go_simp; go_at_call 48; (with_reducible refine (HOO.out _ HD.out).mono ?_); rintro e w4 ⟨rfl, hb4⟩; have H4 := Lib.hid (And.intro (below_then HD.out hb4) (below_then HWD.out hb4)); obtain ⟨g4a, _, g4c⟩ := HC2.out _ H4.out.1; clear hb4)
        | (go_simp; go_at_call 20; (with_reducible refine (HM.out _ H4.out.1).mono ?_); rintro e w5 ⟨y, rfl, hin, hbl, he, hb5⟩; have hbw := below_then H4.out.1 hb5; have H5 := Lib.hid (And.intro hin (And.intro (show y.Bl (fun b => wr.heap.size ≤ b) from hbl.imp hin (fun b hb _ => Nat.le_trans H4.out.1.size hb)) (And.intro he (And.intro hbw (below_then H4.out.2 hb5))))); have hby : Below w5.heap.size w5 (w5.alloc (.cells #[.int .i64 y.d.kind, .int .i64 y.d.n, .slice y.d.pA y.d.pn y.d.pc, .slice y.d.lA y.d.ln y.d.lc, .int .i64 y.d.tail] 25)) := (Below.refl _ _).alloc (Nat.le_refl _) _; have g5 := (HC2.out _ hbw).2.2; have g6 := (HC2.out _ (below_then hbw hby)).2.2; have HYW := Lib.hid (below_then H5.out.2.2.2.2 hby); have HOW := Lib.hid (own_below (own_below HS1.out.own hbw) hby); have HRD := Lib.hid (Rd.lit (size := 5) (n := 1) w5 #[.int .i64 y.d.kind, .int .i64 y.d.n, .slice y.d.pA y.d.pn y.d.pc, .slice y.d.lA y.d.ln y.d.lc, .int .i64 y.d.tail] 25 rfl (fr := (0, 0))); have HSZ := Lib.hid (show g + 1 ≤ (w5.alloc (.cells #[.int .i64 y.d.kind, .int .i64 y.d.n, .slice y.d.pA y.d.pn y.d.pc, .slice y.d.lA y.d.ln y.d.lc, .int .i64 y.d.tail] 25)).heap.size by have := HGL.out; have := hbw.size; rw [World.size_alloc]; omega); have HBB := Lib.hid hby; have HH5 := Lib.hid ((hbw.block g HGL.out).trans HS1.out.hd); clear hin hbl he hb5 hbw hby)
        | (refine step_app elType (w5.alloc (.cells #[.int .i64 y.d.kind, .int .i64 y.d.n, .slice y.d.pA y.d.pn y.d.pc, .slice y.d.lA y.d.ln y.d.lc, .int .i64 y.d.tail] 25)) (by rfl) (.tmp 50) (.tmp 64) (by rfl) (g + 1) (.slice A1 k k1) k _ (by rfl) HOW.out (some ⟨w5.heap.size, 0, none⟩) 1 1 _ (by rfl) HRD.out (ty_ones y) HBY.out HSZ.out ?_; intro v6 w6 hown6 hg6 ho6; obtain ⟨A6, k6, hv6, _⟩ := own_cap hown6; rw [hv6] at hown6 ho6 ⊢; clear hv6; have H6 := Lib.hid (And.intro hown6 (And.intro hg6 ho6)); have H6W := Lib.hid (HYW.out.grown hg6 HYW.out.size HVO.out); have hh6 : w6.heap[g]? = some (.cells #[.int .i64 d.kind, .int .i64 0, .slice A1 k k1, .slice (some ⟨ab, ao, none⟩) d.ln c, .int .i64 tl] 25) := (hg6.block g (Nat.lt_of_lt_of_le (lt_of_heap HH5.out) HBB.out.size) (fun e => by have := (HS1.out.own.lt g e.symm).1; omega)).trans ((HBB.out.block g (lt_of_heap HH5.out)).trans HH5.out); have k6 : w6.cell? ⟨g, 2, none⟩ = some (.slice A1 k k1) := (cells5 hh6).2.2.1; have f6 := (frozen5 hh6).2.2.1; clear hown6 hg6 ho6 hh6)
        | fail)
      all_goals
        go_wp2_with fail
        have H7 := Lib.hid (HS1.out.step H5.out.2.2.2.1 H5.out.1 H5.out.2.1 H5.out.2.2.1 HTK.out HBB.out H6.out.1 H6.out.2.1 H6.out.2.2)
        go_roundw
        case rel => exact ⟨k + 1, ys ++ [y], _, by go_num, HLT.out, H7.out⟩
        case measure => have := HLT.out; simp [intOf] <;> omega
    · have hki : ¬ (k : Int) < (d.ln : Int) := by omega
      obtain rfl : k = d.ln := by omega
      have hmm : (subRL F G l).take d.ln = subRL F G l := List.take_of_length_le (by rw [subRL_len, HL.out, HGD.out.2.2.1]; omega)
      have HEV := Lib.hid (show tyL ys (subRL F G l) by have h := hS.eqv; rwa [hmm] at h)
      obtain ⟨t0, t1, t2, t3, t4⟩ := cells5 hS.hd
      obtain ⟨r0, r1, r2, r3, r4⟩ := cells5 hS.rs
      obtain ⟨z0, z1, z2, z3, z4⟩ := frozen5 hS.rs
      obtain ⟨A2, k2, hv2, hc1, hc2, _⟩ := own_cap hS.own
      injection hv2 with h1 h2 h3
      subst h1
      subst h3
      have HIN : RowKit.Hid ((Ty.mk ⟨d.kind, 0, A1, d.ln, k1, A, d.ln, c, d.labels, tl⟩ ys).In wr) := Lib.hid (.mk _ _ hS.lab (Rd.of_own hS.own) ⟨HCC.out.1, HCC.out.2, hc1, hc2, HCP.out.2.2.2.2.1, by have h9 : d.ln ≤ 4000000 := HCP.out.2.2.2.2.1; show d.ln ≤ 4000000; omega⟩ hS.inn)
      have HBL : RowKit.Hid ((Ty.mk ⟨d.kind, 0, A1, d.ln, k1, A, d.ln, c, d.labels, tl⟩ ys).Bl (fun b => W.heap.size + 1 ≤ b)) := Lib.hid (.mk _ _ (fun hn a ha => (hS.lb hn a ha).1) (fun _ a ha => by have := (hS.own.lt a.block (by rw [show A1 = some a from ha]; rfl)).1; have := hS.hg; omega) (fun y hy => (hS.bl y hy).imp (hS.inn y hy) (fun b hb _ => by have := hb.1; have := hS.hg; omega)))
      have HEN := Lib.hid (rc_end HIN.out HBL.out (Nat.lt_succ_self _) hS.b (Nat.le_refl _) hS.rs (.int .i64 d.kind) (.int .i64 0) (.slice A1 d.ln k1) (.slice A d.ln c) (.int .i64 tl))
      clear hS hc1 hc2
      go_wp2_with fail
      clear t0 t1 t2 t3 t4 r0 r1 r2 r3 r4 z0 z1 z2 z3 z4
      generalize (((((wr.setCell ⟨W.heap.size, 0, none⟩ (.int .i64 d.kind)).setCell ⟨W.heap.size, 1, none⟩ (.int .i64 0)).setCell ⟨W.heap.size, 2, none⟩ (.slice A1 d.ln k1)).setCell ⟨W.heap.size, 3, none⟩ (.slice A d.ln c)).setCell ⟨W.heap.size, 4, none⟩ (.int .i64 tl)) = w7 at *
      obtain ⟨e0, e1, e2, e3, e4⟩ := cells5 HEN.out.2.2
      refine bodyPost_ret (by simp [results, Tryd.results34, go_sem, e0, e1, e2, e3, e4]; try rfl) rfl ?_
      exact ⟨Ty.mk ⟨d.kind, 0, A1, d.ln, k1, A, d.ln, c, d.labels, tl⟩ ys, rfl, HEN.out.1, HBL.out.imp HIN.out (fun b hb _ => by omega), by rw [HEX.out]; exact ⟨rfl, HGD.out.1.symm, rfl, rfl, HEV.out⟩, HEN.out.2.1⟩
end Go.Proofs.YtklandpagieapaaDoor
