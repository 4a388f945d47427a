/-
  Numbers given to an expression's functions, by the code: its parts.
-/
import Derived.Test.YtpnihimoekkepaaCoU
import Derived.Deep.CutBlock
namespace Go.Proofs.Ytpnihimoekkepaa
open Go.ChangeShapes Go.WideShapes Go.ChangeAt Go.RowKit Go.Sort
set_option linter.unusedVariables false
set_option linter.unusedSimpArgs false

/-- Where a way through a block has come to its end. -/
theorem leaf_close {R J K : Act → World → Prop} {Q : Exit → Act → World → Prop} {n : Nat} {a : Act} {w : World} (h2 : ∀ a w, Met J a w → K a w) (h1 : ∀ a w, R a w → J a w) (h : R a w) : Exit.inBlock n (Exit.then K Q) .normal a w := h2 _ _ (Met.intro (h1 _ _ h))
theorem z6_ones : ∀ u ∈ (#[.int .i64 0, .int .i64 0, .string ⟨#[]⟩, .string ⟨#[]⟩, .slice none 0 0, .slice none 0 0] : Array Value).toList, u.oneCell' = true := by
  intro u hu
  simp at hu
  rcases hu with rfl | rfl | rfl | rfl | rfl | rfl <;> rfl
theorem own_some {w : World} {base n : Nat} {e : TypeId} {size : Nat} {v : Value} {xs : List Value} (h : w.ownsRow base e size v (n + 1) xs) : ∃ q cap, v = .slice (some ⟨q, 0, none⟩) (n + 1) cap := by
  rcases h.2 with ⟨_, e⟩ | ⟨g, cap, cur, hv, _⟩
  · omega
  · exact ⟨g, cap, hv⟩
theorem rd_kw {p : Nat} {w w' : World} {v v' : Value} {size n q : Nat} {cs : List Value} (h : Rd w size (some ⟨q, 0, none⟩) n cs) (hk : KW p w v w' v') (hp : q ≠ p) (hv : v.ownBlock ≠ some q) : Rd w' size (some ⟨q, 0, none⟩) n cs :=
  rd_keepP (P := fun b => b = q) h (fun _ a ha => by cases ha; rfl) (fun b hb hl => by subst hb; exact hk.block b hl hp (fun e => hv e.symm))
/-- What lay ahead of all stays. -/
theorem Sx.below0 {w0 : World} {g p : Nat} {d : ExD} {A : Option Addr} {c : Nat} {rv v : Value} {wr : World} {r : Value} {n : Nat} {cl : List Value} {h v' : Value} {vs' : List Value} {ys : List Ex} {zs : List (Nat × Ex)} {V : World} (hb : Below w0.heap.size w0 wr ∧ w0.heap.size ≤ p) (fx : Fx g p rv v wr) (s : Sx g p d A c rv v wr r n cl h v' vs' ys zs V) : Below w0.heap.size w0 V := by
  have hp := hb.2
  have hpg := fx.pg
  have hgl := fx.gl
  exact ⟨s.os.trans hb.1.os, s.tape.trans hb.1.tape, s.output.trans hb.1.output, Nat.le_trans hb.1.size s.size, fun i hi => (s.kept i (by omega) (by omega) (by omega) (fun e => by have := (fx.rg i e.symm).1; omega) (fun e => by have := (fx.vp i e.symm).1; omega)).trans (hb.1.block i hi)⟩

theorem cntL_take (l : List Ex) (k : Nat) : cntL (l.take k) ≤ cntL l := by
  induction l generalizing k with
  | nil => simp [cntL]
  | cons y l ih =>
    cases k with
    | zero => simp [cntL]
    | succ k => simp only [List.take_succ_cons, cntL]; have := ih k; omega

set_option maxRecDepth 100000 in
set_option maxHeartbeats 60000000 in
theorem num_loop {u2 u3 u6 u7 u8 u9 u10 u11 u12 u13 u14 u15 u16 u17 u18 u19 u20 u21 u22 u23 u24 u25 u26 u27 u28 u29 u30 u31 u32 u33 u34 u35 u36 u37 u38 u39 u40 u41 u42 u43 u44 u45 u46 u47 u48 u49 u50 u51 u52 u53 u54 u55 u56 u57 u58 u59 u60 : Value} (w0 W w5 : World) (p b o g c : Nat) (A : Option Addr) (d : ExD) (l : List Ex) (v0 v5 : Value) (vs0 vs1 : List Value) (X : Ex) (eX : X = .mk d l)
    (hI : (Ex.mk d l).In w0) (hAt : d.At w0 b o) (hb : Below w0.heap.size w0 W ∧ w0.heap.size ≤ p) (hv0 : ∀ q, v0.ownBlock = some q → w0.heap.size ≤ q)
    (hX : ∀ x ∈ l, ∀ (b o : Nat) (v : Value) (vs : List Value) (V : World), x.d.At w0 b o → Below w0.heap.size w0 V → CS V p v vs → vs.length + x.cnt ≤ 4000000 → Calls Try.prog 18 #[.pointer (some ⟨p, 0, none⟩), .pointer (some ⟨b, o, none⟩)] V (NmR x p v vs V))
    (hpi : PiN W p v0 g (d.numD vs0.length) A c vs1 l 0 [] (.slice none 0 0) v5 [] w5) (hvs : vs1 = vs0 ++ (if d.kind = 4 ∨ d.kind = 7 then [.pointer none] else [])) (hcnt : vs1.length + cntL l ≤ 4000000) (hcc : d.nn ≤ c ∧ c ≤ maxLen)
    {K K2 : Act → World → Prop} (hK2 : ∀ a w, Code.wp Try.prog (hbG 3) (Exit.then K (bodyPost Try.prog Try.f18 (NmR X p v0 vs0 W))) a w → K2 a w) (hK : ∀ a w, Code.wp Try.prog (tlG 4) (bodyPost Try.prog Try.f18 (NmR X p v0 vs0 W)) a w → K a w) :
    Code.wp Try.prog (hcG 3) (Exit.then K2 (Exit.then K (bodyPost Try.prog Try.f18 (NmR X p v0 vs0 W)))) ⟨#[.pointer (some ⟨p, 0, none⟩), .pointer (some ⟨b, o, none⟩), u2, u3, .pointer (some ⟨W.heap.size, 0, none⟩), .pointer (some ⟨g, 0, none⟩), u6, u7, u8, u9, u10, u11, u12, u13, u14, u15, u16, u17, u18, u19, u20, u21, u22, u23, u24, u25, u26, u27, u28, u29, u30, u31, u32, u33, u34, u35, u36, u37, u38, u39, u40, u41, u42, u43, u44, u45, u46, u47, u48, u49, u50, u51, u52, u53, u54, u55, u56, u57, u58, u59, u60], []⟩ w5 := by
  have HE := Lib.hid (fun V (h : Below w0.heap.size w0 V) => (show d.At w0 b o from hAt).lower h)
  have HB := Lib.hid hb
  have HI := Lib.hid hI
  have HX := Lib.hid hX
  have HL := Lib.hid (show l.length = d.pn from hI.len)
  have HCP := Lib.hid (show (d.nn ≤ d.nc ∧ d.nc ≤ maxLen ∧ d.nn ≤ 4000000) ∧ (d.pn ≤ d.pc ∧ d.pc ≤ maxLen ∧ d.pn ≤ 4000000) ∧ d.s.length ≤ 4000000 ∧ d.t.length ≤ 4000000 ∧ ∀ s ∈ d.names, s.length ≤ 4000000 from hI.cap)
  have HPI := Lib.hid hpi
  have HCC := Lib.hid hcc
  have HCN := Lib.hid hcnt
  have HVS := Lib.hid hvs
  have HEX := Lib.hid eX
  have HKB := Lib.hid (show ∀ wr v, KW p W v0 wr v → Below w0.heap.size w0 wr from fun wr v h => h.below hb.1 hb.2 hpi.hp hv0)
  clear hI hAt hb hX hpi hcc hcnt hvs eX hv0
  conv at hK2 => enter [a, w, 1, 2]; whnf
  conv at hK => enter [a, w, 1, 2]; whnf
  conv => arg 2; whnf
  have c5 := (HE.out _ (HKB.out _ _ HPI.out.kw)).c5
  go_wp2_with fail
  clear c5
  go_loopw [31] (fun i wr => ∃ (k : Nat) (ys : List Ex) (rv v : Value) (zs : List (Nat × Ex)), i = .int .i64 k ∧ k ≤ d.pn ∧ PiN W p v0 g (d.numD vs0.length) A c vs1 l k ys rv v zs wr) (fun i _ => d.pn - (intOf i).toNat)
  case atStart => exact ⟨0, [], _, _, [], rfl, Nat.zero_le _, HPI.out⟩
  case round =>
    obtain ⟨k, ys, rv, v, zs, rfl, hk, hS⟩ := hrel
    obtain ⟨A1, k1, rfl, _⟩ := own_cap hS.own
    have HS := Lib.hid hS
    by_cases hlt : k < d.pn
    · have hkl : k < l.length := by rw [HL.out]; exact hlt
      have HLT := Lib.hid hlt
      obtain ⟨pb, po, hpA, hAtP⟩ := HI.out.part (k := k) hkl
      have HPA := Lib.hid (show d.pA = some ⟨pb, po, none⟩ from hpA)
      have HB0 := Lib.hid (show Below w0.heap.size w0 wr ∧ w0.heap.size ≤ p from ⟨HKB.out _ _ hS.kw, HB.out.2⟩)
      have HFX := Lib.hid hS.fx
      have HTK := Lib.hid (show l.take (k + 1) = l.take k ++ [l[k]] from List.take_succ_eq_append_getElem hkl)
      have HCN1 := Lib.hid (show (vs1 ++ zs.map ptr).length + (l[k]).cnt ≤ 4000000 by
        have h1 := hS.cnt
        have h2 := cntL_take l (k + 1)
        rw [HTK.out, cntL_snoc] at h2
        have h3 := HCN.out
        omega)
      have HCALL := Lib.hid (show ∀ (V : World) (r : Value) (n : Nat) (cl : List Value) (h : Value), Sx g p (d.numD vs0.length) A c (.slice A1 k k1) v wr r n cl h v (vs1 ++ zs.map ptr) [] [] V → Calls Try.prog 18 #[.pointer (some ⟨p, 0, none⟩), .pointer (some ⟨pb, po + k * 6, none⟩)] V (NmR l[k] p v (vs1 ++ zs.map ptr) V) from fun V r n cl h s => HX.out l[k] (List.getElem_mem hkl) pb (po + k * 6) v _ V (hAtP k hkl) (Sx.below0 HB0.out HFX.out s) s.cs HCN1.out)
      obtain ⟨x, hx⟩ : ∃ x, l[k] = x := ⟨_, rfl⟩
      rw [hx] at HCALL HTK
      have HS0 := Lib.hid (hS.sx.below (below_drew1 wr))
      have hba : Below wr.heap.size wr (wr.alloc (.cells #[.int .i64 0, .int .i64 0, .string ⟨#[]⟩, .string ⟨#[]⟩, .slice none 0 0, .slice none 0 0] 25)) := (Below.refl _ _).alloc (Nat.le_refl _) _
      have HSA := Lib.hid (hS.sx.below (below_then hba (below_drew1 _)))
      have HSB := Lib.hid (show Sx g p (d.numD vs0.length) A c (.slice A1 k k1) v wr (.slice A1 k k1) k (ys.flatMap Ex.cells) (.slice A1 k k1) v (vs1 ++ zs.map ptr) [] [] (wr.drew.alloc (.cells #[.int .i64 0, .int .i64 0, .string ⟨#[]⟩, .string ⟨#[]⟩, .slice none 0 0, .slice none 0 0] 25)) from HS0.out.below ((Below.refl _ _).alloc (Nat.le_refl _) _))
      have HRDA := Lib.hid (show Rd ((wr.alloc (.cells #[.int .i64 0, .int .i64 0, .string ⟨#[]⟩, .string ⟨#[]⟩, .slice none 0 0, .slice none 0 0] 25)).drew) 6 (some ⟨wr.heap.size, 0, none⟩) 1 (#[.int .i64 0, .int .i64 0, .string ⟨#[]⟩, .string ⟨#[]⟩, .slice none 0 0, .slice none 0 0] : Array Value).toList from (Rd.lit (size := 6) (n := 1) wr (#[.int .i64 0, .int .i64 0, .string ⟨#[]⟩, .string ⟨#[]⟩, .slice none 0 0, .slice none 0 0] : Array Value) 25 rfl (fr := (0, 0))).below (below_drew1 _))
      have HKK : RowKit.Hid (∀ {r : Value} {n : Nat} {cl : List Value} {h v' : Value} {vs' : List Value} {ys' : List Ex} {zs' : List (Nat × Ex)} {V : World}, Sx g p (d.numD vs0.length) A c (.slice A1 k k1) v wr r n cl h v' vs' ys' zs' V → V.cell? ⟨b, o + 5, none⟩ = some (.slice (some ⟨pb, po, none⟩) d.pn d.pc)) := Lib.hid (fun s => by rw [← HPA.out]; exact (HE.out _ (Sx.below0 HB0.out HFX.out s)).c5)
      have HXL := Lib.hid (show (ys.flatMap Ex.cells).length = k * 6 from hS.own.1)
      have HBY := Lib.hid (show (k + 1) * 96 ≤ 140737488355328 by have := HCP.out.2.1.2.2; omega)
      have c5 := (HE.out _ HB0.out.1).c5
      have c5a := (HE.out _ (below_then HB0.out.1 hba)).c5
      rw [HPA.out] at c5 c5a
      obtain ⟨t5, _⟩ := Sx.told5 hS.sx
      have t5a := cell_below hba t5
      have hki : (k : Int) < (d.pn : Int) := by omega
      have hk0 : (0 : Int) ≤ (k : Int) := by omega
      have hk1 : (k : Int) < (k : Int) + 1 := by omega
      have hk4 : (k : Int) ≤ 4000000 := by have := HCP.out.2.1.2.2; omega
      clear HCN1 hpA hAtP hkl hx hS hlt hba
      go_upto_block 1 with fail
      go_cut [6] from 33 to 48 (fun x6 wx => ∃ (rv1 v1 : Value) (y : Ex) (zs1 : List (Nat × Ex)), Sx g p (d.numD vs0.length) A c (.slice A1 k k1) v wr rv1 (k + 1) (ys.flatMap Ex.cells ++ [(.int .i64 y.d.kind), (.int .i64 y.d.n), (.string (bstr y.d.s)), (.string (bstr y.d.t)), (.slice y.d.nA y.d.nn y.d.nc), (.slice y.d.pA y.d.pn y.d.pc)]) rv1 v1 ((vs1 ++ zs.map ptr) ++ zs1.map ptr) [y] zs1 wx ∧ y.eqv (numE x (vs1 ++ zs.map ptr).length) ∧ exL (zs1.map Prod.snd) (fnsE x (vs1 ++ zs.map ptr).length))
      case first =>
        clear HX HL HPI HCC HCN HVS HEX HKB HPA HTK HLT HB0 HE HB HI HS HCP
        try clear hK2
        try clear hK
        go_wp2_with fail
        go_region_law (first
          | (go_simp; go_at_call 18; (first
          | ((with_reducible refine (HCALL.out _ _ _ _ _ HS0.out).mono ?_); rintro e w1 ⟨y, v1, zs1, rfl, hy, he, hcs, hz, hze, hkw⟩; have HS1 := Lib.hid (Sx.call HFX.out HS0.out hkw hcs hy hz); have HS1A := Lib.hid (Sx.below HS1.out (show Below w1.heap.size w1 (w1.alloc (.cells #[.int .i64 0, .int .i64 0, .string ⟨#[]⟩, .string ⟨#[]⟩, .slice none 0 0, .slice none 0 0] 25)) from (Below.refl _ _).alloc (Nat.le_refl _) _)); have HRD := Lib.hid (Rd.lit (size := 6) (n := 1) w1 (#[.int .i64 0, .int .i64 0, .string ⟨#[]⟩, .string ⟨#[]⟩, .slice none 0 0, .slice none 0 0] : Array Value) 25 rfl (fr := (0, 0))); have HEQ := Lib.hid (And.intro he hze); obtain ⟨a5, _⟩ := Sx.told5 HS1.out; obtain ⟨b5, _⟩ := Sx.told5 HS1A.out; clear hy he hcs hz hze hkw)
          | ((first | with_reducible refine (HCALL.out _ _ _ _ _ HSA.out).mono ?_ | with_reducible refine (HCALL.out _ _ _ _ _ HSB.out).mono ?_); rintro e w1 ⟨y, v1, zs1, rfl, hy, he, hcs, hz, hze, hkw⟩; have HS1 := Lib.hid (Sx.call HFX.out HSA.out hkw hcs hy hz); have HRD := Lib.hid (rd_kw HRDA.out hkw (by have := HFX.out.pg; have := HFX.out.gl; omega) (fun e => by have := (HFX.out.vp _ e).2.1; omega)); have HEQ := Lib.hid (And.intro he hze); obtain ⟨a5, _⟩ := Sx.told5 HS1.out; clear hy he hcs hz hze hkw)
          | ((with_reducible refine (HCALL.out _ _ _ _ _ HS6.out).mono ?_); rintro e w1 ⟨y, v1, zs1, rfl, hy, he, hcs, hz, hze, hkw⟩; have HS7 := Lib.hid (Sx.call HFX.out HS6.out hkw hcs hy hz); have HEQ := Lib.hid (And.intro he hze); clear e0 e1; have HT7 := Lib.hid (Sx.tell HFX.out HS7.out (.slice (some ⟨q6, 0, none⟩) (k + 1) c6)); have HP7 := Lib.hid (Sx.six HFX.out HXL.out HS7.out (.int .i64 y.d.kind) (.int .i64 y.d.n) (.string (bstr y.d.s)) (.string (bstr y.d.t)) (.slice y.d.nA y.d.nn y.d.nc) (.slice y.d.pA y.d.pn y.d.pc)); have HFIN1 := Lib.hid (Sx.tell HFX.out HP7.out (.slice (some ⟨q6, 0, none⟩) (k + 1) c6)); have HFIN2 := Lib.hid (Sx.six HFX.out HXL.out HT7.out (.int .i64 y.d.kind) (.int .i64 y.d.n) (.string (bstr y.d.s)) (.string (bstr y.d.t)) (.slice y.d.nA y.d.nn y.d.nc) (.slice y.d.pA y.d.pn y.d.pc)); obtain ⟨⟨g0, g1, g2, g3, g4, g5⟩, ⟨z0, z1, z2, z3, z4, z5⟩⟩ := Sx.zero6 HXL.out HS7.out; obtain ⟨⟨j0, j1, j2, j3, j4, j5⟩, ⟨y0, y1, y2, y3, y4, y5⟩⟩ := Sx.zero6 HXL.out HT7.out; obtain ⟨m0, m1⟩ := Sx.told5 HS7.out; obtain ⟨n0, n1⟩ := Sx.told5 HP7.out; clear hy he hcs hz hze hkw)
          | ((with_reducible refine (HCALL.out _ _ _ _ _ HSH.out).mono ?_); rintro e w1 ⟨y, v1, zs1, rfl, hy, he, hcs, hz, hze, hkw⟩; have HS8 := Lib.hid (Sx.call HFX.out HSH.out hkw hcs hy hz); have HEQ := Lib.hid (And.intro he hze); have HFIN3 := Lib.hid (Sx.six HFX.out HXL.out HS8.out (.int .i64 y.d.kind) (.int .i64 y.d.n) (.string (bstr y.d.s)) (.string (bstr y.d.t)) (.slice y.d.nA y.d.nn y.d.nc) (.slice y.d.pA y.d.pn y.d.pc)); obtain ⟨⟨g0, g1, g2, g3, g4, g5⟩, ⟨z0, z1, z2, z3, z4, z5⟩⟩ := Sx.zero6 HXL.out HS8.out; clear hy he hcs hz hze hkw)))
          | (first
          | (refine step_app elCore ((wr.alloc (.cells #[.int .i64 0, .int .i64 0, .string ⟨#[]⟩, .string ⟨#[]⟩, .slice none 0 0, .slice none 0 0] 25)).drew) (by rfl) (.tmp 35) (.tmp 45) (by rfl) (g + 1) (.slice A1 k k1) k _ (by rfl) HSA.out.own (some ⟨wr.heap.size, 0, none⟩) 1 1 _ (by rfl) HRDA.out z6_ones HBY.out (by have := HFX.out.gl; have := HSA.out.size; omega) ?_; intro v6 w6 hown6 hg6 ho6; obtain ⟨q6, c6, hv6⟩ := own_some hown6; rw [hv6] at hown6 ho6 ⊢; clear hv6; have HS6 := Lib.hid (Sx.app HFX.out HSA.out hown6 hg6 ho6); clear hown6 hg6 ho6; have HSH := Lib.hid (Sx.tell HFX.out HS6.out (.slice (some ⟨q6, 0, none⟩) (k + 1) c6)); obtain ⟨e0, e1⟩ := Sx.told5 HS6.out; have c56 := HKK.out HS6.out; have c57 := HKK.out HSH.out)
          | (refine step_app elCore (w1.alloc (.cells #[.int .i64 0, .int .i64 0, .string ⟨#[]⟩, .string ⟨#[]⟩, .slice none 0 0, .slice none 0 0] 25)) (by rfl) (.tmp 35) (.tmp 45) (by rfl) (g + 1) (.slice A1 k k1) k _ (by rfl) HS1A.out.own (some ⟨w1.heap.size, 0, none⟩) 1 1 _ (by rfl) HRD.out z6_ones HBY.out (by have := HFX.out.gl; have := HS1A.out.size; omega) ?_; intro v6 w6 hown6 hg6 ho6; obtain ⟨q6, c6, hv6⟩ := own_some hown6; rw [hv6] at hown6 ho6 ⊢; clear hv6; have HS6 := Lib.hid (Sx.app HFX.out HS1A.out hown6 hg6 ho6); clear hown6 hg6 ho6; have HT6 := Lib.hid (Sx.tell HFX.out HS6.out (.slice (some ⟨q6, 0, none⟩) (k + 1) c6)); have HP6 := Lib.hid (Sx.six HFX.out HXL.out HS6.out (.int .i64 y.d.kind) (.int .i64 y.d.n) (.string (bstr y.d.s)) (.string (bstr y.d.t)) (.slice y.d.nA y.d.nn y.d.nc) (.slice y.d.pA y.d.pn y.d.pc)); have HFIN1 := Lib.hid (Sx.tell HFX.out HP6.out (.slice (some ⟨q6, 0, none⟩) (k + 1) c6)); have HFIN2 := Lib.hid (Sx.six HFX.out HXL.out HT6.out (.int .i64 y.d.kind) (.int .i64 y.d.n) (.string (bstr y.d.s)) (.string (bstr y.d.t)) (.slice y.d.nA y.d.nn y.d.nc) (.slice y.d.pA y.d.pn y.d.pc)); obtain ⟨⟨g0, g1, g2, g3, g4, g5⟩, ⟨z0, z1, z2, z3, z4, z5⟩⟩ := Sx.zero6 HXL.out HS6.out; obtain ⟨⟨j0, j1, j2, j3, j4, j5⟩, ⟨y0, y1, y2, y3, y4, y5⟩⟩ := Sx.zero6 HXL.out HT6.out; obtain ⟨m0, m1⟩ := Sx.told5 HS6.out; obtain ⟨n0, n1⟩ := Sx.told5 HP6.out)
          | (refine step_app elCore w1 (by rfl) (.tmp 35) (.tmp 45) (by rfl) (g + 1) (.slice A1 k k1) k _ (by rfl) HS1.out.own (some ⟨wr.heap.size, 0, none⟩) 1 1 _ (by rfl) HRD.out z6_ones HBY.out (by have := HFX.out.gl; have := HS1.out.size; omega) ?_; intro v6 w6 hown6 hg6 ho6; obtain ⟨q6, c6, hv6⟩ := own_some hown6; rw [hv6] at hown6 ho6 ⊢; clear hv6; have HS6 := Lib.hid (Sx.app HFX.out HS1.out hown6 hg6 ho6); clear hown6 hg6 ho6; have HT6 := Lib.hid (Sx.tell HFX.out HS6.out (.slice (some ⟨q6, 0, none⟩) (k + 1) c6)); have HP6 := Lib.hid (Sx.six HFX.out HXL.out HS6.out (.int .i64 y.d.kind) (.int .i64 y.d.n) (.string (bstr y.d.s)) (.string (bstr y.d.t)) (.slice y.d.nA y.d.nn y.d.nc) (.slice y.d.pA y.d.pn y.d.pc)); have HFIN1 := Lib.hid (Sx.tell HFX.out HP6.out (.slice (some ⟨q6, 0, none⟩) (k + 1) c6)); have HFIN2 := Lib.hid (Sx.six HFX.out HXL.out HT6.out (.int .i64 y.d.kind) (.int .i64 y.d.n) (.string (bstr y.d.s)) (.string (bstr y.d.t)) (.slice y.d.nA y.d.nn y.d.nc) (.slice y.d.pA y.d.pn y.d.pc)); obtain ⟨⟨g0, g1, g2, g3, g4, g5⟩, ⟨z0, z1, z2, z3, z4, z5⟩⟩ := Sx.zero6 HXL.out HS6.out; obtain ⟨⟨j0, j1, j2, j3, j4, j5⟩, ⟨y0, y1, y2, y3, y4, y5⟩⟩ := Sx.zero6 HXL.out HT6.out; obtain ⟨m0, m1⟩ := Sx.told5 HS6.out; obtain ⟨n0, n1⟩ := Sx.told5 HP6.out))
          | fail)
        · refine leaf_close (by assumption) (by assumption) ?_
          with_reducible exact ⟨_, _, _, _, _, _, _, _, _, _, _, _, _, _, _, _, _, ⟨_, _, _, _, HFIN1.out, HEQ.out.1, HEQ.out.2⟩, rfl⟩
        · refine leaf_close (by assumption) (by assumption) ?_
          with_reducible exact ⟨_, _, _, _, _, _, _, _, _, _, _, _, _, _, _, _, _, ⟨_, _, _, _, HFIN2.out, HEQ.out.1, HEQ.out.2⟩, rfl⟩
        · refine leaf_close (by assumption) (by assumption) ?_
          with_reducible exact ⟨_, _, _, _, _, _, _, _, _, _, _, _, _, _, _, _, _, ⟨_, _, _, _, HFIN1.out, HEQ.out.1, HEQ.out.2⟩, rfl⟩
        · refine leaf_close (by assumption) (by assumption) ?_
          with_reducible exact ⟨_, _, _, _, _, _, _, _, _, _, _, _, _, _, _, _, _, ⟨_, _, _, _, HFIN2.out, HEQ.out.1, HEQ.out.2⟩, rfl⟩
        · refine leaf_close (by assumption) (by assumption) ?_
          with_reducible exact ⟨_, _, _, _, _, _, _, _, _, _, _, _, _, _, _, _, _, ⟨_, _, _, _, HFIN1.out, HEQ.out.1, HEQ.out.2⟩, rfl⟩
        · refine leaf_close (by assumption) (by assumption) ?_
          with_reducible exact ⟨_, _, _, _, _, _, _, _, _, _, _, _, _, _, _, _, _, ⟨_, _, _, _, HFIN2.out, HEQ.out.1, HEQ.out.2⟩, rfl⟩
        · refine leaf_close (by assumption) (by assumption) ?_
          with_reducible exact ⟨_, _, _, _, _, _, _, _, _, _, _, _, _, _, _, _, _, ⟨_, _, _, _, HFIN1.out, HEQ.out.1, HEQ.out.2⟩, rfl⟩
        · refine leaf_close (by assumption) (by assumption) ?_
          with_reducible exact ⟨_, _, _, _, _, _, _, _, _, _, _, _, _, _, _, _, _, ⟨_, _, _, _, HFIN2.out, HEQ.out.1, HEQ.out.2⟩, rfl⟩
        · refine leaf_close (by assumption) (by assumption) ?_
          with_reducible exact ⟨_, _, _, _, _, _, _, _, _, _, _, _, _, _, _, _, _, ⟨_, _, _, _, HFIN1.out, HEQ.out.1, HEQ.out.2⟩, rfl⟩
        · refine leaf_close (by assumption) (by assumption) ?_
          with_reducible exact ⟨_, _, _, _, _, _, _, _, _, _, _, _, _, _, _, _, _, ⟨_, _, _, _, HFIN2.out, HEQ.out.1, HEQ.out.2⟩, rfl⟩
        · refine leaf_close (by assumption) (by assumption) ?_
          with_reducible exact ⟨_, _, _, _, _, _, _, _, _, _, _, _, _, _, _, _, _, ⟨_, _, _, _, HFIN1.out, HEQ.out.1, HEQ.out.2⟩, rfl⟩
        · refine leaf_close (by assumption) (by assumption) ?_
          with_reducible exact ⟨_, _, _, _, _, _, _, _, _, _, _, _, _, _, _, _, _, ⟨_, _, _, _, HFIN2.out, HEQ.out.1, HEQ.out.2⟩, rfl⟩
        · refine leaf_close (by assumption) (by assumption) ?_
          with_reducible exact ⟨_, _, _, _, _, _, _, _, _, _, _, _, _, _, _, _, _, ⟨_, _, _, _, HFIN1.out, HEQ.out.1, HEQ.out.2⟩, rfl⟩
        · refine leaf_close (by assumption) (by assumption) ?_
          with_reducible exact ⟨_, _, _, _, _, _, _, _, _, _, _, _, _, _, _, _, _, ⟨_, _, _, _, HFIN2.out, HEQ.out.1, HEQ.out.2⟩, rfl⟩
        · refine leaf_close (by assumption) (by assumption) ?_
          with_reducible exact ⟨_, _, _, _, _, _, _, _, _, _, _, _, _, _, _, _, _, ⟨_, _, _, _, HFIN1.out, HEQ.out.1, HEQ.out.2⟩, rfl⟩
        · refine leaf_close (by assumption) (by assumption) ?_
          with_reducible exact ⟨_, _, _, _, _, _, _, _, _, _, _, _, _, _, _, _, _, ⟨_, _, _, _, HFIN2.out, HEQ.out.1, HEQ.out.2⟩, rfl⟩
        · refine leaf_close (by assumption) (by assumption) ?_
          with_reducible exact ⟨_, _, _, _, _, _, _, _, _, _, _, _, _, _, _, _, _, ⟨_, _, _, _, HFIN1.out, HEQ.out.1, HEQ.out.2⟩, rfl⟩
        · refine leaf_close (by assumption) (by assumption) ?_
          with_reducible exact ⟨_, _, _, _, _, _, _, _, _, _, _, _, _, _, _, _, _, ⟨_, _, _, _, HFIN2.out, HEQ.out.1, HEQ.out.2⟩, rfl⟩
        · refine leaf_close (by assumption) (by assumption) ?_
          with_reducible exact ⟨_, _, _, _, _, _, _, _, _, _, _, _, _, _, _, _, _, ⟨_, _, _, _, HFIN1.out, HEQ.out.1, HEQ.out.2⟩, rfl⟩
        · refine leaf_close (by assumption) (by assumption) ?_
          with_reducible exact ⟨_, _, _, _, _, _, _, _, _, _, _, _, _, _, _, _, _, ⟨_, _, _, _, HFIN2.out, HEQ.out.1, HEQ.out.2⟩, rfl⟩
        · refine leaf_close (by assumption) (by assumption) ?_
          with_reducible exact ⟨_, _, _, _, _, _, _, _, _, _, _, _, _, _, _, _, _, ⟨_, _, _, _, HFIN1.out, HEQ.out.1, HEQ.out.2⟩, rfl⟩
        · refine leaf_close (by assumption) (by assumption) ?_
          with_reducible exact ⟨_, _, _, _, _, _, _, _, _, _, _, _, _, _, _, _, _, ⟨_, _, _, _, HFIN2.out, HEQ.out.1, HEQ.out.2⟩, rfl⟩
        · refine leaf_close (by assumption) (by assumption) ?_
          with_reducible exact ⟨_, _, _, _, _, _, _, _, _, _, _, _, _, _, _, _, _, ⟨_, _, _, _, HFIN1.out, HEQ.out.1, HEQ.out.2⟩, rfl⟩
        · refine leaf_close (by assumption) (by assumption) ?_
          with_reducible exact ⟨_, _, _, _, _, _, _, _, _, _, _, _, _, _, _, _, _, ⟨_, _, _, _, HFIN2.out, HEQ.out.1, HEQ.out.2⟩, rfl⟩
      case rest =>
      obtain ⟨rv1, v1, y, zs1, hsx, he, hze⟩ := hcut
      have H7 := Lib.hid (HS.out.step HTK.out hsx he hze)
      clear c5 c5a t5 t5a hsx he hze
      go_wp2_with fail
      go_roundw
      case rel => exact ⟨k + 1, ys ++ [y], _, _, _, by go_num, HLT.out, H7.out⟩
      case measure => have := HLT.out; simp [intOf] <;> omega
    · have hki : ¬ (k : Int) < (d.pn : Int) := by omega
      obtain rfl : k = d.pn := by omega
      have HS := Lib.hid hS
      have HKK := Lib.hid hK
      clear hS hK
      go_wp2_with fail
      refine HKK.out _ _ ?_
      exact num_exit w0 W wr p b o g c A A1 k1 d l ys v0 v vs0 vs1 zs X HEX.out HI.out (HE.out _ (Below.refl _ _)) (HKB.out _ _ HS.out.kw) HB.out.2 HS.out HVS.out HCN.out HCC.out
end Go.Proofs.Ytpnihimoekkepaa
