/-
  The document's functions of an expression: its parts.
-/
import Derived.Test.YtpnihimoekkepaaCoBF
import Derived.Deep.CutBlock
namespace Go.Proofs.Ytpnihimoekkepaa
open Go.ChangeShapes Go.WideShapes Go.ChangeAt Go.RowKit Go.Sort Go.Maps
set_option linter.unusedVariables false
set_option linter.unusedSimpArgs false

def thenOfW : Code → Code
  | .cond _ a _ => a
  | c => c
/-- The text from its n-th statement on; the n-th statement; of the part that functions alone have, likewise. -/
noncomputable def tlW (n : Nat) : Code := dropSeqG n (Try.f22.body.getD .skip)
noncomputable def hdW (n : Nat) : Code := headSeqG (tlW n)
noncomputable def tlA (n : Nat) : Code := dropSeqG n (thenOfW (dropSeqG 1 (hdW 4)))
noncomputable def hdA (n : Nat) : Code := headSeqG (tlA n)
theorem cntL_takeW (l : List Ex) (k : Nat) : cntL (l.take k) ≤ cntL l := cntL_take1 l k

set_option maxRecDepth 100000 in
set_option maxHeartbeats 4000000 in
theorem walk_parts {u2 u7 u8 u9 u10 u11 u12 u13 u14 u15 u16 u17 u18 u19 u20 u21 u22 u23 u24 u25 u26 u27 u28 u29 u30 u31 u32 u33 u34 u35 u36 u37 u38 u39 u40 u41 u42 u43 u44 u45 u46 u47 u48 u49 u50 u51 u52 u53 u54 u55 u56 u57 u58 u59 u60 u61 u62 u63 u64 u65 u66 u67 u68 u69 u70 u71 u72 u73 u74 u75 u76 u77 u78 u79 u80 u81 u82 u83 u84 u85 u86 u87 u88 u89 u90 u91 u92 u93 u94 u95 u96 u97 u98 u99 u100 u101 u102 u103 u104 u105 u106 u107 u108 u109 u110 u111 u112 u113 u114 u115 u116 u117 u118 u119 u120 u121 u122 u123 u124 u125 u126 u127 u128 u129 u130 u131 u132 u133 u134 u135 u136 : Value} (w0 W w5 : World) (p g : Nat) (nn : Int) (d e : ExD) (l : List Ex) (cs1 : List Value) (n1 : Nat) (fx : List Fu) (v0 v5 : Value)
    (hI : (Ex.mk d l).In w0) (hb : Below w0.heap.size w0 W) (hv0 : ∀ q, v0.ownBlock = some q → w0.heap.size ≤ q)
    (hX : ∀ x ∈ l, ∀ (v : Value) (n : Nat) (cs : List Value) (V : World), Below w0.heap.size w0 V → CW V p v n cs → 1 ≤ n → n + x.cnt ≤ 4000000 → Calls Try.prog 22 #[.pointer (some ⟨p, 0, none⟩), .agg x.d.arr] V (WkR w0.heap.size x p v n cs V))
    (hws : WS w0.heap.size W p v0 g d e cs1 n1 fx l 0 [] (.slice none 0 0) v5 [] w5) (hcnt : n1 + cntL l ≤ 4000000)
    {K : Act → World → Prop} {Q : Exit → Act → World → Prop} (hK : ∀ a w, Code.wp Try.prog (tlW 6) Q a w → K a w)
    (hend : ∀ (u2 u7 u8 u9 u10 u11 u12 u13 u14 u15 u16 u17 u18 u19 u20 u21 u22 u23 u24 u25 u26 u27 u28 u29 u30 u31 u32 u33 u34 u35 u36 u37 u38 u39 u40 u41 u42 u43 u44 u45 u46 u47 u48 u49 u50 u51 u52 u53 u54 u55 u56 u57 u58 u59 u60 u61 u62 u63 u64 u65 u66 u67 u68 u69 u70 u71 u72 u73 u74 u75 u76 u77 u78 u79 u80 u81 u82 u83 u84 u85 u86 u87 u88 u89 u90 u91 u92 u93 u94 u95 u96 u97 u98 u99 u100 u101 u102 u103 u104 u105 u106 u107 u108 u109 u110 u111 u112 u113 u114 u115 u116 u117 u118 u119 u120 u121 u122 u123 u124 u125 u126 u127 u128 u129 u130 u131 u132 u133 u134 u135 u136 : Value) (ys : List Ex) (A1 : Option Addr) (k1 : Nat) (v : Value) (gs : List Fu) (wr : World), WS w0.heap.size W p v0 g d e cs1 n1 fx l d.pn ys (.slice A1 d.pn k1) v gs wr → Code.wp Try.prog (tlW 6) Q ⟨#[.pointer (some ⟨p, 0, none⟩), .agg #[.int .i64 d.kind, .int .i64 d.n, .string (bstr d.s), .string (bstr d.t), .slice d.nA d.nn d.nc, .slice d.pA d.pn d.pc], u2, .pointer (some ⟨W.heap.size, 0, none⟩), .pointer (some ⟨W.heap.size + 1, 0, none⟩), .pointer (some ⟨g, 0, none⟩), .int .i64 nn, u7, u8, u9, u10, u11, u12, u13, u14, u15, u16, u17, u18, u19, u20, u21, u22, u23, u24, u25, u26, u27, u28, u29, u30, u31, u32, u33, u34, u35, u36, u37, u38, u39, u40, u41, u42, u43, u44, u45, u46, u47, u48, u49, u50, u51, u52, u53, u54, u55, u56, u57, u58, u59, u60, u61, u62, u63, u64, u65, u66, u67, u68, u69, u70, u71, u72, u73, u74, u75, u76, u77, u78, u79, u80, u81, u82, u83, u84, u85, u86, u87, u88, u89, u90, u91, u92, u93, u94, u95, u96, u97, u98, u99, u100, u101, u102, u103, u104, u105, u106, u107, u108, u109, u110, u111, u112, u113, u114, u115, u116, u117, u118, u119, u120, u121, u122, u123, u124, u125, u126, u127, u128, u129, u130, u131, u132, u133, u134, u135, u136], []⟩ wr) :
    Code.wp Try.prog (hdW 5) (Exit.then K Q) ⟨#[.pointer (some ⟨p, 0, none⟩), .agg #[.int .i64 d.kind, .int .i64 d.n, .string (bstr d.s), .string (bstr d.t), .slice d.nA d.nn d.nc, .slice d.pA d.pn d.pc], u2, .pointer (some ⟨W.heap.size, 0, none⟩), .pointer (some ⟨W.heap.size + 1, 0, none⟩), .pointer (some ⟨g, 0, none⟩), .int .i64 nn, u7, u8, u9, u10, u11, u12, u13, u14, u15, u16, u17, u18, u19, u20, u21, u22, u23, u24, u25, u26, u27, u28, u29, u30, u31, u32, u33, u34, u35, u36, u37, u38, u39, u40, u41, u42, u43, u44, u45, u46, u47, u48, u49, u50, u51, u52, u53, u54, u55, u56, u57, u58, u59, u60, u61, u62, u63, u64, u65, u66, u67, u68, u69, u70, u71, u72, u73, u74, u75, u76, u77, u78, u79, u80, u81, u82, u83, u84, u85, u86, u87, u88, u89, u90, u91, u92, u93, u94, u95, u96, u97, u98, u99, u100, u101, u102, u103, u104, u105, u106, u107, u108, u109, u110, u111, u112, u113, u114, u115, u116, u117, u118, u119, u120, u121, u122, u123, u124, u125, u126, u127, u128, u129, u130, u131, u132, u133, u134, u135, u136], []⟩ w5 := by
  have HI := Lib.hid hI
  have HX := Lib.hid hX
  have HL := Lib.hid (show l.length = d.pn from hI.len)
  have HCP := Lib.hid (show d.pn ≤ 4000000 from hI.cap.2.1.2.2)
  have HKB := Lib.hid (show ∀ wr v, KW p W v0 wr v → Below w0.heap.size w0 wr from fun wr v h => h.below hb (Nat.le_of_lt hws.hp.1) hws.hp.2 hv0)
  have HWS := Lib.hid hws
  have HK := Lib.hid hK
  have HEND := Lib.hid hend
  have HCN := Lib.hid hcnt
  clear hI hX hb hv0 hws hK hend hcnt
  conv => arg 2; whnf
  go_wp2_with fail
  go_loopw [11] (fun i wr => ∃ (k : Nat) (ys : List Ex) (rv v : Value) (gs : List Fu), i = .int .i64 k ∧ k ≤ d.pn ∧ WS w0.heap.size W p v0 g d e cs1 n1 fx l k ys rv v gs wr) (fun i _ => d.pn - (intOf i).toNat)
  case atStart => exact ⟨0, [], _, _, [], rfl, Nat.zero_le _, HWS.out⟩
  case round =>
    obtain ⟨k, ys, rv, v, gs, rfl, hk, hS⟩ := hrel
    obtain ⟨A1, k1, rfl, _⟩ := own_cap hS.own
    have HS := Lib.hid hS
    have cb := (cells6 hS.bx).2.2.2.2.2
    by_cases hlt : k < d.pn
    · have hkl : k < l.length := by rw [HL.out]; exact hlt
      have HLT := Lib.hid hlt
      have hB := HKB.out _ _ hS.kw
      obtain ⟨pb, po, hpA, hAtP⟩ := HI.out.part (k := k) hkl
      have hpA' : d.pA = some ⟨pb, po, none⟩ := hpA
      rw [hpA'] at cb
      have hAtM : (l[k]).d.At w0 pb (po + k * 6) := hAtP k hkl
      have HTK := Lib.hid (show l.take (k + 1) = l.take k ++ [l[k]] from List.take_succ_eq_append_getElem hkl)
      obtain ⟨x, hx⟩ : ∃ x, l[k] = x := ⟨_, rfl⟩
      rw [hx] at hAtM HTK
      have hxm : x ∈ l := by rw [← hx]; exact List.getElem_mem hkl
      have HM := Lib.hid (HX.out x hxm v (n1 + gs.length) _ wr hB hS.cs (by have := hS.n1; omega) (by
        have h1 := hS.cnt
        have h2 := cntL_takeW l (k + 1)
        rw [HTK.out, cntL_snoc] at h2
        have h3 := HCN.out
        omega))
      obtain ⟨p0, p1, p2, p3, p4, p5⟩ := hAtM.lower hB
      have hki : (k : Int) < (d.pn : Int) := by omega
      have hk0 : (0 : Int) ≤ (k : Int) := by omega
      have hk4 : (k : Int) ≤ 4000000 := by have := HCP.out; omega
      have HBY := Lib.hid (show (k + 1) * 96 ≤ 140737488355328 by have := HCP.out; omega)
      clear hkl hlt hB hpA hpA' hAtP hAtM hx hxm hS
      go_wp2_with fail
      refine HM.out.mono ?_
      rintro e1 w1 ⟨y, v1, gs1, rfl, hy, he, hcs, hgs, hf, hkw⟩
      have HY := Lib.hid (And.intro hy (And.intro he (And.intro hcs (And.intro hgs (And.intro hf hkw)))))
      have hvg : some g ≠ v.ownBlock := fun e => HS.out.gv.1 e.symm
      have hgp : g ≠ p := by have := HS.out.hp; have := HS.out.hg; omega
      have HG1 := Lib.hid ((hkw.block g HS.out.gl hgp hvg).trans HS.out.hd)
      have HO1 := Lib.hid (own_keep HS.out.own (fun q hq hl => hkw.block q hl (by have := (HS.out.rlt q hq).1; have := HS.out.hg; have := HS.out.hp; omega) (fun e => HS.out.sep q hq e.symm)))
      have HB2 := Lib.hid (show Below w1.heap.size w1 (w1.alloc (.cells #[.int .i64 y.d.kind, .int .i64 y.d.n, .string (bstr y.d.s), .string (bstr y.d.t), .slice y.d.nA y.d.nn y.d.nc, .slice y.d.pA y.d.pn y.d.pc] 25)) from (Below.refl _ _).alloc (Nat.le_refl _) _)
      have HX6 := Lib.hid (show (w1.alloc (.cells #[.int .i64 y.d.kind, .int .i64 y.d.n, .string (bstr y.d.s), .string (bstr y.d.t), .slice y.d.nA y.d.nn y.d.nc, .slice y.d.pA y.d.pn y.d.pc] 25)).heap[w1.heap.size]? = some (.cells #[.int .i64 y.d.kind, .int .i64 y.d.n, .string (bstr y.d.s), .string (bstr y.d.t), .slice y.d.nA y.d.nn y.d.nc, .slice y.d.pA y.d.pn y.d.pc] 25) from heap_alloc_new w1 _)
      clear hy he hcs hgs hf hkw hvg hgp HM p0 p1 p2 p3 p4 p5 cb
      go_upto_region 26 with fail
      generalize (w1.alloc (.cells #[.int .i64 y.d.kind, .int .i64 y.d.n, .string (bstr y.d.s), .string (bstr y.d.t), .slice y.d.nA y.d.nn y.d.nc, .slice y.d.pA y.d.pn y.d.pc] 25)) = V2 at *
      obtain ⟨q0, q1, q2, q3, q4, q5⟩ := cells6 HX6.out
      have HG2 := Lib.hid ((HB2.out.block g (lt_of_heap HG1.out)).trans HG1.out)
      have HO2 := Lib.hid (own_below HO1.out HB2.out)
      have t5 := (cells6 HG2.out).2.2.2.2.2
      have HSZ := Lib.hid (show g + 1 ≤ (V2.alloc (.cells #[.int .i64 y.d.kind, .int .i64 y.d.n, .string (bstr y.d.s), .string (bstr y.d.t), .slice y.d.nA y.d.nn y.d.nc, .slice y.d.pA y.d.pn y.d.pc] 25)).heap.size by have := lt_of_heap HG2.out; simp; omega)
      go_wp2_with (at_builtin; refine wpList_app elCore _ rfl (.tmp 112) (.tmp 114) rfl (g + 1) (.slice A1 k k1) k _ rfl (HO2.out.alloc _) (some ⟨V2.heap.size, 0, none⟩) 1 1 _ rfl (Rd.lit V2 _ _ rfl) (ex_ones y) HBY.out HSZ.out ?_; intro v4 w4 hown4 hb4 hg4 ho4; obtain ⟨q6, c6, rfl⟩ := own_some hown4; have HH4 := Lib.hid ((hg4.block g (Nat.lt_of_lt_of_le (lt_of_heap HG2.out) (by simp)) (fun e => by have := (HO2.out.lt g e.symm).1; omega)).trans ((((Below.refl V2.heap.size V2).alloc (Nat.le_refl _) _).block g (lt_of_heap HG2.out)).trans HG2.out)); have e5 := (cells6 HH4.out).2.2.2.2.2; have f5 := (frozen6 HH4.out).2.2.2.2.2; have H4 := Lib.hid (And.intro hown4 (And.intro hg4 ho4)); clear hown4 hb4 hg4 ho4)
      go_roundw
      case rel => exact ⟨k + 1, ys ++ [y], _, v1, gs ++ gs1, by go_num, HLT.out, HS.out.step HTK.out HY.out.1 HY.out.2.1 HY.out.2.2.1 HY.out.2.2.2.1 HY.out.2.2.2.2.1 HY.out.2.2.2.2.2 (HB2.out.alloc HB2.out.size _) H4.out.1 H4.out.2.1 H4.out.2.2⟩
      case measure => have := HLT.out; simp [intOf] <;> omega
    · have hki : ¬ (k : Int) < (d.pn : Int) := by omega
      obtain rfl : k = d.pn := by omega
      clear hS hlt hk
      go_wp2_with fail
      refine HK.out _ _ ?_
      exact HEND.out _ _ _ _ _ _ _ _ _ _ _ _ _ _ _ _ _ _ _ _ _ _ _ _ _ _ _ _ _ _ _ _ _ _ _ _ _ _ _ _ _ _ _ _ _ _ _ _ _ _ _ _ _ _ _ _ _ _ _ _ _ _ _ _ _ _ _ _ _ _ _ _ _ _ _ _ _ _ _ _ _ _ _ _ _ _ _ _ _ _ _ _ _ _ _ _ _ _ _ _ _ _ _ _ _ _ _ _ _ _ _ _ _ _ _ _ _ _ _ _ _ _ _ _ _ _ _ _ _ _ _ ys A1 k1 v gs wr HS.out
end Go.Proofs.Ytpnihimoekkepaa
