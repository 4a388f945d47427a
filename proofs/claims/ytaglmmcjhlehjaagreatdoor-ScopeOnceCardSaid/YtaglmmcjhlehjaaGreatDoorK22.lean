/-
  The document's numbering: the names of a Match.
  The document's numbering of an expression with parts.
-/
import Derived.Test.YtaglmmcjhlehjaaGreatDoorK21
import Derived.Deep.CutRange
import Derived.Deep.CutBlock
import Derived.BigQuiet
namespace Go.Proofs.YtaglmmcjhlehjaaGreatDoor
open Go.ChangeShapes Go.WideShapes Go.ChangeAt Go.RowKit Go.Sort
set_option linter.unusedVariables false
set_option linter.unusedSimpArgs false

set_option maxRecDepth 100000 in
set_option maxHeartbeats 8000000 in
theorem do_B {u3 u5 u8 u9 u10 u11 u12 u13 u14 u15 u16 u17 u18 u19 u20 u21 u22 u23 u24 u25 u26 u27 u28 u29 u30 u31 u32 u33 u34 u35 u36 u37 u38 u39 u40 u41 u42 u43 u44 u45 u46 u47 u48 u49 u50 u51 u52 u53 u54 u55 u56 u57 u58 u59 u60 u61 u62 u63 u64 u65 u66 u67 u68 u69 u70 u71 u72 u73 u74 u75 u76 u77 u78 u79 u80 u81 u82 u83 u84 u85 u86 u87 u88 u89 u90 u91 u92 u93 u94 u95 u96 u97 u98 u99 u100 u101 u102 u103 u104 u105 u106 u107 u108 u109 u110 u111 u112 u113 u114 u115 u116 u117 u118 u119 u120 u121 u122 u123 u124 u125 u126 u127 u128 u129 u130 u131 u132 u133 u134 u135 u136 u137 u138 u139 u140 u141 u142 u143 u144 u145 u146 u147 u148 u149 u150 u151 u152 u153 u154 u155 u156 u157 u158 u159 u160 u161 u162 u163 u164 u165 u166 u167 u168 u169 u170 u171 u172 u173 u174 u175 u176 u177 u178 u179 u180 u181 u182 u183 u184 u185 u186 u187 u188 u189 u190 u191 u192 u193 u194 u195 u196 u197 u198 u199 u200 u201 u202 u203 u204 u205 u206 u207 u208 u209 u210 : Value} (w0 : World) (d : ExD) (l : List Ex) (N : Nat) (env : List Bd) (A : Option Addr) (cA : Nat) (ol : List Str) (s : Int × Bool) (v : Value) (W w : World) (E r gt : Nat) (hx : DX w0 N W d l env A ol s v w E r gt) (dA : ExD) (v1 : Value) (wc : World) (hna : NA d ol.length [] dA) (hnn : dA.nn = 0) (hbd : BD N w v gt r dA (ol ++ d.oA) s (ownL d.oA ol.length) u9 v1 wc) {K K2 : Act → World → Prop} (hK2 : ∀ a w, Code.wp Tryz.prog (hbD 5) (Exit.then K (bodyPost Tryz.prog Tryz.f22 fun e w' => DoR N ol s v env (.mk d l) W e w')) a w → K2 a w) (hK : ∀ a w, Code.wp Tryz.prog (tlD 6) (bodyPost Tryz.prog Tryz.f22 fun e w' => DoR N ol s v env (.mk d l) W e w') a w → K a w) :
    Code.wp Tryz.prog (haD 5) (Exit.then K2 (Exit.then K (bodyPost Tryz.prog Tryz.f22 fun e w' => DoR N ol s v env (.mk d l) W e w'))) ⟨#[.pointer (some ⟨N, 0, none⟩), .agg d.arr, .slice A env.length cA, u3, .pointer (some ⟨E, 0, none⟩), u5, .pointer (some ⟨r, 0, none⟩), .pointer (some ⟨gt, 0, none⟩), u8, u9, u10, u11, u12, u13, u14, u15, u16, u17, u18, u19, u20, u21, u22, u23, u24, u25, u26, u27, u28, u29, u30, u31, u32, u33, u34, u35, u36, u37, u38, u39, u40, u41, u42, u43, u44, u45, u46, u47, u48, u49, u50, u51, u52, u53, u54, u55, u56, u57, u58, u59, u60, u61, u62, u63, u64, u65, u66, u67, u68, u69, u70, u71, u72, u73, u74, u75, u76, u77, u78, u79, u80, u81, u82, u83, u84, u85, u86, u87, u88, u89, u90, u91, u92, u93, u94, u95, u96, u97, u98, u99, u100, u101, u102, u103, u104, u105, u106, u107, u108, u109, u110, u111, u112, u113, u114, u115, u116, u117, u118, u119, u120, u121, u122, u123, u124, u125, u126, u127, u128, u129, u130, u131, u132, u133, u134, u135, u136, u137, u138, u139, u140, u141, u142, u143, u144, u145, u146, u147, u148, u149, u150, u151, u152, u153, u154, u155, u156, u157, u158, u159, u160, u161, u162, u163, u164, u165, u166, u167, u168, u169, u170, u171, u172, u173, u174, u175, u176, u177, u178, u179, u180, u181, u182, u183, u184, u185, u186, u187, u188, u189, u190, u191, u192, u193, u194, u195, u196, u197, u198, u199, u200, u201, u202, u203, u204, u205, u206, u207, u208, u209, u210], []⟩ wc := by
  have HXX := Lib.hid hx
  obtain ⟨w3, hdw⟩ := hx.dw
  have HDW := Lib.hid hdw
  have HI := Lib.hid hx.hI
  have HN := Lib.hid hx.hN
  have HK := Lib.hid hx.hK
  have HB := Lib.hid hx.hb
  have HTW := Lib.hid hx.tw
  have HEL := Lib.hid hx.el
  have HF := Lib.hid hx.hf
  have HM := Lib.hid hx.hm
  have HD := Lib.hid hx.hd
  have H3 := Lib.hid hx.h3
  have HP := Lib.hid (fine_parts hx.hf hx.hI)
  have HLO := Lib.hid (fun (wx : World) (h : Below N w wx) => HB.out.trans ((HDW.out.hW.mono HB.out.size).trans (h.mono HN.out)))
  clear hdw hx
  have HNA := Lib.hid hna
  have HNN := Lib.hid hnn
  have H1 := Lib.hid hbd
  clear hna hnn hbd
  conv at hK2 => enter [a, w, 1, 2]; whnf
  conv at hK => enter [a, w, 1, 2]; whnf
  conv => arg 2; whnf
  obtain ⟨c0, _, _, _, _, _, _, _⟩ := HDW.out.at_ H1.out.bs.wo.oth
  go_upto_if 95 with fail
  clear c0
  by_cases h14 : d.kind = 14
  · have q14 : (d.kind == 14) = true := by simpa using h14
    have HOA := Lib.hid (show d.oA = [] by unfold ExD.oA; rw [if_neg (by omega)])
    have HOB := Lib.hid (show d.oB = d.names by unfold ExD.oB; rw [HOA.out, if_pos h14]; rfl)
    have HNL := Lib.hid (show d.names.length = d.nn from HI.out.namLen)
    have HBL := Lib.hid (show d.names.length ≤ d.bs.length by rw [bs_C, HOB.out, List.length_append]; omega)
    have H14 := Lib.hid h14
    have HBZ := Lib.hid (show BD N w v gt r dA (ol ++ d.names.take 0) s (ownL (d.names.take 0) ol.length) u9 v1 wc by
      rw [List.take_zero]
      have h := H1.out
      rw [HOA.out] at h
      exact h)
    clear h14
    rw [q14]
    go_wp2_with fail
    go_loopw [9, 11] (fun o i wr => ∃ (j : Nat) (dj : ExD) (vj : Value), i = .int .i64 j ∧ j ≤ d.nn ∧ NA d ol.length (vNames j ol.length) dj ∧ dj.nn = j ∧ BD N w v gt r dj (ol ++ d.names.take j) s (ownL (d.names.take j) ol.length) o vj wr) (fun o i _ => d.nn - (intOf i).toNat)
    case atStart => exact ⟨0, dA, v1, rfl, Nat.zero_le _, HNA.out, HNN.out, HBZ.out⟩
    case round =>
      obtain ⟨j, dj, vj, rfl, hj, hnaj, hnnj, hbdj⟩ := hrel
      have HNAJ := Lib.hid (And.intro hnaj hnnj)
      have HBJ := Lib.hid hbdj
      clear hnaj hnnj hbdj
      have hj0 : (0 : Int) ≤ (j : Int) := by omega
      by_cases hlt : j < d.nn
      · have hkl : j < d.names.length := by rw [HNL.out]; exact hlt
        obtain ⟨nb, no, hnA, hcel⟩ := (show Rd w0 1 d.nA d.nn (strs d.names) from HI.out.nam).str (k := j) hkl
        have hx := cell_below (HLO.out _ HBJ.out.bs.wo.b) (hcel j hkl)
        have htk : d.names.take (j + 1) = d.names.take j ++ [d.names[j]] := by rw [List.take_succ_eq_append_getElem hkl]
        have htl : (d.names.take j).length = j := by rw [List.length_take]; omega
        obtain ⟨x, hxx⟩ : ∃ x, d.names[j] = x := ⟨_, rfl⟩
        rw [hxx] at hx htk
        have HTK := Lib.hid (And.intro htk htl)
        have hnA' : d.nA = some ⟨nb, no, none⟩ := hnA
        have hll : (ol ++ d.names.take j).length = ol.length + j := by rw [List.length_append, htl]
        have hml : ol.length + j + 1 ≤ 4000000 := by have h := HM.out; have h2 := HBL.out; omega
        have hnx := bind_any N (ol ++ d.names.take j) s.1 s.2 vj x wr HBJ.out.nr (HTW.out.keep HBJ.out.bs.wo.b) (by rw [hll]; exact hml)
        rw [hll] at hnx
        have HNX := Lib.hid hnx
        have HVL := Lib.hid (vName_len (k := ol.length + j) (by omega))
        have HBY := Lib.hid (show ((ownL (d.names.take j) ol.length).length + 1) * 32 ≤ 140737488355328 by rw [ownL_len, htl]; omega)
        have HML := Lib.hid (show (dj.nn + 1) * 16 ≤ 140737488355328 by rw [HNAJ.out.2]; omega)
        have hjn : (j : Int) < (d.nn : Int) := by omega
        have hj9 : (j : Int) ≤ 9223372036854775806 := by omega
        clear hkl hnA hcel htk htl hxx hll hml hnx
        obtain ⟨c0, c1, c2, c3, c4, c5, c6, c7⟩ := HDW.out.at_ HBJ.out.bs.wo.oth
        rw [hnA'] at c6
        clear hnA'
        go_wp2_with fail
        refine HNX.out.mono ?_
        rintro e w5 ⟨rfl, v5, hn5, hk5⟩
        have H5 := Lib.hid (HBJ.out.bind (s1 := s) hn5 hk5)
        clear c0 c1 c2 c3 c4 c5 c6 c7 hn5 hk5 HNX
        go_upto_region 23 with fail
        have H6 := Lib.hid (H5.out.below ((Below.refl _ _).alloc (Nat.le_refl _) (.cells #[.string (bstr x), .string (bstr (vName (ol.length + j)))] 85)))
        have p0 : (w5.alloc (.cells #[.string (bstr x), .string (bstr (vName (ol.length + j)))] 85)).cell? ⟨w5.heap.size, 0, none⟩ = some (.string (bstr x)) := cell_new w5 _ _ 0 rfl
        have p1 : (w5.alloc (.cells #[.string (bstr x), .string (bstr (vName (ol.length + j)))] 85)).cell? ⟨w5.heap.size, 1, none⟩ = some (.string (bstr (vName (ol.length + j)))) := cell_new w5 _ _ 1 rfl
        have HPL := Lib.hid (show w5.heap.size < (w5.alloc (.cells #[.string (bstr x), .string (bstr (vName (ol.length + j)))] 85)).heap.size by simp)
        have HPN := Lib.hid (show some w5.heap.size ≠ u9.ownBlock from fun e => by have := (H5.out.ow.lt _ e.symm).2; omega)
        generalize w5.alloc (.cells #[.string (bstr x), .string (bstr (vName (ol.length + j)))] 85) = w6 at *
        obtain ⟨pb, hpb⟩ : ∃ pb, w5.heap.size = pb := ⟨_, rfl⟩
        rw [hpb] at p0 p1 HPL HPN ⊢
        clear hpb
        have HP1 := Lib.hid p1
        go_upto_region 24 with (at_builtin; refine wpList_app elBd _ rfl (.tmp 110) (.tmp 112) rfl (N + 1) u9 (ownL (d.names.take j) ol.length).length _ rfl (H6.out.ow.alloc _) (some ⟨w6.heap.size, 0, none⟩) 1 1 (bd2 (x, (vName (ol.length + j)))) rfl (Rd.lit w6 #[.string (bstr x), .string (bstr (vName (ol.length + j)))] _ rfl) (bd_one (x, (vName (ol.length + j)))) HBY.out (by have := H6.out.nr.o.lt; simp; omega) ?_; intro v7 w7 hown7 hb7 hg7 hat7; have H7 := Lib.hid (H6.out.row (p := (x, (vName (ol.length + j)))) ((Below.refl _ _).alloc (Nat.le_refl _) _) hown7 hg7 hat7); have q1 : w7.cell? ⟨pb, 1, none⟩ = some (.string (bstr (vName (ol.length + j)))) := (World.cell?_of_block (a := ⟨pb, 1, none⟩) ((hg7.block pb (by have := HPL.out; simp; omega) HPN.out).trans (Below.heap_alloc w6 _ pb HPL.out))).trans HP1.out; clear hown7 hb7 hg7 hat7)
        clear p0 p1 HP1
        have g6 := H7.out.bs.cl.load.2.2.2.2.2.2.1
        have z6 := H7.out.bs.cl.fz 6
        clear hx
        go_wp2_with (at_builtin; refine wpList_app elStr _ rfl (.tmp 115) (.tmp 118) rfl (N + 1) (.slice dj.nA dj.nn dj.nc) dj.nn _ rfl (H7.out.bs.own.alloc _) (some ⟨w7.heap.size, 0, none⟩) 1 1 (strs [vName (ol.length + j)]) rfl (Rd.lit w7 #[.string (bstr (vName (ol.length + j)))] _ rfl) (strs_one _) HML.out (H7.out.bs.appN _) ?_; intro v8 w8 hown8 hb8 hg8 hat8; obtain ⟨A8, c8, hv8, _⟩ := own_cap hown8; rw [hv8] at hown8 hat8 ⊢; clear hv8; have H8 := Lib.hid (H7.out.name HVL.out hown8 hg8 hat8); have g8 : w8.cell? ⟨gt, 6, none⟩ = some (.slice dj.nA dj.nn dj.nc) := H7.out.bs.far6 hg8; have z8 : w8.frozen? ⟨gt, 6, none⟩ = false := H7.out.bs.far6z hg8; clear hown8 hb8 hg8 hat8)
        go_roundw
        case rel =>
          refine ⟨j + 1, { dj with nA := A8, nn := dj.nn + 1, nc := c8, names := dj.names ++ [vName (ol.length + j)] }, v5, by go_num, hlt, ?_, ?_, ?_⟩
          · have h := HNAJ.out.1
            exact ⟨h.kind, h.at_, h.n, h.labels, h.s, h.t, by show dj.names ++ _ = _; rw [h.names, vNames_snoc]⟩
          · show dj.nn + 1 = j + 1; rw [HNAJ.out.2]
          · have h := H8.out
            rw [HTK.out.1, ownL_snoc, HTK.out.2, ← List.append_assoc]
            exact h
        case measure => simp [intOf] <;> omega
      · have hjj : j = d.nn := by omega
        have hjn : ¬ (j : Int) < (d.nn : Int) := by omega
        have htk : d.names.take j = d.names := List.take_of_length_le (by rw [HNL.out]; omega)
        have hjl : j = d.names.length := by rw [HNL.out]; exact hjj
        obtain ⟨_, _, _, _, _, _, c6, _⟩ := HDW.out.at_ HBJ.out.bs.wo.oth
        have HR := Lib.hid (show NA d ol.length (if d.kind = 14 then vNames d.names.length ol.length else []) dj ∧ BD N w v gt r dj (ol ++ d.oB) s (ownL d.oB ol.length) u9 vj wr by
          rw [if_pos H14.out, HOB.out, ← hjl]
          have h := HBJ.out
          rw [htk] at h
          exact ⟨HNAJ.out.1, h⟩)
        clear htk hjl
        go_upto_region 25 with fail
        exact do_C w0 d l N env A cA ol s v W w E r gt HXX.out dj vj wr HR.out.1 HR.out.2 (by assumption) (by assumption)
  · have q14 : (d.kind == 14) = false := by simpa using h14
    have HR := Lib.hid (show NA d ol.length (if d.kind = 14 then vNames d.names.length ol.length else []) dA ∧ BD N w v gt r dA (ol ++ d.oB) s (ownL d.oB ol.length) u9 v1 wc by
      have hob : d.oB = d.oA := by unfold ExD.oB; rw [if_neg h14, List.append_nil]
      rw [if_neg h14, hob]
      exact ⟨HNA.out, H1.out⟩)
    clear h14
    go_upto_region 25 with fail
    exact do_C w0 d l N env A cA ol s v W w E r gt HXX.out dA v1 wc HR.out.1 HR.out.2 (by assumption) (by assumption)
end Go.Proofs.YtaglmmcjhlehjaaGreatDoor

namespace Go.Proofs.YtaglmmcjhlehjaaGreatDoor
open Go.ChangeShapes Go.WideShapes Go.ChangeAt Go.RowKit Go.Sort
set_option linter.unusedVariables false
set_option linter.unusedSimpArgs false

set_option maxRecDepth 100000 in
set_option maxHeartbeats 8000000 in
theorem do_A {u3 u5 u8 u10 u11 u12 u13 u14 u15 u16 u17 u18 u19 u20 u21 u22 u23 u24 u25 u26 u27 u28 u29 u30 u31 u32 u33 u34 u35 u36 u37 u38 u39 u40 u41 u42 u43 u44 u45 u46 u47 u48 u49 u50 u51 u52 u53 u54 u55 u56 u57 u58 u59 u60 u61 u62 u63 u64 u65 u66 u67 u68 u69 u70 u71 u72 u73 u74 u75 u76 u77 u78 u79 u80 u81 u82 u83 u84 u85 u86 u87 u88 u89 u90 u91 u92 u93 u94 u95 u96 u97 u98 u99 u100 u101 u102 u103 u104 u105 u106 u107 u108 u109 u110 u111 u112 u113 u114 u115 u116 u117 u118 u119 u120 u121 u122 u123 u124 u125 u126 u127 u128 u129 u130 u131 u132 u133 u134 u135 u136 u137 u138 u139 u140 u141 u142 u143 u144 u145 u146 u147 u148 u149 u150 u151 u152 u153 u154 u155 u156 u157 u158 u159 u160 u161 u162 u163 u164 u165 u166 u167 u168 u169 u170 u171 u172 u173 u174 u175 u176 u177 u178 u179 u180 u181 u182 u183 u184 u185 u186 u187 u188 u189 u190 u191 u192 u193 u194 u195 u196 u197 u198 u199 u200 u201 u202 u203 u204 u205 u206 u207 u208 u209 u210 : Value} (w0 : World) (d : ExD) (l : List Ex) (N : Nat) (env : List Bd) (A : Option Addr) (cA : Nat) (ol : List Str) (s : Int × Bool) (v : Value) (W w : World) (E r gt : Nat) (hx : DX w0 N W d l env A ol s v w E r gt) (w3c : World) (hbd : BD N w v gt r d.bar0 ol s [] nE v w3c) {K K2 : Act → World → Prop} (hK2 : ∀ a w, Code.wp Tryz.prog (hbD 4) (Exit.then K (bodyPost Tryz.prog Tryz.f22 fun e w' => DoR N ol s v env (.mk d l) W e w')) a w → K2 a w) (hK : ∀ a w, Code.wp Tryz.prog (tlD 5) (bodyPost Tryz.prog Tryz.f22 fun e w' => DoR N ol s v env (.mk d l) W e w') a w → K a w) :
    Code.wp Tryz.prog (haD 4) (Exit.then K2 (Exit.then K (bodyPost Tryz.prog Tryz.f22 fun e w' => DoR N ol s v env (.mk d l) W e w'))) ⟨#[.pointer (some ⟨N, 0, none⟩), .agg d.arr, .slice A env.length cA, u3, .pointer (some ⟨E, 0, none⟩), u5, .pointer (some ⟨r, 0, none⟩), .pointer (some ⟨gt, 0, none⟩), u8, nE, u10, u11, u12, u13, u14, u15, u16, u17, u18, u19, u20, u21, u22, u23, u24, u25, u26, u27, u28, u29, u30, u31, u32, u33, u34, u35, u36, u37, u38, u39, u40, u41, u42, u43, u44, u45, u46, u47, u48, u49, u50, u51, u52, u53, u54, u55, u56, u57, u58, u59, u60, u61, u62, u63, u64, u65, u66, u67, u68, u69, u70, u71, u72, u73, u74, u75, u76, u77, u78, u79, u80, u81, u82, u83, u84, u85, u86, u87, u88, u89, u90, u91, u92, u93, u94, u95, u96, u97, u98, u99, u100, u101, u102, u103, u104, u105, u106, u107, u108, u109, u110, u111, u112, u113, u114, u115, u116, u117, u118, u119, u120, u121, u122, u123, u124, u125, u126, u127, u128, u129, u130, u131, u132, u133, u134, u135, u136, u137, u138, u139, u140, u141, u142, u143, u144, u145, u146, u147, u148, u149, u150, u151, u152, u153, u154, u155, u156, u157, u158, u159, u160, u161, u162, u163, u164, u165, u166, u167, u168, u169, u170, u171, u172, u173, u174, u175, u176, u177, u178, u179, u180, u181, u182, u183, u184, u185, u186, u187, u188, u189, u190, u191, u192, u193, u194, u195, u196, u197, u198, u199, u200, u201, u202, u203, u204, u205, u206, u207, u208, u209, u210], []⟩ w3c := by
  have HXX := Lib.hid hx
  obtain ⟨w3, hdw⟩ := hx.dw
  have HDW := Lib.hid hdw
  have HI := Lib.hid hx.hI
  have HN := Lib.hid hx.hN
  have HK := Lib.hid hx.hK
  have HB := Lib.hid hx.hb
  have HTW := Lib.hid hx.tw
  have HEL := Lib.hid hx.el
  have HF := Lib.hid hx.hf
  have HM := Lib.hid hx.hm
  have HD := Lib.hid hx.hd
  have H3 := Lib.hid hx.h3
  have HP := Lib.hid (fine_parts hx.hf hx.hI)
  have HLO := Lib.hid (fun (wx : World) (h : Below N w wx) => HB.out.trans ((HDW.out.hW.mono HB.out.size).trans (h.mono HN.out)))
  clear hdw hx
  have H0 := Lib.hid hbd
  clear hbd
  conv at hK2 => enter [a, w, 1, 2]; whnf
  conv at hK => enter [a, w, 1, 2]; whnf
  conv => arg 2; whnf
  by_cases h4 : d.kind = 4
  · have q4 : (d.kind == 4) = true := by simpa using h4
    have hc : d.kind = 4 ∨ d.kind = 6 ∨ d.kind = 7 := .inl h4
    clear h4
    have HOA := Lib.hid (show d.oA = [d.s] by unfold ExD.oA; rw [if_pos hc])
    have HC := Lib.hid hc
    have hbl : 1 ≤ d.bs.length := by rw [bs_C]; unfold ExD.oB; rw [HOA.out]; simp
    have HNX := Lib.hid (bind_any N ol s.1 s.2 v d.s w3c H0.out.nr (HTW.out.keep H0.out.bs.wo.b) (by have h := HM.out; omega))
    have HVL := Lib.hid (vName_len (k := ol.length) (by have h := HM.out; omega))
    have HBY := Lib.hid (show (([] : List Bd).length + 1) * 32 ≤ 140737488355328 by decide)
    clear hc hbl
    obtain ⟨c0, c1, c2, c3, c4, c5, c6, c7⟩ := HDW.out.at_ H0.out.bs.wo.oth
    go_wp2_with fail
    refine HNX.out.mono ?_
    rintro e w5 ⟨rfl, v5, hn5, hk5⟩
    have H5 := Lib.hid (H0.out.bind (s1 := s) hn5 hk5)
    clear c0 c1 c2 c3 c4 c5 c6 c7 hn5 hk5 HNX
    go_upto_region 16 with fail
    have H6 := Lib.hid (H5.out.below ((Below.refl _ _).alloc (Nat.le_refl _) (.cells #[.string (bstr d.s), .string (bstr (vName ol.length))] 85)))
    have p0 : (w5.alloc (.cells #[.string (bstr d.s), .string (bstr (vName ol.length))] 85)).cell? ⟨w5.heap.size, 0, none⟩ = some (.string (bstr d.s)) := cell_new w5 _ _ 0 rfl
    have p1 : (w5.alloc (.cells #[.string (bstr d.s), .string (bstr (vName ol.length))] 85)).cell? ⟨w5.heap.size, 1, none⟩ = some (.string (bstr (vName ol.length))) := cell_new w5 _ _ 1 rfl
    have HPL := Lib.hid (show w5.heap.size < (w5.alloc (.cells #[.string (bstr d.s), .string (bstr (vName ol.length))] 85)).heap.size by simp)
    have HPN := Lib.hid (show some w5.heap.size ≠ nE.ownBlock from fun e => by have := (H5.out.ow.lt _ e.symm).2; omega)
    generalize w5.alloc (.cells #[.string (bstr d.s), .string (bstr (vName ol.length))] 85) = w6 at *
    obtain ⟨pb, hpb⟩ : ∃ pb, w5.heap.size = pb := ⟨_, rfl⟩
    rw [hpb] at p0 p1 HPL HPN ⊢
    clear hpb
    have HP1 := Lib.hid p1
    go_upto_region 17 with (at_builtin; refine wpList_app elBd _ rfl (.tmp 86) (.tmp 88) rfl (N + 1) nE ([] : List Bd).length _ rfl (H6.out.ow.alloc _) (some ⟨w6.heap.size, 0, none⟩) 1 1 (bd2 (d.s, (vName ol.length))) rfl (Rd.lit w6 #[.string (bstr d.s), .string (bstr (vName ol.length))] _ rfl) (bd_one (d.s, (vName ol.length))) HBY.out (by have := H6.out.nr.o.lt; simp; omega) ?_; intro v7 w7 hown7 hb7 hg7 hat7; have H7 := Lib.hid (H6.out.row (p := (d.s, (vName ol.length))) ((Below.refl _ _).alloc (Nat.le_refl _) _) hown7 hg7 hat7); have q1 : w7.cell? ⟨pb, 1, none⟩ = some (.string (bstr (vName ol.length))) := (World.cell?_of_block (a := ⟨pb, 1, none⟩) ((hg7.block pb (by have := HPL.out; simp; omega) HPN.out).trans (Below.heap_alloc w6 _ pb HPL.out))).trans HP1.out; clear hown7 hb7 hg7 hat7)
    clear p0 p1 HP1

    have k3 := H7.out.bs.cl.load.2.2.2.1
    have z3 := H7.out.bs.cl.fz 3
    go_upto_region 18 with fail
    exact do_B w0 d l N env A cA ol s v W w E r gt HXX.out { d.bar0 with s := vName ol.length } v5 _ ⟨rfl, rfl, rfl, rfl, by rw [if_pos HC.out], rfl, rfl⟩ rfl (by rw [HOA.out]; exact H7.out.setS (vName ol.length) HVL.out) (by assumption) (by assumption)
  have q4 : (d.kind == 4) = false := by simpa using h4
  by_cases h6 : d.kind = 6
  · have q6 : (d.kind == 6) = true := by simpa using h6
    have hc : d.kind = 4 ∨ d.kind = 6 ∨ d.kind = 7 := .inr (.inl h6)
    clear h4 h6
    have HOA := Lib.hid (show d.oA = [d.s] by unfold ExD.oA; rw [if_pos hc])
    have HC := Lib.hid hc
    have hbl : 1 ≤ d.bs.length := by rw [bs_C]; unfold ExD.oB; rw [HOA.out]; simp
    have HNX := Lib.hid (bind_any N ol s.1 s.2 v d.s w3c H0.out.nr (HTW.out.keep H0.out.bs.wo.b) (by have h := HM.out; omega))
    have HVL := Lib.hid (vName_len (k := ol.length) (by have h := HM.out; omega))
    have HBY := Lib.hid (show (([] : List Bd).length + 1) * 32 ≤ 140737488355328 by decide)
    clear hc hbl
    obtain ⟨c0, c1, c2, c3, c4, c5, c6, c7⟩ := HDW.out.at_ H0.out.bs.wo.oth
    go_wp2_with fail
    refine HNX.out.mono ?_
    rintro e w5 ⟨rfl, v5, hn5, hk5⟩
    have H5 := Lib.hid (H0.out.bind (s1 := s) hn5 hk5)
    clear c0 c1 c2 c3 c4 c5 c6 c7 hn5 hk5 HNX
    go_upto_region 16 with fail
    have H6 := Lib.hid (H5.out.below ((Below.refl _ _).alloc (Nat.le_refl _) (.cells #[.string (bstr d.s), .string (bstr (vName ol.length))] 85)))
    have p0 : (w5.alloc (.cells #[.string (bstr d.s), .string (bstr (vName ol.length))] 85)).cell? ⟨w5.heap.size, 0, none⟩ = some (.string (bstr d.s)) := cell_new w5 _ _ 0 rfl
    have p1 : (w5.alloc (.cells #[.string (bstr d.s), .string (bstr (vName ol.length))] 85)).cell? ⟨w5.heap.size, 1, none⟩ = some (.string (bstr (vName ol.length))) := cell_new w5 _ _ 1 rfl
    have HPL := Lib.hid (show w5.heap.size < (w5.alloc (.cells #[.string (bstr d.s), .string (bstr (vName ol.length))] 85)).heap.size by simp)
    have HPN := Lib.hid (show some w5.heap.size ≠ nE.ownBlock from fun e => by have := (H5.out.ow.lt _ e.symm).2; omega)
    generalize w5.alloc (.cells #[.string (bstr d.s), .string (bstr (vName ol.length))] 85) = w6 at *
    obtain ⟨pb, hpb⟩ : ∃ pb, w5.heap.size = pb := ⟨_, rfl⟩
    rw [hpb] at p0 p1 HPL HPN ⊢
    clear hpb
    have HP1 := Lib.hid p1
    go_upto_region 17 with (at_builtin; refine wpList_app elBd _ rfl (.tmp 86) (.tmp 88) rfl (N + 1) nE ([] : List Bd).length _ rfl (H6.out.ow.alloc _) (some ⟨w6.heap.size, 0, none⟩) 1 1 (bd2 (d.s, (vName ol.length))) rfl (Rd.lit w6 #[.string (bstr d.s), .string (bstr (vName ol.length))] _ rfl) (bd_one (d.s, (vName ol.length))) HBY.out (by have := H6.out.nr.o.lt; simp; omega) ?_; intro v7 w7 hown7 hb7 hg7 hat7; have H7 := Lib.hid (H6.out.row (p := (d.s, (vName ol.length))) ((Below.refl _ _).alloc (Nat.le_refl _) _) hown7 hg7 hat7); have q1 : w7.cell? ⟨pb, 1, none⟩ = some (.string (bstr (vName ol.length))) := (World.cell?_of_block (a := ⟨pb, 1, none⟩) ((hg7.block pb (by have := HPL.out; simp; omega) HPN.out).trans (Below.heap_alloc w6 _ pb HPL.out))).trans HP1.out; clear hown7 hb7 hg7 hat7)
    clear p0 p1 HP1

    have k3 := H7.out.bs.cl.load.2.2.2.1
    have z3 := H7.out.bs.cl.fz 3
    go_upto_region 18 with fail
    exact do_B w0 d l N env A cA ol s v W w E r gt HXX.out { d.bar0 with s := vName ol.length } v5 _ ⟨rfl, rfl, rfl, rfl, by rw [if_pos HC.out], rfl, rfl⟩ rfl (by rw [HOA.out]; exact H7.out.setS (vName ol.length) HVL.out) (by assumption) (by assumption)
  have q6 : (d.kind == 6) = false := by simpa using h6
  by_cases h7 : d.kind = 7
  · have q7 : (d.kind == 7) = true := by simpa using h7
    have hc : d.kind = 4 ∨ d.kind = 6 ∨ d.kind = 7 := .inr (.inr h7)
    clear h4 h6 h7
    have HOA := Lib.hid (show d.oA = [d.s] by unfold ExD.oA; rw [if_pos hc])
    have HC := Lib.hid hc
    have hbl : 1 ≤ d.bs.length := by rw [bs_C]; unfold ExD.oB; rw [HOA.out]; simp
    have HNX := Lib.hid (bind_any N ol s.1 s.2 v d.s w3c H0.out.nr (HTW.out.keep H0.out.bs.wo.b) (by have h := HM.out; omega))
    have HVL := Lib.hid (vName_len (k := ol.length) (by have h := HM.out; omega))
    have HBY := Lib.hid (show (([] : List Bd).length + 1) * 32 ≤ 140737488355328 by decide)
    clear hc hbl
    obtain ⟨c0, c1, c2, c3, c4, c5, c6, c7⟩ := HDW.out.at_ H0.out.bs.wo.oth
    go_wp2_with fail
    refine HNX.out.mono ?_
    rintro e w5 ⟨rfl, v5, hn5, hk5⟩
    have H5 := Lib.hid (H0.out.bind (s1 := s) hn5 hk5)
    clear c0 c1 c2 c3 c4 c5 c6 c7 hn5 hk5 HNX
    go_upto_region 16 with fail
    have H6 := Lib.hid (H5.out.below ((Below.refl _ _).alloc (Nat.le_refl _) (.cells #[.string (bstr d.s), .string (bstr (vName ol.length))] 85)))
    have p0 : (w5.alloc (.cells #[.string (bstr d.s), .string (bstr (vName ol.length))] 85)).cell? ⟨w5.heap.size, 0, none⟩ = some (.string (bstr d.s)) := cell_new w5 _ _ 0 rfl
    have p1 : (w5.alloc (.cells #[.string (bstr d.s), .string (bstr (vName ol.length))] 85)).cell? ⟨w5.heap.size, 1, none⟩ = some (.string (bstr (vName ol.length))) := cell_new w5 _ _ 1 rfl
    have HPL := Lib.hid (show w5.heap.size < (w5.alloc (.cells #[.string (bstr d.s), .string (bstr (vName ol.length))] 85)).heap.size by simp)
    have HPN := Lib.hid (show some w5.heap.size ≠ nE.ownBlock from fun e => by have := (H5.out.ow.lt _ e.symm).2; omega)
    generalize w5.alloc (.cells #[.string (bstr d.s), .string (bstr (vName ol.length))] 85) = w6 at *
    obtain ⟨pb, hpb⟩ : ∃ pb, w5.heap.size = pb := ⟨_, rfl⟩
    rw [hpb] at p0 p1 HPL HPN ⊢
    clear hpb
    have HP1 := Lib.hid p1
    go_upto_region 17 with (at_builtin; refine wpList_app elBd _ rfl (.tmp 86) (.tmp 88) rfl (N + 1) nE ([] : List Bd).length _ rfl (H6.out.ow.alloc _) (some ⟨w6.heap.size, 0, none⟩) 1 1 (bd2 (d.s, (vName ol.length))) rfl (Rd.lit w6 #[.string (bstr d.s), .string (bstr (vName ol.length))] _ rfl) (bd_one (d.s, (vName ol.length))) HBY.out (by have := H6.out.nr.o.lt; simp; omega) ?_; intro v7 w7 hown7 hb7 hg7 hat7; have H7 := Lib.hid (H6.out.row (p := (d.s, (vName ol.length))) ((Below.refl _ _).alloc (Nat.le_refl _) _) hown7 hg7 hat7); have q1 : w7.cell? ⟨pb, 1, none⟩ = some (.string (bstr (vName ol.length))) := (World.cell?_of_block (a := ⟨pb, 1, none⟩) ((hg7.block pb (by have := HPL.out; simp; omega) HPN.out).trans (Below.heap_alloc w6 _ pb HPL.out))).trans HP1.out; clear hown7 hb7 hg7 hat7)
    clear p0 p1 HP1

    have k3 := H7.out.bs.cl.load.2.2.2.1
    have z3 := H7.out.bs.cl.fz 3
    go_upto_region 18 with fail
    exact do_B w0 d l N env A cA ol s v W w E r gt HXX.out { d.bar0 with s := vName ol.length } v5 _ ⟨rfl, rfl, rfl, rfl, by rw [if_pos HC.out], rfl, rfl⟩ rfl (by rw [HOA.out]; exact H7.out.setS (vName ol.length) HVL.out) (by assumption) (by assumption)
  · have q7 : (d.kind == 7) = false := by simpa using h7
    have hc : ¬ (d.kind = 4 ∨ d.kind = 6 ∨ d.kind = 7) := fun q => q.elim h4 (fun q => q.elim h6 h7)
    clear h4 h6 h7
    have HOA := Lib.hid (show d.oA = [] by unfold ExD.oA; rw [if_neg hc])
    have HC := Lib.hid hc
    clear hc
    obtain ⟨c0, _, _, _, _, _, _, _⟩ := HDW.out.at_ H0.out.bs.wo.oth
    go_upto_region 18 with fail
    exact do_B w0 d l N env A cA ol s v W w E r gt HXX.out d.bar0 v w3c ⟨rfl, rfl, rfl, rfl, by rw [if_neg HC.out]; rfl, rfl, rfl⟩ rfl (by rw [HOA.out, List.append_nil]; exact H0.out) (by assumption) (by assumption)

set_option maxRecDepth 100000 in
set_option maxHeartbeats 2000000 in
theorem do_rest (w0 : World) (d : ExD) (l : List Ex) (hI : (Ex.mk d l).In w0) (N : Nat) (hN : w0.heap.size ≤ N) (hK : KidsD w0 N l) (env : List Bd) (A : Option Addr) (cA : Nat) (ol : List Str) (s : Int × Bool) (v : Value) (W : World) (hb : Below w0.heap.size w0 W) (hn : NR W N ol s.1 s.2 v) (hT : TB N W) (hE : Rd W 2 A env.length (bds env)) (hEB : 0 < env.length → ∀ a, A = some a → a.block ≠ N ∧ some a.block ≠ v.ownBlock)
    (hEL : ∀ p ∈ env, p.2.length ≤ 9223372036854775807) (hf : (Ex.mk d l).fineE = true) (hm : ol.length + (Ex.mk d l).bsN ≤ 4000000) (hd : env.length + 2 * (depthL l + 1) ≤ 4000000) (h3 : d.kind ≠ 3) :
    Calls Tryz.prog 22 #[.pointer (some ⟨N, 0, none⟩), .agg d.arr, .slice A env.length cA] W fun e w' => DoR N ol s v env (.mk d l) W e w' := by
  have HDW := Lib.hid (show DW N W d ol s v A env (W.alloc (.cells #[.int .i64 d.kind, .int .i64 d.at_, .int .i64 d.n, .string (bstr d.s), .string (bstr d.t), .slice d.lA d.ln d.lc, .slice d.nA d.nn d.nc, .slice d.pA d.pn d.pc] 25)) (((W.alloc (.cells #[.int .i64 d.kind, .int .i64 d.at_, .int .i64 d.n, .string (bstr d.s), .string (bstr d.t), .slice d.lA d.ln d.lc, .slice d.nA d.nn d.nc, .slice d.pA d.pn d.pc] 25)).alloc (.cells #[.int .i64 0, .int .i64 0, .int .i64 0, .string ⟨#[]⟩, .string ⟨#[]⟩, .slice none 0 0, .slice none 0 0, .slice none 0 0] 25)).alloc (.cells #[.int .i64 d.kind, .int .i64 d.at_, .int .i64 d.n, .string (bstr d.s), .string (bstr d.t), .slice d.lA d.ln d.lc, .slice none 0 0, .slice none 0 0] 25)) W.heap.size (W.heap.size + 1) (W.heap.size + 2) from DW.start hI hN hb hn hE hEB)
  have HI := Lib.hid hI
  have HN := Lib.hid hN
  have HK := Lib.hid hK
  have HB := Lib.hid hb
  have hxx0 := And.intro hI (And.intro hN (And.intro hK (And.intro hb (And.intro hEL (And.intro hf (And.intro hd h3))))))
  have HX0 := Lib.hid hxx0
  have HTW := Lib.hid (hT.keep ((Below.refl W.heap.size W).alloc (Nat.le_refl _) (.cells #[.int .i64 d.kind, .int .i64 d.at_, .int .i64 d.n, .string (bstr d.s), .string (bstr d.t), .slice d.lA d.ln d.lc, .slice d.nA d.nn d.nc, .slice d.pA d.pn d.pc] 25) |>.mono (Nat.le_of_lt hn.o.lt)))
  have HEL := Lib.hid hEL
  have HF := Lib.hid hf
  have HM := Lib.hid (show ol.length + (d.bs.length + bsNL l) ≤ 4000000 from by simpa [Ex.bsN] using hm)
  have HD := Lib.hid hd
  have H3 := Lib.hid h3
  have HP := Lib.hid (fine_parts hf hI)
  have q3 : (d.kind == 3) = false := by simpa using h3
  clear hxx0 hI hN hK hb hn hT hE hEB hEL hf hm hd h3
  go_enter Tryz.func22, Tryz.ntmps22
  go_upto_region 1 with fail
  have hs1 : (W.alloc (.cells #[.int .i64 d.kind, .int .i64 d.at_, .int .i64 d.n, .string (bstr d.s), .string (bstr d.t), .slice d.lA d.ln d.lc, .slice d.nA d.nn d.nc, .slice d.pA d.pn d.pc] 25)).heap.size = W.heap.size + 1 := World.size_alloc _ _
  have hs2 : ((W.alloc (.cells #[.int .i64 d.kind, .int .i64 d.at_, .int .i64 d.n, .string (bstr d.s), .string (bstr d.t), .slice d.lA d.ln d.lc, .slice d.nA d.nn d.nc, .slice d.pA d.pn d.pc] 25)).alloc (.cells #[.int .i64 0, .int .i64 0, .int .i64 0, .string ⟨#[]⟩, .string ⟨#[]⟩, .slice none 0 0, .slice none 0 0, .slice none 0 0] 25)).heap.size = W.heap.size + 2 := by rw [World.size_alloc, hs1]
  obtain ⟨c0, c1, c2, c3, c4, c5, c6, c7⟩ := HDW.out.ee.lower ((Below.refl _ _).alloc (Nat.le_refl _) (.cells #[.int .i64 0, .int .i64 0, .int .i64 0, .string ⟨#[]⟩, .string ⟨#[]⟩, .slice none 0 0, .slice none 0 0, .slice none 0 0] 25))
  go_upto_region 2 with fail
  clear c0 c1 c2 c3 c4 c5 c6 c7 hs1 hs2
  generalize ((W.alloc (.cells #[.int .i64 d.kind, .int .i64 d.at_, .int .i64 d.n, .string (bstr d.s), .string (bstr d.t), .slice d.lA d.ln d.lc, .slice d.nA d.nn d.nc, .slice d.pA d.pn d.pc] 25)).alloc (.cells #[.int .i64 0, .int .i64 0, .int .i64 0, .string ⟨#[]⟩, .string ⟨#[]⟩, .slice none 0 0, .slice none 0 0, .slice none 0 0] 25)).alloc (.cells #[.int .i64 d.kind, .int .i64 d.at_, .int .i64 d.n, .string (bstr d.s), .string (bstr d.t), .slice d.lA d.ln d.lc, .slice none 0 0, .slice none 0 0] 25) = w3 at *
  generalize W.alloc (.cells #[.int .i64 d.kind, .int .i64 d.at_, .int .i64 d.n, .string (bstr d.s), .string (bstr d.t), .slice d.lA d.ln d.lc, .slice d.nA d.nn d.nc, .slice d.pA d.pn d.pc] 25) = w at *
  obtain ⟨gt, hgt⟩ : ∃ gt, W.heap.size + 2 = gt := ⟨_, rfl⟩
  obtain ⟨r, hr⟩ : ∃ r, W.heap.size + 1 = r := ⟨_, rfl⟩
  obtain ⟨E, hE⟩ : ∃ E, W.heap.size = E := ⟨_, rfl⟩
  rw [hgt, hr, hE] at HDW ⊢
  clear hgt hr hE
  have HLO := Lib.hid (fun (wx : World) (h : Below N w wx) => HB.out.trans ((HDW.out.hW.mono HB.out.size).trans (h.mono HN.out)))
  have H0 := Lib.hid HDW.out.bd
  obtain ⟨c0, _, _, _, _, _, _, _⟩ := HDW.out.at_ H0.out.bs.wo.oth
  go_upto_region 14 with fail
  clear c0 q3
  have hx : DX w0 N W d l env A ol s v w E r gt := ⟨HX0.out.1, HX0.out.2.1, HX0.out.2.2.1, HX0.out.2.2.2.1, ⟨_, HDW.out⟩, HTW.out, HX0.out.2.2.2.2.1, HX0.out.2.2.2.2.2.1, HM.out, HX0.out.2.2.2.2.2.2.1, HX0.out.2.2.2.2.2.2.2⟩
  exact do_A w0 d l N env A cA ol s v W w E r gt hx w3 H0.out (by assumption) (by assumption)
end Go.Proofs.YtaglmmcjhlehjaaGreatDoor
