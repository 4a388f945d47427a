/-
  The term that an evidence is, held against the document's.
-/
import Derived.Test.YtlgmddnpmmggdaaDoorEtM
import Derived.Test.YtlgmddnpmmggdaaDoorTmC
import Derived.BigQuiet
import Derived.LoopN
import Derived.Deep.QuietTactic
namespace Go.Proofs.YtlgmddnpmmggdaaDoor
open Go.ChangeShapes Go.WideShapes Go.ChangeAt Go.RowKit Go.Sort Go.Maps
set_option linter.unusedVariables false
set_option linter.unusedSimpArgs false
attribute [local irreducible] Go.wpQuiet

theorem wf_in {n : Int} (h : (Lit.int .i64 n).wf = true) : -9223372036854775808 ≤ n ∧ n ≤ 9223372036854775807 := by
  simpa [Lit.wf, IntKind.min, IntKind.max, IntKind.signed, IntKind.bits] using h
theorem six_new (w : World) (a0 a1 a2 a3 a4 a5 : Value) (t : TypeId) : Below w.heap.size w (w.alloc (.cells #[a0, a1, a2, a3, a4, a5] t)) ∧ Six (w.alloc (.cells #[a0, a1, a2, a3, a4, a5] t)) w.heap.size a0 a1 a2 a3 a4 a5 :=
  ⟨(Below.refl _ _).alloc (Nat.le_refl _) _, Six.of (heap_alloc_new w _)⟩
theorem six_set {w : World} {B G i : Nat} {a0 a1 a2 a3 a4 a5 v : Value} (h : Six w G a0 a1 a2 a3 a4 a5) (hne : B ≠ G) : Six (w.setCell ⟨B, i, none⟩ v) G a0 a1 a2 a3 a4 a5 := by
  have k : ∀ j, (w.setCell ⟨B, i, none⟩ v).cell? ⟨G, j, none⟩ = w.cell? ⟨G, j, none⟩ := fun j => World.cell?_setCell_other _ _ _ _ (fun e => hne (congrArg Addr.block e))
  exact ⟨(k 0).trans h.r0, (k 1).trans h.r1, (k 2).trans h.r2, (k 3).trans h.r3, (k 4).trans h.r4, (k 5).trans h.r5, fun j => by rw [World.frozen?_setCell]; exact h.fr j⟩
theorem two_cells {w : World} {p : Nat} {n : Int} {s : Str} (h : Rd w 6 (some ⟨p, 0, none⟩) 2 (two12 n s)) : w.cell? ⟨p, 0, none⟩ = some (.int .i64 3) ∧ w.cell? ⟨p, 1, none⟩ = some (.int .i64 0) ∧ w.cell? ⟨p, 2, none⟩ = some (.string (bstr s)) ∧
    w.cell? ⟨p, 6, none⟩ = some (.int .i64 1) ∧ w.cell? ⟨p, 7, none⟩ = some (.int .i64 n) ∧ w.cell? ⟨p, 8, none⟩ = some (.string ⟨#[]⟩) := by
  obtain ⟨a, ha, hh⟩ := h.2 (by simp [two12, core3, core1])
  cases ha
  exact ⟨hh 0 _ rfl, hh 1 _ rfl, hh 2 _ rfl, hh 6 _ rfl, hh 7 _ rfl, hh 8 _ rfl⟩
/-- Six cells written: what they hold, what another block holds, what lies below. -/
theorem six_sets {w : World} {B N : Nat} {a0 a1 a2 a3 a4 a5 : Value} (x0 x1 x2 x3 x4 x5 : Value) (h : Six w B a0 a1 a2 a3 a4 a5) (hN : N ≤ B) {W : World}
    (hW : W = (((((w.setCell ⟨B, 0, none⟩ x0).setCell ⟨B, 1, none⟩ x1).setCell ⟨B, 2, none⟩ x2).setCell ⟨B, 3, none⟩ x3).setCell ⟨B, 4, none⟩ x4).setCell ⟨B, 5, none⟩ x5) :
    Six W B x0 x1 x2 x3 x4 x5 ∧ (∀ G b0 b1 b2 b3 b4 b5, B ≠ G → Six w G b0 b1 b2 b3 b4 b5 → Six W G b0 b1 b2 b3 b4 b5) ∧ Below N w W := by
  have h6 := set6 x0 x1 x2 x3 x4 x5 h.r0 h.r1 h.r2 h.r3 h.r4 h.r5 hW
  subst hW
  refine ⟨⟨h6.1, h6.2.1, h6.2.2.1, h6.2.2.2.1, h6.2.2.2.2.1, h6.2.2.2.2.2, fun j => by simp only [World.frozen?_setCell]; exact h.fr j⟩, fun G b0 b1 b2 b3 b4 b5 hne hg => six_set (six_set (six_set (six_set (six_set (six_set hg hne) hne) hne) hne) hne) hne, ?_⟩
  exact (((((((Below.refl _ _).setCell hN _).setCell hN _).setCell hN _).setCell hN _).setCell hN _).setCell hN _)

set_option maxRecDepth 100000 in
set_option maxHeartbeats 1000000 in
theorem et_term_neg {may : Bool} {u0 u1 u2 u5 u7 u9 u10 u14 u15 u17 u19 u20 u21 u22 u23 u24 u25 u26 u27 u28 u29 u30 u31 u32 u33 u34 u35 u36 u37 u38 u39 u40 u41 u42 u43 u44 u45 u46 u47 u48 u49 u50 u51 u52 u53 u54 u55 u56 u57 u58 u59 u60 u61 u62 u63 u64 u65 u66 u67 u68 u69 u70 u71 u72 u73 u74 u75 u76 u77 u78 u79 u80 u81 u82 u83 u84 u85 u86 u87 u88 u89 u90 u91 u92 u93 u94 u95 u96 u97 u98 u99 u100 u101 u102 u103 u104 u105 u106 u107 u108 u109 u110 u111 u112 u113 u114 u115 u116 u117 u118 u119 u120 u121 u122 u123 u124 u125 u126 u127 u128 u129 u130 u131 u132 u133 u134 u135 u136 u137 u138 u139 u140 u141 u142 u143 u144 u145 u146 u147 u148 u149 u150 u151 u152 u153 u154 u155 u156 u157 u158 u159 u160 u161 u162 u163 u164 u165 u166 u167 u168 u169 u170 u171 u172 u173 u174 u175 u176 u177 u178 u179 u180 u181 u182 u183 u184 u185 u186 u187 u188 u189 u190 u191 u192 u193 u194 u195 u196 u197 u198 u199 u200 u201 u202 u203 u204 u205 u206 u207 u208 u209 u210 u211 u212 u213 u214 u215 u216 u217 u218 u219 u220 u221 u222 u223 u224 u225 u226 u227 u228 u229 u230 u231 u232 u233 u234 u235 u236 u237 u238 u239 u240 u241 u242 u243 u244 u245 u246 u247 u248 u249 u250 u251 u252 u253 u254 u255 u256 u257 u258 u259 u260 u261 u262 u263 u264 u265 u266 u267 u268 u269 u270 u271 u272 u273 u274 u275 u276 u277 u278 u279 u280 u281 u282 u283 u284 u285 u286 u287 u288 u289 u290 u291 u292 u293 u294 u295 u296 u297 u298 u299 u300 u301 u302 u303 u304 u305 u306 u307 u308 u309 u310 u311 u312 u313 u314 u315 u316 u317 u318 u319 u320 u321 u322 u323 u324 u325 u326 u327 u328 u329 u330 u331 u332 u333 u334 u335 u336 u337 u338 u339 u340 u341 u342 u343 u344 u345 u346 u347 u348 u349 u350 u351 u352 u353 u354 u355 u356 u357 u358 u359 u360 u361 u362 u363 u364 : Value} (b : Nat) (n row : Int) (lab : Str) (t : Ty) (LA : Option Addr) (lc : Nat) (L : List Lk) (w0 w : World) (hI : t.In w0) (hG : t.Rg) (hb : Below w0.heap.size w0 w) (hE : EB w b t.d n row lab LA L.length lc)
    (hr : Rd w 1 LA L.length (L.map Lk.val)) (hL : L.length ≤ 4000000) (hLI : ∀ k ∈ L, k.In w) (hm : (mayF t 0).isSome = may)
    (KA VA : Option Addr) (kc vc : Nat) (ks : List (Int × Str)) (vs : List Int) (hKA : Rd w 2 KA ks.length (nds ks)) (hVA : Rd w 1 VA vs.length (i64s vs)) (hlen : ks.length ≤ vs.length) (h50 : ks.length ≤ 50)
    (hks : ∀ x ∈ ks, (Lit.int .i64 x.1).wf = true ∧ x.2.length ≤ maxLen) (hvs : ∀ v ∈ vs, (Lit.int .i64 v).wf = true) (hrw : (Lit.int .i64 row).wf = true) (hlb : lab.length ≤ maxLen) (hlab : lab.length ≤ 1000000) (hL2 : Lay w) (hrow : row < 0)
    {K : Act → World → Prop} (hK : ∀ a w, Code.wp Tryd.prog (tl 9) (bodyPost Tryd.prog Tryd.f3 (Fin3 w0)) a w → K a w) : Code.wp Tryd.prog (hd 8) (Exit.then K (bodyPost Tryd.prog Tryd.f3 (Fin3 w0))) ⟨#[u0, u1, u2, .slice KA ks.length kc, .slice VA vs.length vc, u5, .pointer (some ⟨b, 0, Option.none⟩), u7, .pointer (some ⟨b + 1, 0, Option.none⟩), u9, u10, .pointer (some ⟨b + 1 + 1, 0, Option.none⟩), .bool false, .bool true, u14, u15, .bool may, u17, .string (bstr (nameT row lab)), u19, u20, u21, u22, u23, u24, u25, u26, u27, u28, u29, u30, u31, u32, u33, u34, u35, u36, u37, u38, u39, u40, u41, u42, u43, u44, u45, u46, u47, u48, u49, u50, u51, u52, u53, u54, u55, u56, u57, u58, u59, u60, u61, u62, u63, u64, u65, u66, u67, u68, u69, u70, u71, u72, u73, u74, u75, u76, u77, u78, u79, u80, u81, u82, u83, u84, u85, u86, u87, u88, u89, u90, u91, u92, u93, u94, u95, u96, u97, u98, u99, u100, u101, u102, u103, u104, u105, u106, u107, u108, u109, u110, u111, u112, u113, u114, u115, u116, u117, u118, u119, u120, u121, u122, u123, u124, u125, u126, u127, u128, u129, u130, u131, u132, u133, u134, u135, u136, u137, u138, u139, u140, u141, u142, u143, u144, u145, u146, u147, u148, u149, u150, u151, u152, u153, u154, u155, u156, u157, u158, u159, u160, u161, u162, u163, u164, u165, u166, u167, u168, u169, u170, u171, u172, u173, u174, u175, u176, u177, u178, u179, u180, u181, u182, u183, u184, u185, u186, u187, u188, u189, u190, u191, u192, u193, u194, u195, u196, u197, u198, u199, u200, u201, u202, u203, u204, u205, u206, u207, u208, u209, u210, u211, u212, u213, u214, u215, u216, u217, u218, u219, u220, u221, u222, u223, u224, u225, u226, u227, u228, u229, u230, u231, u232, u233, u234, u235, u236, u237, u238, u239, u240, u241, u242, u243, u244, u245, u246, u247, u248, u249, u250, u251, u252, u253, u254, u255, u256, u257, u258, u259, u260, u261, u262, u263, u264, u265, u266, u267, u268, u269, u270, u271, u272, u273, u274, u275, u276, u277, u278, u279, u280, u281, u282, u283, u284, u285, u286, u287, u288, u289, u290, u291, u292, u293, u294, u295, u296, u297, u298, u299, u300, u301, u302, u303, u304, u305, u306, u307, u308, u309, u310, u311, u312, u313, u314, u315, u316, u317, u318, u319, u320, u321, u322, u323, u324, u325, u326, u327, u328, u329, u330, u331, u332, u333, u334, u335, u336, u337, u338, u339, u340, u341, u342, u343, u344, u345, u346, u347, u348, u349, u350, u351, u352, u353, u354, u355, u356, u357, u358, u359, u360, u361, u362, u363, u364], []⟩ w := by
  conv at hK => enter [a, w, 1, 2]; whnf
  conv => arg 2; whnf
  have HT := Lib.hid (And.intro hI (And.intro hG (And.intro hL hm)))
  have HB := Lib.hid hb
  have HE := Lib.hid hE
  have HLL := Lib.hid (And.intro hr hLI)
  have HKV := Lib.hid (And.intro hKA (And.intro hVA (And.intro hlen (And.intro h50 (And.intro hks (And.intro hvs (And.intro hrw hlb)))))))
  have HRW := Lib.hid (wf_in hrw)
  have HLB := Lib.hid hlab
  have HLAY := Lib.hid hL2
  have HR := Lib.hid hrow
  have q : decide (row < 0) = true := decide_eq_true HR.out
  clear hI hG hL hm hb hE hr hLI hKA hVA hks hvs hrw hlb hlen h50 hlab hL2 hrow
  have e0 := HE.out.e0
  have e1 := HE.out.e1
  have e2 := HE.out.e2
  go_wp2_with fail
  refine (term_neg n row (bstr lab) w (by have := HR.out; omega)).mono ?_
  rintro e w2 ⟨rfl, hb2⟩
  unfold core1
  obtain ⟨nm, hnm⟩ : ∃ nm, nameT row lab = nm := ⟨_, rfl⟩
  rw [hnm] at *
  clear e0 e1 e2
  go_upto_region 18 with fail
  obtain ⟨hb3, sT⟩ := six_new w2 (.int .i64 1) (.int .i64 n) (.string ⟨#[]⟩) (.string ⟨#[]⟩) (.slice none 0 0) (.slice none 0 0) 46
  have HE3 := Lib.hid ((HE.out.below hb2).below hb3)
  have HB3 := Lib.hid (below_then hb2 hb3)
  have HTW := Lib.hid (show w.heap.size ≤ w2.heap.size from hb2.size)
  clear hb2 hb3
  generalize w2.alloc (.cells #[.int .i64 1, .int .i64 n, .string ⟨#[]⟩, .string ⟨#[]⟩, .slice none 0 0, .slice none 0 0] 46) = w3 at *
  generalize w2.heap.size = BT at *
  have HsT3 := Lib.hid sT
  clear sT
  have e0 := HE3.out.e0
  go_upto_region 19 with fail
  clear e0
  obtain ⟨hb4, sN⟩ := six_new w3 (.int .i64 1) (.int .i64 n) (.string ⟨#[]⟩) (.string ⟨#[]⟩) (.slice none 0 0) (.slice none 0 0) 46
  have HE4 := Lib.hid (HE3.out.below hb4)
  have HB4 := Lib.hid (below_then HB3.out hb4)
  have HsT4 := Lib.hid (HsT3.out.below hb4)
  clear hb4 HE3 HB3 HsT3
  generalize w3.alloc (.cells #[.int .i64 1, .int .i64 n, .string ⟨#[]⟩, .string ⟨#[]⟩, .slice none 0 0, .slice none 0 0] 46) = w4 at *
  generalize w3.heap.size = BN at *
  have HsN4 := Lib.hid sN
  clear sN
  go_upto_region 20 with fail
  obtain ⟨hb5, sV⟩ := six_new w4 (.int .i64 3) (.int .i64 0) (.string (bstr nm)) (.string ⟨#[]⟩) (.slice none 0 0) (.slice none 0 0) 46
  have HE5 := Lib.hid (HE4.out.below hb5)
  have HB5 := Lib.hid (below_then HB4.out hb5)
  have HsT5 := Lib.hid (HsT4.out.below hb5)
  have HsN5 := Lib.hid (HsN4.out.below hb5)
  clear hb5 HE4 HB4 HsT4 HsN4
  generalize w4.alloc (.cells #[.int .i64 3, .int .i64 0, .string (bstr nm), .string ⟨#[]⟩, .slice none 0 0, .slice none 0 0] 46) = w5 at *
  generalize w4.heap.size = BV at *
  have HsV5 := Lib.hid sV
  have hb6 : Below w5.heap.size w5 (w5.alloc (.cells (two12 n nm).toArray 46)) := (Below.refl _ _).alloc (Nat.le_refl _) _
  have HE6 := Lib.hid (HE5.out.below hb6)
  have HB6 := Lib.hid (below_then HB5.out hb6)
  have HsT6 := Lib.hid (HsT5.out.below hb6)
  have HsN6 := Lib.hid (HsN5.out.below hb6)
  have HsV6 := Lib.hid (HsV5.out.below hb6)
  have HG := Lib.hid (Rd.lit (size := 6) (n := 2) w5 (two12 n nm).toArray 46 rfl (fr := (0, 0)))
  have HTT := Lib.hid (build_two n nm w5)
  obtain ⟨v0, v1, v2, v3, v4, v5, _⟩ := sV
  obtain ⟨m0, m1, m2, m3, m4, m5, _⟩ := HsN5.out
  clear hb6 HE5 HB5 HsT5 HsN5 HsV5
  generalize w5.alloc (.cells (two12 n nm).toArray 46) = w6 at *
  generalize w5.heap.size = G at *
  go_upto_region 21 with ((with_reducible refine wpList_buildTwo (x0 := .tmp 141) (x1 := .tmp 142) ?g _ _ _ _ ?h _ _ _ ?e0 ?e1 w6 HTT.out ?_); (case g => rfl); (case h => rfl); (case e0 => rfl); (case e1 => rfl))
  clear v0 v1 v2 v3 v4 v5 m0 m1 m2 m3 m4 m5
  obtain ⟨hb7, sW⟩ := six_new w6 (.int .i64 16) (.int .i64 0) (.string ⟨#[43]⟩) (.string ⟨#[]⟩) (.slice none 0 0) (.slice (some ⟨G, 0, none⟩) 2 2) 46
  have HE7 := Lib.hid (HE6.out.below hb7)
  have HB7 := Lib.hid (below_then HB6.out hb7)
  have HsT7 := Lib.hid (HsT6.out.below hb7)
  have HsN7 := Lib.hid (HsN6.out.below hb7)
  have HsV7 := Lib.hid (HsV6.out.below hb7)
  have HG7 := Lib.hid (HG.out.below hb7)
  have HS6 := Lib.hid (show w.heap.size ≤ w6.heap.size from HB6.out.size)
  have HNT := Lib.hid (show w6.heap.size ≠ BT from Nat.ne_of_gt HsT6.out.lt)
  clear hb7 HB6 HE6 HsT6 HsN6 HsV6 HG
  generalize w6.alloc (.cells #[.int .i64 16, .int .i64 0, .string ⟨#[43]⟩, .string ⟨#[]⟩, .slice none 0 0, .slice (some ⟨G, 0, none⟩) 2 2] 46) = w7 at *
  have HWW := Lib.hid (show w.heap.size ≤ w6.heap.size from HS6.out)
  generalize w6.heap.size = BW at *
  have HsW7 := Lib.hid sW
  clear sW
  have e1 := HE7.out.e1
  obtain ⟨m0, m1, m2, m3, m4, m5, _⟩ := HsN7.out
  obtain ⟨r0, r1, r2, r3, r4, r5, fr⟩ := HsW7.out
  have f0 := fr 0
  have f1 := fr 1
  have f2 := fr 2
  have f3 := fr 3
  have f4 := fr 4
  have f5 := fr 5
  have HW8 := Lib.hid (six_sets (.int .i64 1) (.int .i64 n) (.string ⟨#[]⟩) (.string ⟨#[]⟩) (.slice none 0 0) (.slice none 0 0) HsW7.out HWW.out rfl)
  clear fr
  go_upto_region 25 with fail
  obtain ⟨s8, o8, b8⟩ := HW8.out
  have HsW8 := Lib.hid s8
  have HsT8 := Lib.hid (o8 BT _ _ _ _ _ _ HNT.out HsT7.out)
  have HB8 := Lib.hid (HB7.out.trans b8)
  clear m0 m1 m2 m3 m4 m5 r0 r1 r2 r3 r4 r5 f0 f1 f2 f3 f4 f5 s8 o8 b8 HW8 HsW7 HsT7 HsN7 HsV7 HB7 HE7 HG7 e1
  generalize (((((w7.setCell ⟨BW, 0, none⟩ (.int .i64 1)).setCell ⟨BW, 1, none⟩ (.int .i64 n)).setCell ⟨BW, 2, none⟩ (.string ⟨#[]⟩)).setCell ⟨BW, 3, none⟩ (.string ⟨#[]⟩)).setCell ⟨BW, 4, none⟩ (.slice none 0 0)).setCell ⟨BW, 5, none⟩ (.slice none 0 0) = w8 at *
  obtain ⟨r0, r1, r2, r3, r4, r5, _⟩ := HsW8.out
  obtain ⟨t0, t1, t2, t3, t4, t5, _⟩ := HsT8.out
  go_wp2_with fail
  refine wp_loop_rounds 1 ?_
  rw [rounds_succ]
  have hb8 := HB8.out
  have HB9 := Lib.hid (below_then HB.out hb8)
  have HE9 := Lib.hid (HE.out.below hb8)
  have HL9 := Lib.hid (And.intro (HLL.out.1.below hb8) (fun k hk => (HLL.out.2 k hk).below hb8))
  have HK9 := Lib.hid (And.intro (HKV.out.1.below hb8) (HKV.out.2.1.below hb8))
  clear hb8
  go_upto_region 32 with fail
  exact et_map b n row lab t LA lc L w0 w8 HT.out.1 HT.out.2.1 HB9.out HE9.out HL9.out.1 HT.out.2.2.1 HL9.out.2 HT.out.2.2.2 KA VA kc vc ks vs HK9.out.1 HK9.out.2 HKV.out.2.2.1 HKV.out.2.2.2.1 HKV.out.2.2.2.2.1 HKV.out.2.2.2.2.2.1 HKV.out.2.2.2.2.2.2.1 HKV.out.2.2.2.2.2.2.2 (by assumption)

set_option maxRecDepth 100000 in
set_option maxHeartbeats 1000000 in
theorem et_term_zero {may : Bool} {u0 u1 u2 u5 u7 u9 u10 u14 u15 u17 u19 u20 u21 u22 u23 u24 u25 u26 u27 u28 u29 u30 u31 u32 u33 u34 u35 u36 u37 u38 u39 u40 u41 u42 u43 u44 u45 u46 u47 u48 u49 u50 u51 u52 u53 u54 u55 u56 u57 u58 u59 u60 u61 u62 u63 u64 u65 u66 u67 u68 u69 u70 u71 u72 u73 u74 u75 u76 u77 u78 u79 u80 u81 u82 u83 u84 u85 u86 u87 u88 u89 u90 u91 u92 u93 u94 u95 u96 u97 u98 u99 u100 u101 u102 u103 u104 u105 u106 u107 u108 u109 u110 u111 u112 u113 u114 u115 u116 u117 u118 u119 u120 u121 u122 u123 u124 u125 u126 u127 u128 u129 u130 u131 u132 u133 u134 u135 u136 u137 u138 u139 u140 u141 u142 u143 u144 u145 u146 u147 u148 u149 u150 u151 u152 u153 u154 u155 u156 u157 u158 u159 u160 u161 u162 u163 u164 u165 u166 u167 u168 u169 u170 u171 u172 u173 u174 u175 u176 u177 u178 u179 u180 u181 u182 u183 u184 u185 u186 u187 u188 u189 u190 u191 u192 u193 u194 u195 u196 u197 u198 u199 u200 u201 u202 u203 u204 u205 u206 u207 u208 u209 u210 u211 u212 u213 u214 u215 u216 u217 u218 u219 u220 u221 u222 u223 u224 u225 u226 u227 u228 u229 u230 u231 u232 u233 u234 u235 u236 u237 u238 u239 u240 u241 u242 u243 u244 u245 u246 u247 u248 u249 u250 u251 u252 u253 u254 u255 u256 u257 u258 u259 u260 u261 u262 u263 u264 u265 u266 u267 u268 u269 u270 u271 u272 u273 u274 u275 u276 u277 u278 u279 u280 u281 u282 u283 u284 u285 u286 u287 u288 u289 u290 u291 u292 u293 u294 u295 u296 u297 u298 u299 u300 u301 u302 u303 u304 u305 u306 u307 u308 u309 u310 u311 u312 u313 u314 u315 u316 u317 u318 u319 u320 u321 u322 u323 u324 u325 u326 u327 u328 u329 u330 u331 u332 u333 u334 u335 u336 u337 u338 u339 u340 u341 u342 u343 u344 u345 u346 u347 u348 u349 u350 u351 u352 u353 u354 u355 u356 u357 u358 u359 u360 u361 u362 u363 u364 : Value} (b : Nat) (row : Int) (lab : Str) (t : Ty) (LA : Option Addr) (lc : Nat) (L : List Lk) (w0 w : World) (hI : t.In w0) (hG : t.Rg) (hb : Below w0.heap.size w0 w) (hE : EB w b t.d 0 row lab LA L.length lc)
    (hr : Rd w 1 LA L.length (L.map Lk.val)) (hL : L.length ≤ 4000000) (hLI : ∀ k ∈ L, k.In w) (hm : (mayF t 0).isSome = may)
    (KA VA : Option Addr) (kc vc : Nat) (ks : List (Int × Str)) (vs : List Int) (hKA : Rd w 2 KA ks.length (nds ks)) (hVA : Rd w 1 VA vs.length (i64s vs)) (hlen : ks.length ≤ vs.length) (h50 : ks.length ≤ 50)
    (hks : ∀ x ∈ ks, (Lit.int .i64 x.1).wf = true ∧ x.2.length ≤ maxLen) (hvs : ∀ v ∈ vs, (Lit.int .i64 v).wf = true) (hrw : (Lit.int .i64 row).wf = true) (hlb : lab.length ≤ maxLen) (hlab : lab.length ≤ 1000000) (hL2 : Lay w) (hrow : ¬ row < 0)
    {K : Act → World → Prop} (hK : ∀ a w, Code.wp Tryd.prog (tl 9) (bodyPost Tryd.prog Tryd.f3 (Fin3 w0)) a w → K a w) : Code.wp Tryd.prog (hd 8) (Exit.then K (bodyPost Tryd.prog Tryd.f3 (Fin3 w0))) ⟨#[u0, u1, u2, .slice KA ks.length kc, .slice VA vs.length vc, u5, .pointer (some ⟨b, 0, Option.none⟩), u7, .pointer (some ⟨b + 1, 0, Option.none⟩), u9, u10, .pointer (some ⟨b + 1 + 1, 0, Option.none⟩), .bool false, .bool true, u14, u15, .bool may, u17, .string (bstr (nameT row lab)), u19, u20, u21, u22, u23, u24, u25, u26, u27, u28, u29, u30, u31, u32, u33, u34, u35, u36, u37, u38, u39, u40, u41, u42, u43, u44, u45, u46, u47, u48, u49, u50, u51, u52, u53, u54, u55, u56, u57, u58, u59, u60, u61, u62, u63, u64, u65, u66, u67, u68, u69, u70, u71, u72, u73, u74, u75, u76, u77, u78, u79, u80, u81, u82, u83, u84, u85, u86, u87, u88, u89, u90, u91, u92, u93, u94, u95, u96, u97, u98, u99, u100, u101, u102, u103, u104, u105, u106, u107, u108, u109, u110, u111, u112, u113, u114, u115, u116, u117, u118, u119, u120, u121, u122, u123, u124, u125, u126, u127, u128, u129, u130, u131, u132, u133, u134, u135, u136, u137, u138, u139, u140, u141, u142, u143, u144, u145, u146, u147, u148, u149, u150, u151, u152, u153, u154, u155, u156, u157, u158, u159, u160, u161, u162, u163, u164, u165, u166, u167, u168, u169, u170, u171, u172, u173, u174, u175, u176, u177, u178, u179, u180, u181, u182, u183, u184, u185, u186, u187, u188, u189, u190, u191, u192, u193, u194, u195, u196, u197, u198, u199, u200, u201, u202, u203, u204, u205, u206, u207, u208, u209, u210, u211, u212, u213, u214, u215, u216, u217, u218, u219, u220, u221, u222, u223, u224, u225, u226, u227, u228, u229, u230, u231, u232, u233, u234, u235, u236, u237, u238, u239, u240, u241, u242, u243, u244, u245, u246, u247, u248, u249, u250, u251, u252, u253, u254, u255, u256, u257, u258, u259, u260, u261, u262, u263, u264, u265, u266, u267, u268, u269, u270, u271, u272, u273, u274, u275, u276, u277, u278, u279, u280, u281, u282, u283, u284, u285, u286, u287, u288, u289, u290, u291, u292, u293, u294, u295, u296, u297, u298, u299, u300, u301, u302, u303, u304, u305, u306, u307, u308, u309, u310, u311, u312, u313, u314, u315, u316, u317, u318, u319, u320, u321, u322, u323, u324, u325, u326, u327, u328, u329, u330, u331, u332, u333, u334, u335, u336, u337, u338, u339, u340, u341, u342, u343, u344, u345, u346, u347, u348, u349, u350, u351, u352, u353, u354, u355, u356, u357, u358, u359, u360, u361, u362, u363, u364], []⟩ w := by
  conv at hK => enter [a, w, 1, 2]; whnf
  conv => arg 2; whnf
  have HT := Lib.hid (And.intro hI (And.intro hG (And.intro hL hm)))
  have HB := Lib.hid hb
  have HE := Lib.hid hE
  have HLL := Lib.hid (And.intro hr hLI)
  have HKV := Lib.hid (And.intro hKA (And.intro hVA (And.intro hlen (And.intro h50 (And.intro hks (And.intro hvs (And.intro hrw hlb)))))))
  have HRW := Lib.hid (wf_in hrw)
  have HLB := Lib.hid hlab
  have HLAY := Lib.hid hL2
  have HR := Lib.hid hrow
  have q : decide (row < 0) = false := decide_eq_false HR.out
  clear hI hG hL hm hb hE hr hLI hKA hVA hks hvs hrw hlb hlen h50 hlab hL2 hrow
  have e0 := HE.out.e0
  have e1 := HE.out.e1
  have e2 := HE.out.e2
  go_wp2_with fail
  refine (term_zero row lab w (by have := HR.out; omega) (by have := HRW.out; omega) HLB.out HLAY.out).mono ?_
  rintro e w2 ⟨rfl, hb2⟩
  unfold core3
  obtain ⟨nm, hnm⟩ : ∃ nm, nameT row lab = nm := ⟨_, rfl⟩
  rw [hnm] at *
  clear e0 e1 e2
  go_upto_region 18 with fail
  obtain ⟨hb3, sT⟩ := six_new w2 (.int .i64 3) (.int .i64 0) (.string (bstr nm)) (.string ⟨#[]⟩) (.slice none 0 0) (.slice none 0 0) 46
  have HE3 := Lib.hid ((HE.out.below hb2).below hb3)
  have HB3 := Lib.hid (below_then hb2 hb3)
  have HTW := Lib.hid (show w.heap.size ≤ w2.heap.size from hb2.size)
  clear hb2 hb3
  generalize w2.alloc (.cells #[.int .i64 3, .int .i64 0, .string (bstr nm), .string ⟨#[]⟩, .slice none 0 0, .slice none 0 0] 46) = w3 at *
  generalize w2.heap.size = BT at *
  have HsT3 := Lib.hid sT
  clear sT
  have e0 := HE3.out.e0
  go_upto_region 19 with fail
  clear e0
  obtain ⟨hb4, sN⟩ := six_new w3 (.int .i64 1) (.int .i64 0) (.string ⟨#[]⟩) (.string ⟨#[]⟩) (.slice none 0 0) (.slice none 0 0) 46
  have HE4 := Lib.hid (HE3.out.below hb4)
  have HB4 := Lib.hid (below_then HB3.out hb4)
  have HsT4 := Lib.hid (HsT3.out.below hb4)
  clear hb4 HE3 HB3 HsT3
  generalize w3.alloc (.cells #[.int .i64 1, .int .i64 0, .string ⟨#[]⟩, .string ⟨#[]⟩, .slice none 0 0, .slice none 0 0] 46) = w4 at *
  generalize w3.heap.size = BN at *
  have HsN4 := Lib.hid sN
  clear sN
  go_upto_region 20 with fail
  obtain ⟨hb5, sV⟩ := six_new w4 (.int .i64 3) (.int .i64 0) (.string (bstr nm)) (.string ⟨#[]⟩) (.slice none 0 0) (.slice none 0 0) 46
  have HE5 := Lib.hid (HE4.out.below hb5)
  have HB5 := Lib.hid (below_then HB4.out hb5)
  have HsT5 := Lib.hid (HsT4.out.below hb5)
  have HsN5 := Lib.hid (HsN4.out.below hb5)
  clear hb5 HE4 HB4 HsT4 HsN4
  generalize w4.alloc (.cells #[.int .i64 3, .int .i64 0, .string (bstr nm), .string ⟨#[]⟩, .slice none 0 0, .slice none 0 0] 46) = w5 at *
  generalize w4.heap.size = BV at *
  have HsV5 := Lib.hid sV
  have hb6 : Below w5.heap.size w5 (w5.alloc (.cells (two12 0 nm).toArray 46)) := (Below.refl _ _).alloc (Nat.le_refl _) _
  have HE6 := Lib.hid (HE5.out.below hb6)
  have HB6 := Lib.hid (below_then HB5.out hb6)
  have HsT6 := Lib.hid (HsT5.out.below hb6)
  have HsN6 := Lib.hid (HsN5.out.below hb6)
  have HsV6 := Lib.hid (HsV5.out.below hb6)
  have HG := Lib.hid (Rd.lit (size := 6) (n := 2) w5 (two12 0 nm).toArray 46 rfl (fr := (0, 0)))
  have HTT := Lib.hid (build_two 0 nm w5)
  obtain ⟨v0, v1, v2, v3, v4, v5, _⟩ := sV
  obtain ⟨m0, m1, m2, m3, m4, m5, _⟩ := HsN5.out
  clear hb6 HE5 HB5 HsT5 HsN5 HsV5
  generalize w5.alloc (.cells (two12 0 nm).toArray 46) = w6 at *
  generalize w5.heap.size = G at *
  go_upto_region 21 with ((with_reducible refine wpList_buildTwo (x0 := .tmp 141) (x1 := .tmp 142) ?g _ _ _ _ ?h _ _ _ ?e0 ?e1 w6 HTT.out ?_); (case g => rfl); (case h => rfl); (case e0 => rfl); (case e1 => rfl))
  clear v0 v1 v2 v3 v4 v5 m0 m1 m2 m3 m4 m5
  obtain ⟨hb7, sW⟩ := six_new w6 (.int .i64 16) (.int .i64 0) (.string ⟨#[43]⟩) (.string ⟨#[]⟩) (.slice none 0 0) (.slice (some ⟨G, 0, none⟩) 2 2) 46
  have HE7 := Lib.hid (HE6.out.below hb7)
  have HB7 := Lib.hid (below_then HB6.out hb7)
  have HsT7 := Lib.hid (HsT6.out.below hb7)
  have HsN7 := Lib.hid (HsN6.out.below hb7)
  have HsV7 := Lib.hid (HsV6.out.below hb7)
  have HG7 := Lib.hid (HG.out.below hb7)
  have HS6 := Lib.hid (show w.heap.size ≤ w6.heap.size from HB6.out.size)
  have HNT := Lib.hid (show w6.heap.size ≠ BT from Nat.ne_of_gt HsT6.out.lt)
  clear hb7 HB6 HE6 HsT6 HsN6 HsV6 HG
  generalize w6.alloc (.cells #[.int .i64 16, .int .i64 0, .string ⟨#[43]⟩, .string ⟨#[]⟩, .slice none 0 0, .slice (some ⟨G, 0, none⟩) 2 2] 46) = w7 at *
  have HWW := Lib.hid (show w.heap.size ≤ w6.heap.size from HS6.out)
  generalize w6.heap.size = BW at *
  have HsW7 := Lib.hid sW
  clear sW
  have e1 := HE7.out.e1
  have e0 := HE7.out.e0
  obtain ⟨m0, m1, m2, m3, m4, m5, _⟩ := HsV7.out
  obtain ⟨r0, r1, r2, r3, r4, r5, fr⟩ := HsW7.out
  have f0 := fr 0
  have f1 := fr 1
  have f2 := fr 2
  have f3 := fr 3
  have f4 := fr 4
  have f5 := fr 5
  have HW8 := Lib.hid (six_sets (.int .i64 3) (.int .i64 0) (.string (bstr nm)) (.string ⟨#[]⟩) (.slice none 0 0) (.slice none 0 0) HsW7.out HWW.out rfl)
  clear fr
  go_upto_region 25 with fail
  obtain ⟨s8, o8, b8⟩ := HW8.out
  have HsW8 := Lib.hid s8
  have HsT8 := Lib.hid (o8 BT _ _ _ _ _ _ HNT.out HsT7.out)
  have HB8 := Lib.hid (HB7.out.trans b8)
  clear m0 m1 m2 m3 m4 m5 r0 r1 r2 r3 r4 r5 f0 f1 f2 f3 f4 f5 s8 o8 b8 HW8 HsW7 HsT7 HsN7 HsV7 HB7 HE7 HG7 e1 e0
  generalize (((((w7.setCell ⟨BW, 0, none⟩ (.int .i64 3)).setCell ⟨BW, 1, none⟩ (.int .i64 0)).setCell ⟨BW, 2, none⟩ (.string (bstr nm))).setCell ⟨BW, 3, none⟩ (.string ⟨#[]⟩)).setCell ⟨BW, 4, none⟩ (.slice none 0 0)).setCell ⟨BW, 5, none⟩ (.slice none 0 0) = w8 at *
  obtain ⟨r0, r1, r2, r3, r4, r5, _⟩ := HsW8.out
  obtain ⟨t0, t1, t2, t3, t4, t5, _⟩ := HsT8.out
  go_wp2_with fail
  refine wp_loop_rounds 1 ?_
  rw [rounds_succ]
  have hb8 := HB8.out
  have HB9 := Lib.hid (below_then HB.out hb8)
  have HE9 := Lib.hid (HE.out.below hb8)
  have HL9 := Lib.hid (And.intro (HLL.out.1.below hb8) (fun k hk => (HLL.out.2 k hk).below hb8))
  have HK9 := Lib.hid (And.intro (HKV.out.1.below hb8) (HKV.out.2.1.below hb8))
  clear hb8
  go_upto_region 32 with fail
  exact et_map b 0 row lab t LA lc L w0 w8 HT.out.1 HT.out.2.1 HB9.out HE9.out HL9.out.1 HT.out.2.2.1 HL9.out.2 HT.out.2.2.2 KA VA kc vc ks vs HK9.out.1 HK9.out.2 HKV.out.2.2.1 HKV.out.2.2.2.1 HKV.out.2.2.2.2.1 HKV.out.2.2.2.2.2.1 HKV.out.2.2.2.2.2.2.1 HKV.out.2.2.2.2.2.2.2 (by assumption)

set_option maxRecDepth 100000 in
set_option maxHeartbeats 1000000 in
theorem et_term_two {may : Bool} {u0 u1 u2 u5 u7 u9 u10 u14 u15 u17 u19 u20 u21 u22 u23 u24 u25 u26 u27 u28 u29 u30 u31 u32 u33 u34 u35 u36 u37 u38 u39 u40 u41 u42 u43 u44 u45 u46 u47 u48 u49 u50 u51 u52 u53 u54 u55 u56 u57 u58 u59 u60 u61 u62 u63 u64 u65 u66 u67 u68 u69 u70 u71 u72 u73 u74 u75 u76 u77 u78 u79 u80 u81 u82 u83 u84 u85 u86 u87 u88 u89 u90 u91 u92 u93 u94 u95 u96 u97 u98 u99 u100 u101 u102 u103 u104 u105 u106 u107 u108 u109 u110 u111 u112 u113 u114 u115 u116 u117 u118 u119 u120 u121 u122 u123 u124 u125 u126 u127 u128 u129 u130 u131 u132 u133 u134 u135 u136 u137 u138 u139 u140 u141 u142 u143 u144 u145 u146 u147 u148 u149 u150 u151 u152 u153 u154 u155 u156 u157 u158 u159 u160 u161 u162 u163 u164 u165 u166 u167 u168 u169 u170 u171 u172 u173 u174 u175 u176 u177 u178 u179 u180 u181 u182 u183 u184 u185 u186 u187 u188 u189 u190 u191 u192 u193 u194 u195 u196 u197 u198 u199 u200 u201 u202 u203 u204 u205 u206 u207 u208 u209 u210 u211 u212 u213 u214 u215 u216 u217 u218 u219 u220 u221 u222 u223 u224 u225 u226 u227 u228 u229 u230 u231 u232 u233 u234 u235 u236 u237 u238 u239 u240 u241 u242 u243 u244 u245 u246 u247 u248 u249 u250 u251 u252 u253 u254 u255 u256 u257 u258 u259 u260 u261 u262 u263 u264 u265 u266 u267 u268 u269 u270 u271 u272 u273 u274 u275 u276 u277 u278 u279 u280 u281 u282 u283 u284 u285 u286 u287 u288 u289 u290 u291 u292 u293 u294 u295 u296 u297 u298 u299 u300 u301 u302 u303 u304 u305 u306 u307 u308 u309 u310 u311 u312 u313 u314 u315 u316 u317 u318 u319 u320 u321 u322 u323 u324 u325 u326 u327 u328 u329 u330 u331 u332 u333 u334 u335 u336 u337 u338 u339 u340 u341 u342 u343 u344 u345 u346 u347 u348 u349 u350 u351 u352 u353 u354 u355 u356 u357 u358 u359 u360 u361 u362 u363 u364 : Value} (b : Nat) (n row : Int) (lab : Str) (t : Ty) (LA : Option Addr) (lc : Nat) (L : List Lk) (w0 w : World) (hI : t.In w0) (hG : t.Rg) (hb : Below w0.heap.size w0 w) (hE : EB w b t.d n row lab LA L.length lc)
    (hr : Rd w 1 LA L.length (L.map Lk.val)) (hL : L.length ≤ 4000000) (hLI : ∀ k ∈ L, k.In w) (hm : (mayF t 0).isSome = may)
    (KA VA : Option Addr) (kc vc : Nat) (ks : List (Int × Str)) (vs : List Int) (hKA : Rd w 2 KA ks.length (nds ks)) (hVA : Rd w 1 VA vs.length (i64s vs)) (hlen : ks.length ≤ vs.length) (h50 : ks.length ≤ 50)
    (hks : ∀ x ∈ ks, (Lit.int .i64 x.1).wf = true ∧ x.2.length ≤ maxLen) (hvs : ∀ v ∈ vs, (Lit.int .i64 v).wf = true) (hrw : (Lit.int .i64 row).wf = true) (hlb : lab.length ≤ maxLen) (hlab : lab.length ≤ 1000000) (hL2 : Lay w) (hrow : ¬ row < 0) (hn0 : ¬ n = 0)
    {K : Act → World → Prop} (hK : ∀ a w, Code.wp Tryd.prog (tl 9) (bodyPost Tryd.prog Tryd.f3 (Fin3 w0)) a w → K a w) : Code.wp Tryd.prog (hd 8) (Exit.then K (bodyPost Tryd.prog Tryd.f3 (Fin3 w0))) ⟨#[u0, u1, u2, .slice KA ks.length kc, .slice VA vs.length vc, u5, .pointer (some ⟨b, 0, Option.none⟩), u7, .pointer (some ⟨b + 1, 0, Option.none⟩), u9, u10, .pointer (some ⟨b + 1 + 1, 0, Option.none⟩), .bool false, .bool true, u14, u15, .bool may, u17, .string (bstr (nameT row lab)), u19, u20, u21, u22, u23, u24, u25, u26, u27, u28, u29, u30, u31, u32, u33, u34, u35, u36, u37, u38, u39, u40, u41, u42, u43, u44, u45, u46, u47, u48, u49, u50, u51, u52, u53, u54, u55, u56, u57, u58, u59, u60, u61, u62, u63, u64, u65, u66, u67, u68, u69, u70, u71, u72, u73, u74, u75, u76, u77, u78, u79, u80, u81, u82, u83, u84, u85, u86, u87, u88, u89, u90, u91, u92, u93, u94, u95, u96, u97, u98, u99, u100, u101, u102, u103, u104, u105, u106, u107, u108, u109, u110, u111, u112, u113, u114, u115, u116, u117, u118, u119, u120, u121, u122, u123, u124, u125, u126, u127, u128, u129, u130, u131, u132, u133, u134, u135, u136, u137, u138, u139, u140, u141, u142, u143, u144, u145, u146, u147, u148, u149, u150, u151, u152, u153, u154, u155, u156, u157, u158, u159, u160, u161, u162, u163, u164, u165, u166, u167, u168, u169, u170, u171, u172, u173, u174, u175, u176, u177, u178, u179, u180, u181, u182, u183, u184, u185, u186, u187, u188, u189, u190, u191, u192, u193, u194, u195, u196, u197, u198, u199, u200, u201, u202, u203, u204, u205, u206, u207, u208, u209, u210, u211, u212, u213, u214, u215, u216, u217, u218, u219, u220, u221, u222, u223, u224, u225, u226, u227, u228, u229, u230, u231, u232, u233, u234, u235, u236, u237, u238, u239, u240, u241, u242, u243, u244, u245, u246, u247, u248, u249, u250, u251, u252, u253, u254, u255, u256, u257, u258, u259, u260, u261, u262, u263, u264, u265, u266, u267, u268, u269, u270, u271, u272, u273, u274, u275, u276, u277, u278, u279, u280, u281, u282, u283, u284, u285, u286, u287, u288, u289, u290, u291, u292, u293, u294, u295, u296, u297, u298, u299, u300, u301, u302, u303, u304, u305, u306, u307, u308, u309, u310, u311, u312, u313, u314, u315, u316, u317, u318, u319, u320, u321, u322, u323, u324, u325, u326, u327, u328, u329, u330, u331, u332, u333, u334, u335, u336, u337, u338, u339, u340, u341, u342, u343, u344, u345, u346, u347, u348, u349, u350, u351, u352, u353, u354, u355, u356, u357, u358, u359, u360, u361, u362, u363, u364], []⟩ w := by
  conv at hK => enter [a, w, 1, 2]; whnf
  conv => arg 2; whnf
  have HT := Lib.hid (And.intro hI (And.intro hG (And.intro hL hm)))
  have HB := Lib.hid hb
  have HE := Lib.hid hE
  have HLL := Lib.hid (And.intro hr hLI)
  have HKV := Lib.hid (And.intro hKA (And.intro hVA (And.intro hlen (And.intro h50 (And.intro hks (And.intro hvs (And.intro hrw hlb)))))))
  have HRW := Lib.hid (wf_in hrw)
  have HLB := Lib.hid hlab
  have HLAY := Lib.hid hL2
  have HR := Lib.hid hrow
  have q : decide (row < 0) = false := decide_eq_false HR.out
  have HN0 := Lib.hid hn0
  have q2 : (n == 0) = false := by simpa using hn0
  clear hI hG hL hm hb hE hr hLI hKA hVA hks hvs hrw hlb hlen h50 hlab hL2 hrow hn0
  have e0 := HE.out.e0
  have e1 := HE.out.e1
  have e2 := HE.out.e2
  go_wp2_with fail
  refine (term_two n row lab w (by have := HN0.out; omega) (by have := HR.out; omega) (by have := HRW.out; omega) HLB.out HLAY.out).mono ?_
  rintro e w2 ⟨p, rfl, hrd, hpw, hb2⟩
  obtain ⟨nm, hnm⟩ : ∃ nm, nameT row lab = nm := ⟨_, rfl⟩
  rw [hnm] at hrd ⊢
  clear e0 e1 e2
  go_upto_region 18 with fail
  obtain ⟨hb3, sT⟩ := six_new w2 (.int .i64 16) (.int .i64 0) (.string ⟨#[43]⟩) (.string ⟨#[]⟩) (.slice none 0 0) (.slice (some ⟨p, 0, none⟩) 2 2) 46
  have HE3 := Lib.hid ((HE.out.below hb2).below hb3)
  have HB3 := Lib.hid (below_then hb2 hb3)
  have HRD3 := Lib.hid (hrd.below hb3)
  have HTW := Lib.hid (show w.heap.size ≤ w2.heap.size from hb2.size)
  clear hb2 hb3 hrd
  generalize w2.alloc (.cells #[.int .i64 16, .int .i64 0, .string ⟨#[43]⟩, .string ⟨#[]⟩, .slice none 0 0, .slice (some ⟨p, 0, none⟩) 2 2] 46) = w3 at *
  generalize w2.heap.size = BT at *
  have HsT3 := Lib.hid sT
  clear sT
  have e0 := HE3.out.e0
  go_upto_region 19 with fail
  clear e0
  obtain ⟨hb4, sN⟩ := six_new w3 (.int .i64 1) (.int .i64 n) (.string ⟨#[]⟩) (.string ⟨#[]⟩) (.slice none 0 0) (.slice none 0 0) 46
  have HE4 := Lib.hid (HE3.out.below hb4)
  have HB4 := Lib.hid (below_then HB3.out hb4)
  have HsT4 := Lib.hid (HsT3.out.below hb4)
  have HRD4 := Lib.hid (HRD3.out.below hb4)
  clear hb4 HE3 HB3 HsT3 HRD3
  generalize w3.alloc (.cells #[.int .i64 1, .int .i64 n, .string ⟨#[]⟩, .string ⟨#[]⟩, .slice none 0 0, .slice none 0 0] 46) = w4 at *
  generalize w3.heap.size = BN at *
  have HsN4 := Lib.hid sN
  clear sN
  go_upto_region 20 with fail
  obtain ⟨hb5, sV⟩ := six_new w4 (.int .i64 3) (.int .i64 0) (.string (bstr nm)) (.string ⟨#[]⟩) (.slice none 0 0) (.slice none 0 0) 46
  have HE5 := Lib.hid (HE4.out.below hb5)
  have HB5 := Lib.hid (below_then HB4.out hb5)
  have HsT5 := Lib.hid (HsT4.out.below hb5)
  have HsN5 := Lib.hid (HsN4.out.below hb5)
  have HRD5 := Lib.hid (HRD4.out.below hb5)
  clear hb5 HE4 HB4 HsT4 HsN4 HRD4
  generalize w4.alloc (.cells #[.int .i64 3, .int .i64 0, .string (bstr nm), .string ⟨#[]⟩, .slice none 0 0, .slice none 0 0] 46) = w5 at *
  generalize w4.heap.size = BV at *
  have HsV5 := Lib.hid sV
  have hb6 : Below w5.heap.size w5 (w5.alloc (.cells (two12 n nm).toArray 46)) := (Below.refl _ _).alloc (Nat.le_refl _) _
  have HE6 := Lib.hid (HE5.out.below hb6)
  have HB6 := Lib.hid (below_then HB5.out hb6)
  have HsT6 := Lib.hid (HsT5.out.below hb6)
  have HsN6 := Lib.hid (HsN5.out.below hb6)
  have HsV6 := Lib.hid (HsV5.out.below hb6)
  have HRD6 := Lib.hid (HRD5.out.below hb6)
  have HG := Lib.hid (Rd.lit (size := 6) (n := 2) w5 (two12 n nm).toArray 46 rfl (fr := (0, 0)))
  have HTT := Lib.hid (build_two n nm w5)
  obtain ⟨v0, v1, v2, v3, v4, v5, _⟩ := sV
  obtain ⟨m0, m1, m2, m3, m4, m5, _⟩ := HsN5.out
  clear hb6 HE5 HB5 HsT5 HsN5 HsV5
  generalize w5.alloc (.cells (two12 n nm).toArray 46) = w6 at *
  generalize w5.heap.size = G at *
  go_upto_region 21 with ((with_reducible refine wpList_buildTwo (x0 := .tmp 141) (x1 := .tmp 142) ?g _ _ _ _ ?h _ _ _ ?e0 ?e1 w6 HTT.out ?_); (case g => rfl); (case h => rfl); (case e0 => rfl); (case e1 => rfl))
  clear v0 v1 v2 v3 v4 v5 m0 m1 m2 m3 m4 m5
  obtain ⟨hb7, sW⟩ := six_new w6 (.int .i64 16) (.int .i64 0) (.string ⟨#[43]⟩) (.string ⟨#[]⟩) (.slice none 0 0) (.slice (some ⟨G, 0, none⟩) 2 2) 46
  have HE7 := Lib.hid (HE6.out.below hb7)
  have HB7 := Lib.hid (below_then HB6.out hb7)
  have HsT7 := Lib.hid (HsT6.out.below hb7)
  have HsN7 := Lib.hid (HsN6.out.below hb7)
  have HsV7 := Lib.hid (HsV6.out.below hb7)
  have HRD7 := Lib.hid (HRD6.out.below hb7)
  have HG7 := Lib.hid (HG.out.below hb7)
  have HS6 := Lib.hid (show w.heap.size ≤ w6.heap.size from HB6.out.size)
  have HNT := Lib.hid (show w6.heap.size ≠ BT from Nat.ne_of_gt HsT6.out.lt)
  clear hb7 HB6 HE6 HsT6 HsN6 HsV6 HG HRD6
  generalize w6.alloc (.cells #[.int .i64 16, .int .i64 0, .string ⟨#[43]⟩, .string ⟨#[]⟩, .slice none 0 0, .slice (some ⟨G, 0, none⟩) 2 2] 46) = w7 at *
  have HWW := Lib.hid (show w.heap.size ≤ w6.heap.size from HS6.out)
  generalize w6.heap.size = BW at *
  have HsW7 := Lib.hid sW
  clear sW
  have e1 := HE7.out.e1
  have e0 := HE7.out.e0
  obtain ⟨r0, r1, r2, r3, r4, r5, _⟩ := HsW7.out
  obtain ⟨t0, t1, t2, t3, t4, t5, _⟩ := HsT7.out
  go_wp2_with fail
  clear e1 e0
  obtain ⟨p0, p1, p2, p6, p7, p8⟩ := two_cells HRD7.out
  obtain ⟨g0, g1, g2, g6, g7, g8⟩ := two_cells (show Rd w7 6 (some ⟨G, 0, none⟩) 2 (two12 n nm) from HG7.out)
  refine wp_loop_rounds 3 ?_
  rw [rounds_succ]
  go_wp2_with fail
  go_quiet (fail)
  go_wp2_with fail
  have hd8 := below_drewN (Below.refl w7.heap.size w7) nq
  have HsW8 := Lib.hid (HsW7.out.below hd8)
  have HsT8 := Lib.hid (HsT7.out.below hd8)
  have HRD8 := Lib.hid (HRD7.out.below hd8)
  have HG8 := Lib.hid ((show Rd w7 6 (some ⟨G, 0, none⟩) 2 (two12 n nm) from HG7.out).below hd8)
  have HB8 := Lib.hid (below_then HB7.out hd8)
  clear r0 r1 r2 r3 r4 r5 t0 t1 t2 t3 t4 t5 p0 p1 p2 p6 p7 p8 g0 g1 g2 g6 g7 g8 hd8 HsW7 HsT7 HRD7 HG7 HB7
  generalize w7.drewN nq = w8 at *
  obtain ⟨r0, r1, r2, r3, r4, r5, _⟩ := HsW8.out
  obtain ⟨t0, t1, t2, t3, t4, t5, _⟩ := HsT8.out
  obtain ⟨p0, p1, p2, p6, p7, p8⟩ := two_cells HRD8.out
  obtain ⟨g0, g1, g2, g6, g7, g8⟩ := two_cells HG8.out
  rw [rounds_succ]
  go_wp2_with fail
  go_quiet (fail)
  go_wp2_with fail
  have hd9 := below_drewN (Below.refl w8.heap.size w8) nq
  have HsW9 := Lib.hid (HsW8.out.below hd9)
  have HsT9 := Lib.hid (HsT8.out.below hd9)
  have HB9' := Lib.hid (below_then HB8.out hd9)
  clear r0 r1 r2 r3 r4 r5 t0 t1 t2 t3 t4 t5 p0 p1 p2 p6 p7 p8 g0 g1 g2 g6 g7 g8 hd9 HsW8 HsT8 HRD8 HG8 HB8
  generalize w8.drewN nq = w9 at *
  obtain ⟨r0, r1, r2, r3, r4, r5, _⟩ := HsW9.out
  obtain ⟨t0, t1, t2, t3, t4, t5, _⟩ := HsT9.out
  rw [rounds_succ]
  have hb8 := HB9'.out
  have HB9 := Lib.hid (below_then HB.out hb8)
  have HE9 := Lib.hid (HE.out.below hb8)
  have HL9 := Lib.hid (And.intro (HLL.out.1.below hb8) (fun k hk => (HLL.out.2 k hk).below hb8))
  have HK9 := Lib.hid (And.intro (HKV.out.1.below hb8) (HKV.out.2.1.below hb8))
  clear hb8
  go_upto_region 32 with fail
  exact et_map b n row lab t LA lc L w0 w9 HT.out.1 HT.out.2.1 HB9.out HE9.out HL9.out.1 HT.out.2.2.1 HL9.out.2 HT.out.2.2.2 KA VA kc vc ks vs HK9.out.1 HK9.out.2 HKV.out.2.2.1 HKV.out.2.2.2.1 HKV.out.2.2.2.2.1 HKV.out.2.2.2.2.2.1 HKV.out.2.2.2.2.2.2.1 HKV.out.2.2.2.2.2.2.2 (by assumption)

set_option maxRecDepth 100000 in
set_option maxHeartbeats 1000000 in
theorem et_term {may : Bool} {u0 u1 u2 u5 u7 u9 u10 u14 u15 u17 u19 u20 u21 u22 u23 u24 u25 u26 u27 u28 u29 u30 u31 u32 u33 u34 u35 u36 u37 u38 u39 u40 u41 u42 u43 u44 u45 u46 u47 u48 u49 u50 u51 u52 u53 u54 u55 u56 u57 u58 u59 u60 u61 u62 u63 u64 u65 u66 u67 u68 u69 u70 u71 u72 u73 u74 u75 u76 u77 u78 u79 u80 u81 u82 u83 u84 u85 u86 u87 u88 u89 u90 u91 u92 u93 u94 u95 u96 u97 u98 u99 u100 u101 u102 u103 u104 u105 u106 u107 u108 u109 u110 u111 u112 u113 u114 u115 u116 u117 u118 u119 u120 u121 u122 u123 u124 u125 u126 u127 u128 u129 u130 u131 u132 u133 u134 u135 u136 u137 u138 u139 u140 u141 u142 u143 u144 u145 u146 u147 u148 u149 u150 u151 u152 u153 u154 u155 u156 u157 u158 u159 u160 u161 u162 u163 u164 u165 u166 u167 u168 u169 u170 u171 u172 u173 u174 u175 u176 u177 u178 u179 u180 u181 u182 u183 u184 u185 u186 u187 u188 u189 u190 u191 u192 u193 u194 u195 u196 u197 u198 u199 u200 u201 u202 u203 u204 u205 u206 u207 u208 u209 u210 u211 u212 u213 u214 u215 u216 u217 u218 u219 u220 u221 u222 u223 u224 u225 u226 u227 u228 u229 u230 u231 u232 u233 u234 u235 u236 u237 u238 u239 u240 u241 u242 u243 u244 u245 u246 u247 u248 u249 u250 u251 u252 u253 u254 u255 u256 u257 u258 u259 u260 u261 u262 u263 u264 u265 u266 u267 u268 u269 u270 u271 u272 u273 u274 u275 u276 u277 u278 u279 u280 u281 u282 u283 u284 u285 u286 u287 u288 u289 u290 u291 u292 u293 u294 u295 u296 u297 u298 u299 u300 u301 u302 u303 u304 u305 u306 u307 u308 u309 u310 u311 u312 u313 u314 u315 u316 u317 u318 u319 u320 u321 u322 u323 u324 u325 u326 u327 u328 u329 u330 u331 u332 u333 u334 u335 u336 u337 u338 u339 u340 u341 u342 u343 u344 u345 u346 u347 u348 u349 u350 u351 u352 u353 u354 u355 u356 u357 u358 u359 u360 u361 u362 u363 u364 : Value} (b : Nat) (n row : Int) (lab : Str) (t : Ty) (LA : Option Addr) (lc : Nat) (L : List Lk) (w0 w : World) (hI : t.In w0) (hG : t.Rg) (hb : Below w0.heap.size w0 w) (hE : EB w b t.d n row lab LA L.length lc)
    (hr : Rd w 1 LA L.length (L.map Lk.val)) (hL : L.length ≤ 4000000) (hLI : ∀ k ∈ L, k.In w) (hm : (mayF t 0).isSome = may)
    (KA VA : Option Addr) (kc vc : Nat) (ks : List (Int × Str)) (vs : List Int) (hKA : Rd w 2 KA ks.length (nds ks)) (hVA : Rd w 1 VA vs.length (i64s vs)) (hlen : ks.length ≤ vs.length) (h50 : ks.length ≤ 50)
    (hks : ∀ x ∈ ks, (Lit.int .i64 x.1).wf = true ∧ x.2.length ≤ maxLen) (hvs : ∀ v ∈ vs, (Lit.int .i64 v).wf = true) (hrw : (Lit.int .i64 row).wf = true) (hlb : lab.length ≤ maxLen) (hlab : lab.length ≤ 1000000) (hL2 : Lay w)
    {K : Act → World → Prop} (hK : ∀ a w, Code.wp Tryd.prog (tl 9) (bodyPost Tryd.prog Tryd.f3 (Fin3 w0)) a w → K a w) : Code.wp Tryd.prog (hd 8) (Exit.then K (bodyPost Tryd.prog Tryd.f3 (Fin3 w0))) ⟨#[u0, u1, u2, .slice KA ks.length kc, .slice VA vs.length vc, u5, .pointer (some ⟨b, 0, Option.none⟩), u7, .pointer (some ⟨b + 1, 0, Option.none⟩), u9, u10, .pointer (some ⟨b + 1 + 1, 0, Option.none⟩), .bool false, .bool true, u14, u15, .bool may, u17, .string (bstr (nameT row lab)), u19, u20, u21, u22, u23, u24, u25, u26, u27, u28, u29, u30, u31, u32, u33, u34, u35, u36, u37, u38, u39, u40, u41, u42, u43, u44, u45, u46, u47, u48, u49, u50, u51, u52, u53, u54, u55, u56, u57, u58, u59, u60, u61, u62, u63, u64, u65, u66, u67, u68, u69, u70, u71, u72, u73, u74, u75, u76, u77, u78, u79, u80, u81, u82, u83, u84, u85, u86, u87, u88, u89, u90, u91, u92, u93, u94, u95, u96, u97, u98, u99, u100, u101, u102, u103, u104, u105, u106, u107, u108, u109, u110, u111, u112, u113, u114, u115, u116, u117, u118, u119, u120, u121, u122, u123, u124, u125, u126, u127, u128, u129, u130, u131, u132, u133, u134, u135, u136, u137, u138, u139, u140, u141, u142, u143, u144, u145, u146, u147, u148, u149, u150, u151, u152, u153, u154, u155, u156, u157, u158, u159, u160, u161, u162, u163, u164, u165, u166, u167, u168, u169, u170, u171, u172, u173, u174, u175, u176, u177, u178, u179, u180, u181, u182, u183, u184, u185, u186, u187, u188, u189, u190, u191, u192, u193, u194, u195, u196, u197, u198, u199, u200, u201, u202, u203, u204, u205, u206, u207, u208, u209, u210, u211, u212, u213, u214, u215, u216, u217, u218, u219, u220, u221, u222, u223, u224, u225, u226, u227, u228, u229, u230, u231, u232, u233, u234, u235, u236, u237, u238, u239, u240, u241, u242, u243, u244, u245, u246, u247, u248, u249, u250, u251, u252, u253, u254, u255, u256, u257, u258, u259, u260, u261, u262, u263, u264, u265, u266, u267, u268, u269, u270, u271, u272, u273, u274, u275, u276, u277, u278, u279, u280, u281, u282, u283, u284, u285, u286, u287, u288, u289, u290, u291, u292, u293, u294, u295, u296, u297, u298, u299, u300, u301, u302, u303, u304, u305, u306, u307, u308, u309, u310, u311, u312, u313, u314, u315, u316, u317, u318, u319, u320, u321, u322, u323, u324, u325, u326, u327, u328, u329, u330, u331, u332, u333, u334, u335, u336, u337, u338, u339, u340, u341, u342, u343, u344, u345, u346, u347, u348, u349, u350, u351, u352, u353, u354, u355, u356, u357, u358, u359, u360, u361, u362, u363, u364], []⟩ w := by
  by_cases hrow : row < 0
  · exact et_term_neg b n row lab t LA lc L w0 w hI hG hb hE hr hL hLI hm KA VA kc vc ks vs hKA hVA hlen h50 hks hvs hrw hlb hlab hL2 hrow hK
  · by_cases hn0 : n = 0
    · subst hn0
      exact et_term_zero b row lab t LA lc L w0 w hI hG hb hE hr hL hLI hm KA VA kc vc ks vs hKA hVA hlen h50 hks hvs hrw hlb hlab hL2 hrow hK
    · exact et_term_two b n row lab t LA lc L w0 w hI hG hb hE hr hL hLI hm KA VA kc vc ks vs hKA hVA hlen h50 hks hvs hrw hlb hlab hL2 hrow hn0 hK
end Go.Proofs.YtlgmddnpmmggdaaDoor
