/-
  What is to be told: the law's last part.
-/
import Derived.Test.YtlgmddnpmmggdaaDoorEtL
import Derived.Test.YtlgmddnpmmggdaaDoorNmC
namespace Go.Proofs.YtlgmddnpmmggdaaDoor
open Go.ChangeShapes Go.WideShapes Go.ChangeAt Go.RowKit Go.Sort Go.Maps
set_option linter.unusedVariables false
set_option linter.unusedSimpArgs false
attribute [local irreducible] Go.wpQuiet

theorem frozen_new (w : World) (cs : Array Value) (t : TypeId) (j : Nat) : (w.alloc (.cells cs t)).frozen? ⟨w.heap.size, j, Option.none⟩ = false := by
  have := heap_alloc_new w (.cells cs t)
  unfold World.frozen?
  rw [show (⟨w.heap.size, j, Option.none⟩ : Addr).block = w.heap.size from rfl, this]
  simp
theorem nm_new (w : World) (t : TypeId) : NM (w.alloc (.cells #[.slice Option.none 0 0, .slice Option.none 0 0] t)) w.heap.size [] [] (.slice Option.none 0 0) (.slice Option.none 0 0) :=
  ⟨cell_new w _ _ 0 rfl, cell_new w _ _ 1 rfl, frozen_new w _ _ 0, frozen_new w _ _ 1, World.ownsRow_nil _ _ _ _, World.ownsRow_nil _ _ _ _, fun k h => by cases h⟩
theorem may_nodes {t : Ty} (h : (mayF t 0).isSome = true) : t.nodes ≤ 4000 := by
  rw [may_spec] at h
  simp at h
  exact h.2

set_option maxRecDepth 100000 in
set_option maxHeartbeats 1000000 in
theorem et_needs_yes {u0 u1 u2 u3 u4 u5 u7 u8 u9 u10 u14 u15 u17 u18 u19 u20 u21 u22 u23 u24 u25 u26 u27 u28 u29 u30 u31 u32 u33 u34 u35 u36 u37 u38 u39 u40 u41 u42 u43 u44 u45 u46 u47 u48 u49 u50 u51 u52 u53 u54 u55 u56 u57 u58 u59 u60 u61 u62 u63 u64 u65 u66 u67 u68 u69 u70 u71 u72 u73 u74 u75 u76 u77 u78 u79 u80 u81 u82 u83 u84 u85 u86 u87 u88 u89 u90 u91 u92 u93 u94 u95 u96 u97 u98 u99 u100 u101 u102 u103 u104 u105 u106 u107 u108 u109 u110 u111 u112 u113 u114 u115 u116 u117 u118 u119 u120 u121 u122 u123 u124 u125 u126 u127 u128 u129 u130 u131 u132 u133 u134 u135 u136 u137 u138 u139 u140 u141 u142 u143 u144 u145 u146 u147 u148 u149 u150 u151 u152 u153 u154 u155 u156 u157 u158 u159 u160 u161 u162 u163 u164 u165 u166 u167 u168 u169 u170 u171 u172 u173 u174 u175 u176 u177 u178 u179 u180 u181 u182 u183 u184 u185 u186 u187 u188 u189 u190 u191 u192 u193 u194 u195 u196 u197 u198 u199 u200 u201 u202 u203 u204 u205 u206 u207 u208 u209 u210 u211 u212 u213 u214 u215 u216 u217 u218 u219 u220 u221 u222 u223 u224 u225 u226 u227 u228 u229 u230 u231 u232 u233 u234 u235 u236 u237 u238 u239 u240 u241 u242 u243 u244 u245 u246 u247 u248 u249 u250 u251 u252 u253 u254 u255 u256 u257 u258 u259 u260 u261 u262 u263 u264 u265 u266 u267 u268 u269 u270 u271 u272 u273 u274 u275 u276 u277 u278 u279 u280 u281 u282 u283 u284 u285 u286 u287 u288 u289 u290 u291 u292 u293 u294 u295 u296 u297 u298 u299 u300 u301 u302 u303 u304 u305 u306 u307 u308 u309 u310 u311 u312 u313 u314 u315 u316 u317 u318 u319 u320 u321 u322 u323 u324 u325 u326 u327 u328 u329 u330 u331 u332 u333 u334 u335 u336 u337 u338 u339 u340 u341 u342 u343 u344 u345 u346 u347 u348 u349 u350 u351 u352 u353 u354 u355 u356 u357 u358 u359 u360 u361 u362 u363 u364 : Value} (b : Nat) (n row : Int) (lab : Str) (t : Ty) (LA : Option Addr) (lc : Nat) (L : List Lk) (w0 w : World) (hI : t.In w0) (hG : t.Rg) (hb : Below w0.heap.size w0 w) (hE : EB w b t.d n row lab LA L.length lc)
    (hr : Rd w 1 LA L.length (L.map Lk.val)) (hL : L.length ≤ 4000000) (hLI : ∀ k ∈ L, k.In w) (hm : (mayF t 0).isSome = true)
    {K : Act → World → Prop} (hK : ∀ a w, Code.wp Tryd.prog (tl 24) (bodyPost Tryd.prog Tryd.f3 (Fin3 w0)) a w → K a w) : Code.wp Tryd.prog (hd 23) (Exit.then K (bodyPost Tryd.prog Tryd.f3 (Fin3 w0))) ⟨#[u0, u1, u2, u3, u4, u5, .pointer (some ⟨b, 0, Option.none⟩), u7, u8, u9, u10, .pointer (some ⟨b + 1 + 1, 0, Option.none⟩), .bool false, .bool true, u14, u15, .bool true, u17, u18, u19, u20, u21, u22, u23, u24, u25, u26, u27, u28, u29, u30, u31, u32, u33, u34, u35, u36, u37, u38, u39, u40, u41, u42, u43, u44, u45, u46, u47, u48, u49, u50, u51, u52, u53, u54, u55, u56, u57, u58, u59, u60, u61, u62, u63, u64, u65, u66, u67, u68, u69, u70, u71, u72, u73, u74, u75, u76, u77, u78, u79, u80, u81, u82, u83, u84, u85, u86, u87, u88, u89, u90, u91, u92, u93, u94, u95, u96, u97, u98, u99, u100, u101, u102, u103, u104, u105, u106, u107, u108, u109, u110, u111, u112, u113, u114, u115, u116, u117, u118, u119, u120, u121, u122, u123, u124, u125, u126, u127, u128, u129, u130, u131, u132, u133, u134, u135, u136, u137, u138, u139, u140, u141, u142, u143, u144, u145, u146, u147, u148, u149, u150, u151, u152, u153, u154, u155, u156, u157, u158, u159, u160, u161, u162, u163, u164, u165, u166, u167, u168, u169, u170, u171, u172, u173, u174, u175, u176, u177, u178, u179, u180, u181, u182, u183, u184, u185, u186, u187, u188, u189, u190, u191, u192, u193, u194, u195, u196, u197, u198, u199, u200, u201, u202, u203, u204, u205, u206, u207, u208, u209, u210, u211, u212, u213, u214, u215, u216, u217, u218, u219, u220, u221, u222, u223, u224, u225, u226, u227, u228, u229, u230, u231, u232, u233, u234, u235, u236, u237, u238, u239, u240, u241, u242, u243, u244, u245, u246, u247, u248, u249, u250, u251, u252, u253, u254, u255, u256, u257, u258, u259, u260, u261, u262, u263, u264, u265, u266, u267, u268, u269, u270, u271, u272, u273, u274, u275, u276, u277, u278, u279, u280, u281, u282, u283, u284, u285, u286, u287, u288, u289, u290, u291, u292, u293, u294, u295, u296, u297, u298, u299, u300, u301, u302, u303, u304, u305, u306, u307, u308, u309, u310, u311, u312, u313, u314, u315, u316, u317, u318, u319, u320, u321, u322, u323, u324, u325, u326, u327, u328, u329, u330, u331, u332, u333, u334, u335, u336, u337, u338, u339, u340, u341, u342, u343, u344, u345, u346, u347, u348, u349, u350, u351, u352, u353, u354, u355, u356, u357, u358, u359, u360, u361, u362, u363, u364], []⟩ w := by
  have hmf : ∀ (fn : Fn) (first cap : Array Value) (w : World), (Instr.makeFunc fn first cap).run Tryd.prog w = .ok (.func fn first cap) w := fun _ _ _ _ => rfl
  have hn := may_nodes hm
  have HI := Lib.hid (And.intro hI (And.intro hG (And.intro hn hm)))
  have HB := Lib.hid hb
  have HE := Lib.hid hE
  have HLL := Lib.hid (And.intro hr (And.intro hL hLI))
  clear hI hG hn hm hb hE hr hL hLI
  have hbn : Below w.heap.size w (w.alloc (.cells #[.slice Option.none 0 0, .slice Option.none 0 0] 55)) := (Below.refl _ _).alloc (Nat.le_refl _) _
  have HNM := Lib.hid (nm_new w 55)
  have HB1 := Lib.hid (below_then HB.out hbn)
  have HE1 := Lib.hid (HE.out.below hbn)
  have HL1 := Lib.hid (And.intro (HLL.out.1.below hbn) (And.intro HLL.out.2.1 (fun k hk => (HLL.out.2.2 k hk).below hbn)))
  have HSZ := Lib.hid (show w0.heap.size ≤ w.heap.size from HB.out.size)
  have HW1 := Lib.hid hbn
  clear hbn
  obtain ⟨a0, a1, a2, a3, a4⟩ := HE1.out.ty
  conv at hK => enter [a, w, 1, 2]; whnf
  conv => arg 2; whnf
  go_wp2_with fail
  generalize w.alloc (.cells #[.slice Option.none 0 0, .slice Option.none 0 0] 55) = w1 at *
  obtain ⟨N, hN⟩ : ∃ N, w.heap.size = N := ⟨_, rfl⟩
  rw [hN] at HNM HSZ ⊢
  have HNW := Lib.hid hN
  clear a0 a1 a2 a3 a4 hN
  refine (meet_any w0 N HSZ.out t HI.out.1 [] [] _ _ w1 HB1.out HNM.out (by have := HI.out.2.2.1; simp; omega) (by have := HI.out.2.2.1; simp; omega)).mono ?_
  rintro e w2 ⟨rfl, vT, vR, hnm, hwn⟩
  have hb2 : Below w.heap.size w w2 := HW1.out.trans (HNW.out ▸ hwn.b)
  have HE2 := Lib.hid (HE.out.below hb2)
  have HN2 := Lib.hid hnm
  have HB2 := Lib.hid (below_then HB.out hb2)
  have HW2 := Lib.hid hb2
  clear hb2 hnm hwn HNM HE1 HL1 HW1 HB1 HNW HSZ
  obtain ⟨a0, a1, a2, a3, a4⟩ := HE2.out.ty
  go_wp2_with fail
  refine (needs_yes w0 t HI.out.1 HI.out.2.1 (by have := HI.out.2.2.1; omega) (b + 1 + 1) LA lc L w2 HB2.out HI.out.2.2.2 HE2.out.lk (HLL.out.1.below HW2.out) HLL.out.2.1 (fun k hk => (HLL.out.2.2 k hk).below HW2.out)).mono ?_
  rintro e w3 ⟨v, rfl, hown, hb3⟩
  obtain ⟨RA, rc, hvR, _⟩ := own_cap HN2.out.oR
  obtain ⟨NA, nc, rfl, _⟩ := own_cap hown
  have HB3 := Lib.hid (below_then HB2.out hb3)
  have HL3 := Lib.hid (And.intro (cell_below hb3 HE2.out.lk) (And.intro ((HLL.out.1.below HW2.out).below hb3) (fun k hk => ((HLL.out.2.2 k hk).below HW2.out).below hb3)))
  have HN3 := Lib.hid (HN2.out.below hb3)
  have HO := Lib.hid (Rd.of_own hown)
  subst hvR
  have hlen := (meetT_len t [] []).2
  have HR5 := Lib.hid (show (meetT t [] []).2.length ≤ 5000 by have := HI.out.2.2.1; simp at hlen; omega)
  clear a0 a1 a2 a3 a4 hb3 hown hlen
  go_upto_region 51 with fail
  exact et_loops (b + 1 + 1) N LA RA NA lc rc nc L (meetT t [] []).2 w0 w3 HB3.out HL3.out.1 HL3.out.2.1 HLL.out.2.1 HL3.out.2.2 HN3.out.c1 (Rd.of_own HN3.out.oR) HR5.out HO.out (by assumption)

set_option maxRecDepth 100000 in
set_option maxHeartbeats 1000000 in
theorem et_needs_no {u0 u1 u2 u3 u4 u5 u7 u8 u9 u10 u14 u15 u17 u18 u19 u20 u21 u22 u23 u24 u25 u26 u27 u28 u29 u30 u31 u32 u33 u34 u35 u36 u37 u38 u39 u40 u41 u42 u43 u44 u45 u46 u47 u48 u49 u50 u51 u52 u53 u54 u55 u56 u57 u58 u59 u60 u61 u62 u63 u64 u65 u66 u67 u68 u69 u70 u71 u72 u73 u74 u75 u76 u77 u78 u79 u80 u81 u82 u83 u84 u85 u86 u87 u88 u89 u90 u91 u92 u93 u94 u95 u96 u97 u98 u99 u100 u101 u102 u103 u104 u105 u106 u107 u108 u109 u110 u111 u112 u113 u114 u115 u116 u117 u118 u119 u120 u121 u122 u123 u124 u125 u126 u127 u128 u129 u130 u131 u132 u133 u134 u135 u136 u137 u138 u139 u140 u141 u142 u143 u144 u145 u146 u147 u148 u149 u150 u151 u152 u153 u154 u155 u156 u157 u158 u159 u160 u161 u162 u163 u164 u165 u166 u167 u168 u169 u170 u171 u172 u173 u174 u175 u176 u177 u178 u179 u180 u181 u182 u183 u184 u185 u186 u187 u188 u189 u190 u191 u192 u193 u194 u195 u196 u197 u198 u199 u200 u201 u202 u203 u204 u205 u206 u207 u208 u209 u210 u211 u212 u213 u214 u215 u216 u217 u218 u219 u220 u221 u222 u223 u224 u225 u226 u227 u228 u229 u230 u231 u232 u233 u234 u235 u236 u237 u238 u239 u240 u241 u242 u243 u244 u245 u246 u247 u248 u249 u250 u251 u252 u253 u254 u255 u256 u257 u258 u259 u260 u261 u262 u263 u264 u265 u266 u267 u268 u269 u270 u271 u272 u273 u274 u275 u276 u277 u278 u279 u280 u281 u282 u283 u284 u285 u286 u287 u288 u289 u290 u291 u292 u293 u294 u295 u296 u297 u298 u299 u300 u301 u302 u303 u304 u305 u306 u307 u308 u309 u310 u311 u312 u313 u314 u315 u316 u317 u318 u319 u320 u321 u322 u323 u324 u325 u326 u327 u328 u329 u330 u331 u332 u333 u334 u335 u336 u337 u338 u339 u340 u341 u342 u343 u344 u345 u346 u347 u348 u349 u350 u351 u352 u353 u354 u355 u356 u357 u358 u359 u360 u361 u362 u363 u364 : Value} (b : Nat) (n row : Int) (lab : Str) (t : Ty) (LA : Option Addr) (lc : Nat) (L : List Lk) (w0 w : World) (hI : t.In w0) (hG : t.Rg) (hb : Below w0.heap.size w0 w) (hE : EB w b t.d n row lab LA L.length lc)
    (hr : Rd w 1 LA L.length (L.map Lk.val)) (hL : L.length ≤ 4000000) (hLI : ∀ k ∈ L, k.In w) (hm : (mayF t 0).isSome = false)
    {K : Act → World → Prop} (hK : ∀ a w, Code.wp Tryd.prog (tl 24) (bodyPost Tryd.prog Tryd.f3 (Fin3 w0)) a w → K a w) : Code.wp Tryd.prog (hd 23) (Exit.then K (bodyPost Tryd.prog Tryd.f3 (Fin3 w0))) ⟨#[u0, u1, u2, u3, u4, u5, .pointer (some ⟨b, 0, Option.none⟩), u7, u8, u9, u10, .pointer (some ⟨b + 1 + 1, 0, Option.none⟩), .bool false, .bool true, u14, u15, .bool false, u17, u18, u19, u20, u21, u22, u23, u24, u25, u26, u27, u28, u29, u30, u31, u32, u33, u34, u35, u36, u37, u38, u39, u40, u41, u42, u43, u44, u45, u46, u47, u48, u49, u50, u51, u52, u53, u54, u55, u56, u57, u58, u59, u60, u61, u62, u63, u64, u65, u66, u67, u68, u69, u70, u71, u72, u73, u74, u75, u76, u77, u78, u79, u80, u81, u82, u83, u84, u85, u86, u87, u88, u89, u90, u91, u92, u93, u94, u95, u96, u97, u98, u99, u100, u101, u102, u103, u104, u105, u106, u107, u108, u109, u110, u111, u112, u113, u114, u115, u116, u117, u118, u119, u120, u121, u122, u123, u124, u125, u126, u127, u128, u129, u130, u131, u132, u133, u134, u135, u136, u137, u138, u139, u140, u141, u142, u143, u144, u145, u146, u147, u148, u149, u150, u151, u152, u153, u154, u155, u156, u157, u158, u159, u160, u161, u162, u163, u164, u165, u166, u167, u168, u169, u170, u171, u172, u173, u174, u175, u176, u177, u178, u179, u180, u181, u182, u183, u184, u185, u186, u187, u188, u189, u190, u191, u192, u193, u194, u195, u196, u197, u198, u199, u200, u201, u202, u203, u204, u205, u206, u207, u208, u209, u210, u211, u212, u213, u214, u215, u216, u217, u218, u219, u220, u221, u222, u223, u224, u225, u226, u227, u228, u229, u230, u231, u232, u233, u234, u235, u236, u237, u238, u239, u240, u241, u242, u243, u244, u245, u246, u247, u248, u249, u250, u251, u252, u253, u254, u255, u256, u257, u258, u259, u260, u261, u262, u263, u264, u265, u266, u267, u268, u269, u270, u271, u272, u273, u274, u275, u276, u277, u278, u279, u280, u281, u282, u283, u284, u285, u286, u287, u288, u289, u290, u291, u292, u293, u294, u295, u296, u297, u298, u299, u300, u301, u302, u303, u304, u305, u306, u307, u308, u309, u310, u311, u312, u313, u314, u315, u316, u317, u318, u319, u320, u321, u322, u323, u324, u325, u326, u327, u328, u329, u330, u331, u332, u333, u334, u335, u336, u337, u338, u339, u340, u341, u342, u343, u344, u345, u346, u347, u348, u349, u350, u351, u352, u353, u354, u355, u356, u357, u358, u359, u360, u361, u362, u363, u364], []⟩ w := by
  have hmf : ∀ (fn : Fn) (first cap : Array Value) (w : World), (Instr.makeFunc fn first cap).run Tryd.prog w = .ok (.func fn first cap) w := fun _ _ _ _ => rfl
  have HI := Lib.hid (And.intro hI hm)
  have HB := Lib.hid hb
  have HE := Lib.hid hE
  have HLL := Lib.hid (And.intro hr (And.intro hL hLI))
  clear hI hG hm hb hE hr hL hLI
  have hbn : Below w.heap.size w (w.alloc (.cells #[.slice Option.none 0 0, .slice Option.none 0 0] 55)) := (Below.refl _ _).alloc (Nat.le_refl _) _
  have HNM := Lib.hid (nm_new w 55)
  have HB1 := Lib.hid (below_then HB.out hbn)
  have HE1 := Lib.hid (HE.out.below hbn)
  have HW1 := Lib.hid hbn
  clear hbn
  obtain ⟨a0, a1, a2, a3, a4⟩ := HE1.out.ty
  conv at hK => enter [a, w, 1, 2]; whnf
  conv => arg 2; whnf
  go_wp2_with fail
  generalize w.alloc (.cells #[.slice Option.none 0 0, .slice Option.none 0 0] 55) = w1 at *
  obtain ⟨N, hN⟩ : ∃ N, w.heap.size = N := ⟨_, rfl⟩
  rw [hN] at HNM ⊢
  clear a0 a1 a2 a3 a4 hN
  refine (needs_no w0 t HI.out.1 (b + 1 + 1) w1 HB1.out HI.out.2).mono ?_
  rintro e w3 ⟨rfl, hb3⟩
  have HB3 := Lib.hid (below_then HB1.out hb3)
  have HL3 := Lib.hid (And.intro (cell_below hb3 HE1.out.lk) (And.intro ((HLL.out.1.below HW1.out).below hb3) (fun k hk => ((HLL.out.2.2 k hk).below HW1.out).below hb3)))
  have HN3 := Lib.hid (HNM.out.below hb3)
  clear hb3
  go_upto_region 51 with fail
  exact et_loops (b + 1 + 1) N LA Option.none Option.none lc 0 0 L [] w0 w3 HB3.out HL3.out.1 HL3.out.2.1 HLL.out.2.1 HL3.out.2.2 HN3.out.c1 (Rd.nil _ _ _) (by simp) (Rd.nil _ _ _) (by assumption)

set_option maxRecDepth 100000 in
set_option maxHeartbeats 1000000 in
theorem et_needs {may : Bool} {u0 u1 u2 u3 u4 u5 u7 u8 u9 u10 u14 u15 u17 u18 u19 u20 u21 u22 u23 u24 u25 u26 u27 u28 u29 u30 u31 u32 u33 u34 u35 u36 u37 u38 u39 u40 u41 u42 u43 u44 u45 u46 u47 u48 u49 u50 u51 u52 u53 u54 u55 u56 u57 u58 u59 u60 u61 u62 u63 u64 u65 u66 u67 u68 u69 u70 u71 u72 u73 u74 u75 u76 u77 u78 u79 u80 u81 u82 u83 u84 u85 u86 u87 u88 u89 u90 u91 u92 u93 u94 u95 u96 u97 u98 u99 u100 u101 u102 u103 u104 u105 u106 u107 u108 u109 u110 u111 u112 u113 u114 u115 u116 u117 u118 u119 u120 u121 u122 u123 u124 u125 u126 u127 u128 u129 u130 u131 u132 u133 u134 u135 u136 u137 u138 u139 u140 u141 u142 u143 u144 u145 u146 u147 u148 u149 u150 u151 u152 u153 u154 u155 u156 u157 u158 u159 u160 u161 u162 u163 u164 u165 u166 u167 u168 u169 u170 u171 u172 u173 u174 u175 u176 u177 u178 u179 u180 u181 u182 u183 u184 u185 u186 u187 u188 u189 u190 u191 u192 u193 u194 u195 u196 u197 u198 u199 u200 u201 u202 u203 u204 u205 u206 u207 u208 u209 u210 u211 u212 u213 u214 u215 u216 u217 u218 u219 u220 u221 u222 u223 u224 u225 u226 u227 u228 u229 u230 u231 u232 u233 u234 u235 u236 u237 u238 u239 u240 u241 u242 u243 u244 u245 u246 u247 u248 u249 u250 u251 u252 u253 u254 u255 u256 u257 u258 u259 u260 u261 u262 u263 u264 u265 u266 u267 u268 u269 u270 u271 u272 u273 u274 u275 u276 u277 u278 u279 u280 u281 u282 u283 u284 u285 u286 u287 u288 u289 u290 u291 u292 u293 u294 u295 u296 u297 u298 u299 u300 u301 u302 u303 u304 u305 u306 u307 u308 u309 u310 u311 u312 u313 u314 u315 u316 u317 u318 u319 u320 u321 u322 u323 u324 u325 u326 u327 u328 u329 u330 u331 u332 u333 u334 u335 u336 u337 u338 u339 u340 u341 u342 u343 u344 u345 u346 u347 u348 u349 u350 u351 u352 u353 u354 u355 u356 u357 u358 u359 u360 u361 u362 u363 u364 : Value} (b : Nat) (n row : Int) (lab : Str) (t : Ty) (LA : Option Addr) (lc : Nat) (L : List Lk) (w0 w : World) (hI : t.In w0) (hG : t.Rg) (hb : Below w0.heap.size w0 w) (hE : EB w b t.d n row lab LA L.length lc)
    (hr : Rd w 1 LA L.length (L.map Lk.val)) (hL : L.length ≤ 4000000) (hLI : ∀ k ∈ L, k.In w) (hm : (mayF t 0).isSome = may)
    {K : Act → World → Prop} (hK : ∀ a w, Code.wp Tryd.prog (tl 24) (bodyPost Tryd.prog Tryd.f3 (Fin3 w0)) a w → K a w) : Code.wp Tryd.prog (hd 23) (Exit.then K (bodyPost Tryd.prog Tryd.f3 (Fin3 w0))) ⟨#[u0, u1, u2, u3, u4, u5, .pointer (some ⟨b, 0, Option.none⟩), u7, u8, u9, u10, .pointer (some ⟨b + 1 + 1, 0, Option.none⟩), .bool false, .bool true, u14, u15, .bool may, u17, u18, u19, u20, u21, u22, u23, u24, u25, u26, u27, u28, u29, u30, u31, u32, u33, u34, u35, u36, u37, u38, u39, u40, u41, u42, u43, u44, u45, u46, u47, u48, u49, u50, u51, u52, u53, u54, u55, u56, u57, u58, u59, u60, u61, u62, u63, u64, u65, u66, u67, u68, u69, u70, u71, u72, u73, u74, u75, u76, u77, u78, u79, u80, u81, u82, u83, u84, u85, u86, u87, u88, u89, u90, u91, u92, u93, u94, u95, u96, u97, u98, u99, u100, u101, u102, u103, u104, u105, u106, u107, u108, u109, u110, u111, u112, u113, u114, u115, u116, u117, u118, u119, u120, u121, u122, u123, u124, u125, u126, u127, u128, u129, u130, u131, u132, u133, u134, u135, u136, u137, u138, u139, u140, u141, u142, u143, u144, u145, u146, u147, u148, u149, u150, u151, u152, u153, u154, u155, u156, u157, u158, u159, u160, u161, u162, u163, u164, u165, u166, u167, u168, u169, u170, u171, u172, u173, u174, u175, u176, u177, u178, u179, u180, u181, u182, u183, u184, u185, u186, u187, u188, u189, u190, u191, u192, u193, u194, u195, u196, u197, u198, u199, u200, u201, u202, u203, u204, u205, u206, u207, u208, u209, u210, u211, u212, u213, u214, u215, u216, u217, u218, u219, u220, u221, u222, u223, u224, u225, u226, u227, u228, u229, u230, u231, u232, u233, u234, u235, u236, u237, u238, u239, u240, u241, u242, u243, u244, u245, u246, u247, u248, u249, u250, u251, u252, u253, u254, u255, u256, u257, u258, u259, u260, u261, u262, u263, u264, u265, u266, u267, u268, u269, u270, u271, u272, u273, u274, u275, u276, u277, u278, u279, u280, u281, u282, u283, u284, u285, u286, u287, u288, u289, u290, u291, u292, u293, u294, u295, u296, u297, u298, u299, u300, u301, u302, u303, u304, u305, u306, u307, u308, u309, u310, u311, u312, u313, u314, u315, u316, u317, u318, u319, u320, u321, u322, u323, u324, u325, u326, u327, u328, u329, u330, u331, u332, u333, u334, u335, u336, u337, u338, u339, u340, u341, u342, u343, u344, u345, u346, u347, u348, u349, u350, u351, u352, u353, u354, u355, u356, u357, u358, u359, u360, u361, u362, u363, u364], []⟩ w := by
  cases may
  · exact et_needs_no b n row lab t LA lc L w0 w hI hG hb hE hr hL hLI hm hK
  · exact et_needs_yes b n row lab t LA lc L w0 w hI hG hb hE hr hL hLI hm hK
end Go.Proofs.YtlgmddnpmmggdaaDoor
