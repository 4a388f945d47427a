/-
  What is known, as a map; an offset's value by the law.
-/
import Derived.Test.YtlgmddnpmmggdaaDoorEtF
import Derived.Test.YtlgmddnpmmggdaaDoorEtV
namespace Go.Proofs.YtlgmddnpmmggdaaDoor
open Go.ChangeShapes Go.WideShapes Go.ChangeAt Go.RowKit Go.Sort Go.Maps
set_option linter.unusedVariables false
set_option linter.unusedSimpArgs false
attribute [local irreducible] Go.wpQuiet

set_option maxRecDepth 100000 in
set_option maxHeartbeats 1000000 in
theorem et_val_neg {may : Bool} {u0 u1 u2 u3 u4 u5 u7 u9 u10 u14 u15 u17 u18 u19 u20 u21 u22 u23 u27 u28 u29 u30 u31 u32 u33 u34 u35 u36 u37 u38 u39 u40 u41 u42 u43 u44 u45 u46 u47 u48 u49 u50 u51 u52 u53 u54 u55 u56 u57 u58 u59 u60 u61 u62 u63 u64 u65 u66 u67 u68 u69 u70 u71 u72 u73 u74 u75 u76 u77 u78 u79 u80 u81 u82 u83 u84 u85 u86 u87 u88 u89 u90 u91 u92 u93 u94 u95 u96 u97 u98 u99 u100 u101 u102 u103 u104 u105 u106 u107 u108 u109 u110 u111 u112 u113 u114 u115 u116 u117 u118 u119 u120 u121 u122 u123 u124 u125 u126 u127 u128 u129 u130 u131 u132 u133 u134 u135 u136 u137 u138 u139 u140 u141 u142 u143 u144 u145 u146 u147 u148 u149 u150 u151 u152 u153 u154 u155 u156 u157 u158 u159 u160 u161 u162 u163 u164 u165 u166 u167 u168 u169 u170 u171 u172 u173 u174 u175 u176 u177 u178 u179 u180 u181 u182 u183 u184 u185 u186 u187 u188 u189 u190 u191 u192 u193 u194 u195 u196 u197 u198 u199 u200 u201 u202 u203 u204 u205 u206 u207 u208 u209 u210 u211 u212 u213 u214 u215 u216 u217 u218 u219 u220 u221 u222 u223 u224 u225 u226 u227 u228 u229 u230 u231 u232 u233 u234 u235 u236 u237 u238 u239 u240 u241 u242 u243 u244 u245 u246 u247 u248 u249 u250 u251 u252 u253 u254 u255 u256 u257 u258 u259 u260 u261 u262 u263 u264 u265 u266 u267 u268 u269 u270 u271 u272 u273 u274 u275 u276 u277 u278 u279 u280 u281 u282 u283 u284 u285 u286 u287 u288 u289 u290 u291 u292 u293 u294 u295 u296 u297 u298 u299 u300 u301 u302 u303 u304 u305 u306 u307 u308 u309 u310 u311 u312 u313 u314 u315 u316 u317 u318 u319 u320 u321 u322 u323 u324 u325 u326 u327 u328 u329 u330 u331 u332 u333 u334 u335 u336 u337 u338 u339 u340 u341 u342 u343 u344 u345 u346 u347 u348 u349 u350 u351 u352 u353 u354 u355 u356 u357 u358 u359 u360 u361 u362 u363 u364 : Value} (b : Nat) (n row : Int) (lab : Str) (t : Ty) (LA : Option Addr) (lc : Nat) (L : List Lk) (w0 w : World) (hI : t.In w0) (hG : t.Rg) (hb : Below w0.heap.size w0 w) (hE : EB w b t.d n row lab LA L.length lc)
    (hr : Rd w 1 LA L.length (L.map Lk.val)) (hL : L.length ≤ 4000000) (hLI : ∀ k ∈ L, k.In w) (hm : (mayF t 0).isSome = may)
    (M k : Nat) (D : DataW Unit) (kl : Lit) (c : Int) (hkey : keyOf Tryd.prog 43 (.agg #[.int .i64 row, .string (bstr lab)]) = some kl) (hown : w.ownsMap (H := Unit) Tryd.prog 43 (plainElem Tryd.prog 3) M k D)
    (hat : D.atKey kl (.lit (.int .i64 0)) = .lit (.int .i64 c)) (hrow : row < 0)
    {K : Act → World → Prop} (hK : ∀ a w, Code.wp Tryd.prog (tl 20) (bodyPost Tryd.prog Tryd.f3 (Fin3 w0)) a w → K a w) : Code.wp Tryd.prog (hd 19) (Exit.then K (bodyPost Tryd.prog Tryd.f3 (Fin3 w0))) ⟨#[u0, u1, u2, u3, u4, u5, .pointer (some ⟨b, 0, Option.none⟩), u7, .pointer (some ⟨b + 1, 0, Option.none⟩), u9, u10, .pointer (some ⟨b + 1 + 1, 0, Option.none⟩), .bool false, .bool true, u14, u15, .bool may, u17, u18, u19, u20, u21, u22, u23, .map (some M), .int .i64 n, .bool true, u27, u28, u29, u30, u31, u32, u33, u34, u35, u36, u37, u38, u39, u40, u41, u42, u43, u44, u45, u46, u47, u48, u49, u50, u51, u52, u53, u54, u55, u56, u57, u58, u59, u60, u61, u62, u63, u64, u65, u66, u67, u68, u69, u70, u71, u72, u73, u74, u75, u76, u77, u78, u79, u80, u81, u82, u83, u84, u85, u86, u87, u88, u89, u90, u91, u92, u93, u94, u95, u96, u97, u98, u99, u100, u101, u102, u103, u104, u105, u106, u107, u108, u109, u110, u111, u112, u113, u114, u115, u116, u117, u118, u119, u120, u121, u122, u123, u124, u125, u126, u127, u128, u129, u130, u131, u132, u133, u134, u135, u136, u137, u138, u139, u140, u141, u142, u143, u144, u145, u146, u147, u148, u149, u150, u151, u152, u153, u154, u155, u156, u157, u158, u159, u160, u161, u162, u163, u164, u165, u166, u167, u168, u169, u170, u171, u172, u173, u174, u175, u176, u177, u178, u179, u180, u181, u182, u183, u184, u185, u186, u187, u188, u189, u190, u191, u192, u193, u194, u195, u196, u197, u198, u199, u200, u201, u202, u203, u204, u205, u206, u207, u208, u209, u210, u211, u212, u213, u214, u215, u216, u217, u218, u219, u220, u221, u222, u223, u224, u225, u226, u227, u228, u229, u230, u231, u232, u233, u234, u235, u236, u237, u238, u239, u240, u241, u242, u243, u244, u245, u246, u247, u248, u249, u250, u251, u252, u253, u254, u255, u256, u257, u258, u259, u260, u261, u262, u263, u264, u265, u266, u267, u268, u269, u270, u271, u272, u273, u274, u275, u276, u277, u278, u279, u280, u281, u282, u283, u284, u285, u286, u287, u288, u289, u290, u291, u292, u293, u294, u295, u296, u297, u298, u299, u300, u301, u302, u303, u304, u305, u306, u307, u308, u309, u310, u311, u312, u313, u314, u315, u316, u317, u318, u319, u320, u321, u322, u323, u324, u325, u326, u327, u328, u329, u330, u331, u332, u333, u334, u335, u336, u337, u338, u339, u340, u341, u342, u343, u344, u345, u346, u347, u348, u349, u350, u351, u352, u353, u354, u355, u356, u357, u358, u359, u360, u361, u362, u363, u364], []⟩ w := by
  conv at hK => enter [a, w, 1, 2]; whnf
  conv => arg 2; whnf
  have HT := Lib.hid (And.intro hI (And.intro hG (And.intro hL hm)))
  have HB := Lib.hid hb
  have HE := Lib.hid hE
  have HLL := Lib.hid (And.intro hr hLI)
  have HO := Lib.hid (And.intro hown (And.intro hat (And.intro hkey trivial)))
  have HR := Lib.hid hrow
  clear hI hG hL hm hb hE hr hLI hown hat hkey hrow
  have e0 := HE.out.e0
  have e1 := HE.out.e1
  have e2 := HE.out.e2
  go_wp2_with (first | (at_lookup; refine wpList_lookup_own_ok_int _ rfl _ _ 48 rfl 43 3 .i64 lawNeed Tryd.underlying48 Tryd.underlying3 (zeroInt _) M k _ rfl HO.out.1 _ _ rfl HO.out.2.2.1 ?_; intro c' hat hwc; rw [HO.out.2.1] at hat; obtain rfl : c = c' := by simpa using hat))
  refine ((value_neg n row lab _ w (by have := HR.out; omega))).mono ?_
  rintro e w2 ⟨rfl, hb2⟩
  have HB2 := Lib.hid (below_then HB.out hb2)
  have HE2 := Lib.hid (HE.out.below hb2)
  have HL2 := Lib.hid (And.intro (HLL.out.1.below hb2) (fun k hk => (HLL.out.2 k hk).below hb2))
  clear hb2 e0 e1 e2 HO HB HE HLL hat hwc
  go_upto_region 46 with fail
  exact et_needs b n row lab t LA lc L w0 w2 HT.out.1 HT.out.2.1 HB2.out HE2.out HL2.out.1 HT.out.2.2.1 HL2.out.2 HT.out.2.2.2 (by assumption)

set_option maxRecDepth 100000 in
set_option maxHeartbeats 1000000 in
theorem et_val_has {may : Bool} {u0 u1 u2 u3 u4 u5 u7 u9 u10 u14 u15 u17 u18 u19 u20 u21 u22 u23 u27 u28 u29 u30 u31 u32 u33 u34 u35 u36 u37 u38 u39 u40 u41 u42 u43 u44 u45 u46 u47 u48 u49 u50 u51 u52 u53 u54 u55 u56 u57 u58 u59 u60 u61 u62 u63 u64 u65 u66 u67 u68 u69 u70 u71 u72 u73 u74 u75 u76 u77 u78 u79 u80 u81 u82 u83 u84 u85 u86 u87 u88 u89 u90 u91 u92 u93 u94 u95 u96 u97 u98 u99 u100 u101 u102 u103 u104 u105 u106 u107 u108 u109 u110 u111 u112 u113 u114 u115 u116 u117 u118 u119 u120 u121 u122 u123 u124 u125 u126 u127 u128 u129 u130 u131 u132 u133 u134 u135 u136 u137 u138 u139 u140 u141 u142 u143 u144 u145 u146 u147 u148 u149 u150 u151 u152 u153 u154 u155 u156 u157 u158 u159 u160 u161 u162 u163 u164 u165 u166 u167 u168 u169 u170 u171 u172 u173 u174 u175 u176 u177 u178 u179 u180 u181 u182 u183 u184 u185 u186 u187 u188 u189 u190 u191 u192 u193 u194 u195 u196 u197 u198 u199 u200 u201 u202 u203 u204 u205 u206 u207 u208 u209 u210 u211 u212 u213 u214 u215 u216 u217 u218 u219 u220 u221 u222 u223 u224 u225 u226 u227 u228 u229 u230 u231 u232 u233 u234 u235 u236 u237 u238 u239 u240 u241 u242 u243 u244 u245 u246 u247 u248 u249 u250 u251 u252 u253 u254 u255 u256 u257 u258 u259 u260 u261 u262 u263 u264 u265 u266 u267 u268 u269 u270 u271 u272 u273 u274 u275 u276 u277 u278 u279 u280 u281 u282 u283 u284 u285 u286 u287 u288 u289 u290 u291 u292 u293 u294 u295 u296 u297 u298 u299 u300 u301 u302 u303 u304 u305 u306 u307 u308 u309 u310 u311 u312 u313 u314 u315 u316 u317 u318 u319 u320 u321 u322 u323 u324 u325 u326 u327 u328 u329 u330 u331 u332 u333 u334 u335 u336 u337 u338 u339 u340 u341 u342 u343 u344 u345 u346 u347 u348 u349 u350 u351 u352 u353 u354 u355 u356 u357 u358 u359 u360 u361 u362 u363 u364 : Value} (b : Nat) (n row : Int) (lab : Str) (t : Ty) (LA : Option Addr) (lc : Nat) (L : List Lk) (w0 w : World) (hI : t.In w0) (hG : t.Rg) (hb : Below w0.heap.size w0 w) (hE : EB w b t.d n row lab LA L.length lc)
    (hr : Rd w 1 LA L.length (L.map Lk.val)) (hL : L.length ≤ 4000000) (hLI : ∀ k ∈ L, k.In w) (hm : (mayF t 0).isSome = may)
    (M k : Nat) (D : DataW Unit) (kl : Lit) (c : Int) (hkey : keyOf Tryd.prog 43 (.agg #[.int .i64 row, .string (bstr lab)]) = some kl) (hown : w.ownsMap (H := Unit) Tryd.prog 43 (plainElem Tryd.prog 3) M k D)
    (hat : D.atKey kl (.lit (.int .i64 0)) = .lit (.int .i64 c)) (hrow : ¬ row < 0) (hhas : Maps.has D kl = true)
    {K : Act → World → Prop} (hK : ∀ a w, Code.wp Tryd.prog (tl 20) (bodyPost Tryd.prog Tryd.f3 (Fin3 w0)) a w → K a w) : Code.wp Tryd.prog (hd 19) (Exit.then K (bodyPost Tryd.prog Tryd.f3 (Fin3 w0))) ⟨#[u0, u1, u2, u3, u4, u5, .pointer (some ⟨b, 0, Option.none⟩), u7, .pointer (some ⟨b + 1, 0, Option.none⟩), u9, u10, .pointer (some ⟨b + 1 + 1, 0, Option.none⟩), .bool false, .bool true, u14, u15, .bool may, u17, u18, u19, u20, u21, u22, u23, .map (some M), .int .i64 n, .bool false, u27, u28, u29, u30, u31, u32, u33, u34, u35, u36, u37, u38, u39, u40, u41, u42, u43, u44, u45, u46, u47, u48, u49, u50, u51, u52, u53, u54, u55, u56, u57, u58, u59, u60, u61, u62, u63, u64, u65, u66, u67, u68, u69, u70, u71, u72, u73, u74, u75, u76, u77, u78, u79, u80, u81, u82, u83, u84, u85, u86, u87, u88, u89, u90, u91, u92, u93, u94, u95, u96, u97, u98, u99, u100, u101, u102, u103, u104, u105, u106, u107, u108, u109, u110, u111, u112, u113, u114, u115, u116, u117, u118, u119, u120, u121, u122, u123, u124, u125, u126, u127, u128, u129, u130, u131, u132, u133, u134, u135, u136, u137, u138, u139, u140, u141, u142, u143, u144, u145, u146, u147, u148, u149, u150, u151, u152, u153, u154, u155, u156, u157, u158, u159, u160, u161, u162, u163, u164, u165, u166, u167, u168, u169, u170, u171, u172, u173, u174, u175, u176, u177, u178, u179, u180, u181, u182, u183, u184, u185, u186, u187, u188, u189, u190, u191, u192, u193, u194, u195, u196, u197, u198, u199, u200, u201, u202, u203, u204, u205, u206, u207, u208, u209, u210, u211, u212, u213, u214, u215, u216, u217, u218, u219, u220, u221, u222, u223, u224, u225, u226, u227, u228, u229, u230, u231, u232, u233, u234, u235, u236, u237, u238, u239, u240, u241, u242, u243, u244, u245, u246, u247, u248, u249, u250, u251, u252, u253, u254, u255, u256, u257, u258, u259, u260, u261, u262, u263, u264, u265, u266, u267, u268, u269, u270, u271, u272, u273, u274, u275, u276, u277, u278, u279, u280, u281, u282, u283, u284, u285, u286, u287, u288, u289, u290, u291, u292, u293, u294, u295, u296, u297, u298, u299, u300, u301, u302, u303, u304, u305, u306, u307, u308, u309, u310, u311, u312, u313, u314, u315, u316, u317, u318, u319, u320, u321, u322, u323, u324, u325, u326, u327, u328, u329, u330, u331, u332, u333, u334, u335, u336, u337, u338, u339, u340, u341, u342, u343, u344, u345, u346, u347, u348, u349, u350, u351, u352, u353, u354, u355, u356, u357, u358, u359, u360, u361, u362, u363, u364], []⟩ w := by
  conv at hK => enter [a, w, 1, 2]; whnf
  conv => arg 2; whnf
  have HT := Lib.hid (And.intro hI (And.intro hG (And.intro hL hm)))
  have HB := Lib.hid hb
  have HE := Lib.hid hE
  have HLL := Lib.hid (And.intro hr hLI)
  have HO := Lib.hid (And.intro hown (And.intro hat (And.intro hkey hhas)))
  have HR := Lib.hid hrow
  clear hI hG hL hm hb hE hr hLI hown hat hkey hhas hrow
  have e0 := HE.out.e0
  have e1 := HE.out.e1
  have e2 := HE.out.e2
  go_wp2_with (first | (at_lookup; refine wpList_lookup_own_ok_int _ rfl _ _ 48 rfl 43 3 .i64 lawNeed Tryd.underlying48 Tryd.underlying3 (zeroInt _) M k _ rfl HO.out.1 _ _ rfl HO.out.2.2.1 ?_; intro c' hat hwc; rw [HO.out.2.1] at hat; rw [HO.out.2.2.2]; obtain rfl : c = c' := by simpa using hat))
  refine ((value_has n row c lab M k D kl w (by have := HR.out; omega) HO.out.2.2.1 HO.out.1 HO.out.2.2.2 HO.out.2.1)).mono ?_
  rintro e w2 ⟨rfl, hb2⟩
  have HB2 := Lib.hid (below_then HB.out hb2)
  have HE2 := Lib.hid (HE.out.below hb2)
  have HL2 := Lib.hid (And.intro (HLL.out.1.below hb2) (fun k hk => (HLL.out.2 k hk).below hb2))
  clear hb2 e0 e1 e2 HO HB HE HLL hat hwc
  go_upto_region 46 with fail
  exact et_needs b n row lab t LA lc L w0 w2 HT.out.1 HT.out.2.1 HB2.out HE2.out HL2.out.1 HT.out.2.2.1 HL2.out.2 HT.out.2.2.2 (by assumption)

set_option maxRecDepth 100000 in
set_option maxHeartbeats 1000000 in
theorem et_val_not {may : Bool} {u0 u1 u2 u3 u4 u5 u7 u9 u10 u14 u15 u17 u18 u19 u20 u21 u22 u23 u27 u28 u29 u30 u31 u32 u33 u34 u35 u36 u37 u38 u39 u40 u41 u42 u43 u44 u45 u46 u47 u48 u49 u50 u51 u52 u53 u54 u55 u56 u57 u58 u59 u60 u61 u62 u63 u64 u65 u66 u67 u68 u69 u70 u71 u72 u73 u74 u75 u76 u77 u78 u79 u80 u81 u82 u83 u84 u85 u86 u87 u88 u89 u90 u91 u92 u93 u94 u95 u96 u97 u98 u99 u100 u101 u102 u103 u104 u105 u106 u107 u108 u109 u110 u111 u112 u113 u114 u115 u116 u117 u118 u119 u120 u121 u122 u123 u124 u125 u126 u127 u128 u129 u130 u131 u132 u133 u134 u135 u136 u137 u138 u139 u140 u141 u142 u143 u144 u145 u146 u147 u148 u149 u150 u151 u152 u153 u154 u155 u156 u157 u158 u159 u160 u161 u162 u163 u164 u165 u166 u167 u168 u169 u170 u171 u172 u173 u174 u175 u176 u177 u178 u179 u180 u181 u182 u183 u184 u185 u186 u187 u188 u189 u190 u191 u192 u193 u194 u195 u196 u197 u198 u199 u200 u201 u202 u203 u204 u205 u206 u207 u208 u209 u210 u211 u212 u213 u214 u215 u216 u217 u218 u219 u220 u221 u222 u223 u224 u225 u226 u227 u228 u229 u230 u231 u232 u233 u234 u235 u236 u237 u238 u239 u240 u241 u242 u243 u244 u245 u246 u247 u248 u249 u250 u251 u252 u253 u254 u255 u256 u257 u258 u259 u260 u261 u262 u263 u264 u265 u266 u267 u268 u269 u270 u271 u272 u273 u274 u275 u276 u277 u278 u279 u280 u281 u282 u283 u284 u285 u286 u287 u288 u289 u290 u291 u292 u293 u294 u295 u296 u297 u298 u299 u300 u301 u302 u303 u304 u305 u306 u307 u308 u309 u310 u311 u312 u313 u314 u315 u316 u317 u318 u319 u320 u321 u322 u323 u324 u325 u326 u327 u328 u329 u330 u331 u332 u333 u334 u335 u336 u337 u338 u339 u340 u341 u342 u343 u344 u345 u346 u347 u348 u349 u350 u351 u352 u353 u354 u355 u356 u357 u358 u359 u360 u361 u362 u363 u364 : Value} (b : Nat) (n row : Int) (lab : Str) (t : Ty) (LA : Option Addr) (lc : Nat) (L : List Lk) (w0 w : World) (hI : t.In w0) (hG : t.Rg) (hb : Below w0.heap.size w0 w) (hE : EB w b t.d n row lab LA L.length lc)
    (hr : Rd w 1 LA L.length (L.map Lk.val)) (hL : L.length ≤ 4000000) (hLI : ∀ k ∈ L, k.In w) (hm : (mayF t 0).isSome = may)
    (M k : Nat) (D : DataW Unit) (kl : Lit) (c : Int) (hkey : keyOf Tryd.prog 43 (.agg #[.int .i64 row, .string (bstr lab)]) = some kl) (hown : w.ownsMap (H := Unit) Tryd.prog 43 (plainElem Tryd.prog 3) M k D)
    (hat : D.atKey kl (.lit (.int .i64 0)) = .lit (.int .i64 c)) (hrow : ¬ row < 0) (hhas : Maps.has D kl = false)
    {K : Act → World → Prop} (hK : ∀ a w, Code.wp Tryd.prog (tl 20) (bodyPost Tryd.prog Tryd.f3 (Fin3 w0)) a w → K a w) : Code.wp Tryd.prog (hd 19) (Exit.then K (bodyPost Tryd.prog Tryd.f3 (Fin3 w0))) ⟨#[u0, u1, u2, u3, u4, u5, .pointer (some ⟨b, 0, Option.none⟩), u7, .pointer (some ⟨b + 1, 0, Option.none⟩), u9, u10, .pointer (some ⟨b + 1 + 1, 0, Option.none⟩), .bool false, .bool true, u14, u15, .bool may, u17, u18, u19, u20, u21, u22, u23, .map (some M), .int .i64 n, .bool false, u27, u28, u29, u30, u31, u32, u33, u34, u35, u36, u37, u38, u39, u40, u41, u42, u43, u44, u45, u46, u47, u48, u49, u50, u51, u52, u53, u54, u55, u56, u57, u58, u59, u60, u61, u62, u63, u64, u65, u66, u67, u68, u69, u70, u71, u72, u73, u74, u75, u76, u77, u78, u79, u80, u81, u82, u83, u84, u85, u86, u87, u88, u89, u90, u91, u92, u93, u94, u95, u96, u97, u98, u99, u100, u101, u102, u103, u104, u105, u106, u107, u108, u109, u110, u111, u112, u113, u114, u115, u116, u117, u118, u119, u120, u121, u122, u123, u124, u125, u126, u127, u128, u129, u130, u131, u132, u133, u134, u135, u136, u137, u138, u139, u140, u141, u142, u143, u144, u145, u146, u147, u148, u149, u150, u151, u152, u153, u154, u155, u156, u157, u158, u159, u160, u161, u162, u163, u164, u165, u166, u167, u168, u169, u170, u171, u172, u173, u174, u175, u176, u177, u178, u179, u180, u181, u182, u183, u184, u185, u186, u187, u188, u189, u190, u191, u192, u193, u194, u195, u196, u197, u198, u199, u200, u201, u202, u203, u204, u205, u206, u207, u208, u209, u210, u211, u212, u213, u214, u215, u216, u217, u218, u219, u220, u221, u222, u223, u224, u225, u226, u227, u228, u229, u230, u231, u232, u233, u234, u235, u236, u237, u238, u239, u240, u241, u242, u243, u244, u245, u246, u247, u248, u249, u250, u251, u252, u253, u254, u255, u256, u257, u258, u259, u260, u261, u262, u263, u264, u265, u266, u267, u268, u269, u270, u271, u272, u273, u274, u275, u276, u277, u278, u279, u280, u281, u282, u283, u284, u285, u286, u287, u288, u289, u290, u291, u292, u293, u294, u295, u296, u297, u298, u299, u300, u301, u302, u303, u304, u305, u306, u307, u308, u309, u310, u311, u312, u313, u314, u315, u316, u317, u318, u319, u320, u321, u322, u323, u324, u325, u326, u327, u328, u329, u330, u331, u332, u333, u334, u335, u336, u337, u338, u339, u340, u341, u342, u343, u344, u345, u346, u347, u348, u349, u350, u351, u352, u353, u354, u355, u356, u357, u358, u359, u360, u361, u362, u363, u364], []⟩ w := by
  conv at hK => enter [a, w, 1, 2]; whnf
  conv => arg 2; whnf
  have HT := Lib.hid (And.intro hI (And.intro hG (And.intro hL hm)))
  have HB := Lib.hid hb
  have HE := Lib.hid hE
  have HLL := Lib.hid (And.intro hr hLI)
  have HO := Lib.hid (And.intro hown (And.intro hat (And.intro hkey hhas)))
  have HR := Lib.hid hrow
  clear hI hG hL hm hb hE hr hLI hown hat hkey hhas hrow
  have e0 := HE.out.e0
  have e1 := HE.out.e1
  have e2 := HE.out.e2
  go_wp2_with (first | (at_lookup; refine wpList_lookup_own_ok_int _ rfl _ _ 48 rfl 43 3 .i64 lawNeed Tryd.underlying48 Tryd.underlying3 (zeroInt _) M k _ rfl HO.out.1 _ _ rfl HO.out.2.2.1 ?_; intro c' hat hwc; rw [HO.out.2.1] at hat; rw [HO.out.2.2.2]; obtain rfl : c = c' := by simpa using hat))
  refine ((value_not n row lab M k D kl w (by have := HR.out; omega) HO.out.2.2.1 HO.out.1 HO.out.2.2.2)).mono ?_
  rintro e w2 ⟨rfl, hb2⟩
  have HB2 := Lib.hid (below_then HB.out hb2)
  have HE2 := Lib.hid (HE.out.below hb2)
  have HL2 := Lib.hid (And.intro (HLL.out.1.below hb2) (fun k hk => (HLL.out.2 k hk).below hb2))
  clear hb2 e0 e1 e2 HO HB HE HLL hat hwc
  go_upto_region 46 with fail
  exact et_needs b n row lab t LA lc L w0 w2 HT.out.1 HT.out.2.1 HB2.out HE2.out HL2.out.1 HT.out.2.2.1 HL2.out.2 HT.out.2.2.2 (by assumption)
end Go.Proofs.YtlgmddnpmmggdaaDoor
