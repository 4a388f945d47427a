/-
  What is known, as a map: filled by the law.
-/
import Derived.Test.YtlgmddnpmmggdaaDoorEtE
namespace Go.Proofs.YtlgmddnpmmggdaaDoor
open Go.ChangeShapes Go.WideShapes Go.ChangeAt Go.RowKit Go.Sort Go.Maps
set_option linter.unusedVariables false
set_option linter.unusedSimpArgs false
attribute [local irreducible] Go.wpQuiet

set_option maxRecDepth 100000 in
theorem et_val {may met : Bool} {u0 u1 u2 u3 u4 u5 u7 u9 u10 u14 u15 u17 u18 u19 u20 u21 u22 u23 u27 u28 u29 u30 u31 u32 u33 u34 u35 u36 u37 u38 u39 u40 u41 u42 u43 u44 u45 u46 u47 u48 u49 u50 u51 u52 u53 u54 u55 u56 u57 u58 u59 u60 u61 u62 u63 u64 u65 u66 u67 u68 u69 u70 u71 u72 u73 u74 u75 u76 u77 u78 u79 u80 u81 u82 u83 u84 u85 u86 u87 u88 u89 u90 u91 u92 u93 u94 u95 u96 u97 u98 u99 u100 u101 u102 u103 u104 u105 u106 u107 u108 u109 u110 u111 u112 u113 u114 u115 u116 u117 u118 u119 u120 u121 u122 u123 u124 u125 u126 u127 u128 u129 u130 u131 u132 u133 u134 u135 u136 u137 u138 u139 u140 u141 u142 u143 u144 u145 u146 u147 u148 u149 u150 u151 u152 u153 u154 u155 u156 u157 u158 u159 u160 u161 u162 u163 u164 u165 u166 u167 u168 u169 u170 u171 u172 u173 u174 u175 u176 u177 u178 u179 u180 u181 u182 u183 u184 u185 u186 u187 u188 u189 u190 u191 u192 u193 u194 u195 u196 u197 u198 u199 u200 u201 u202 u203 u204 u205 u206 u207 u208 u209 u210 u211 u212 u213 u214 u215 u216 u217 u218 u219 u220 u221 u222 u223 u224 u225 u226 u227 u228 u229 u230 u231 u232 u233 u234 u235 u236 u237 u238 u239 u240 u241 u242 u243 u244 u245 u246 u247 u248 u249 u250 u251 u252 u253 u254 u255 u256 u257 u258 u259 u260 u261 u262 u263 u264 u265 u266 u267 u268 u269 u270 u271 u272 u273 u274 u275 u276 u277 u278 u279 u280 u281 u282 u283 u284 u285 u286 u287 u288 u289 u290 u291 u292 u293 u294 u295 u296 u297 u298 u299 u300 u301 u302 u303 u304 u305 u306 u307 u308 u309 u310 u311 u312 u313 u314 u315 u316 u317 u318 u319 u320 u321 u322 u323 u324 u325 u326 u327 u328 u329 u330 u331 u332 u333 u334 u335 u336 u337 u338 u339 u340 u341 u342 u343 u344 u345 u346 u347 u348 u349 u350 u351 u352 u353 u354 u355 u356 u357 u358 u359 u360 u361 u362 u363 u364 : Value} (b : Nat) (n row : Int) (lab : Str) (t : Ty) (LA : Option Addr) (lc : Nat) (L : List Lk) (w0 w : World) (hI : t.In w0) (hG : t.Rg) (hb : Below w0.heap.size w0 w) (hE : EB w b t.d n row lab LA L.length lc)
    (hr : Rd w 1 LA L.length (L.map Lk.val)) (hL : L.length ≤ 4000000) (hLI : ∀ k ∈ L, k.In w) (hm : (mayF t 0).isSome = may)
    (M k : Nat) (D : DataW Unit) (kl : Lit) (c : Int) (hkey : keyOf Tryd.prog 43 (.agg #[.int .i64 row, .string (bstr lab)]) = some kl) (hown : w.ownsMap (H := Unit) Tryd.prog 43 (plainElem Tryd.prog 3) M k D)
    (hat : D.atKey kl (.lit (.int .i64 0)) = .lit (.int .i64 c)) (hmet : decide (row < 0) = met)
    {K : Act → World → Prop} (hK : ∀ a w, Code.wp Tryd.prog (tl 20) (bodyPost Tryd.prog Tryd.f3 (Fin3 w0)) a w → K a w) : Code.wp Tryd.prog (hd 19) (Exit.then K (bodyPost Tryd.prog Tryd.f3 (Fin3 w0))) ⟨#[u0, u1, u2, u3, u4, u5, .pointer (some ⟨b, 0, Option.none⟩), u7, .pointer (some ⟨b + 1, 0, Option.none⟩), u9, u10, .pointer (some ⟨b + 1 + 1, 0, Option.none⟩), .bool false, .bool true, u14, u15, .bool may, u17, u18, u19, u20, u21, u22, u23, .map (some M), .int .i64 n, .bool met, u27, u28, u29, u30, u31, u32, u33, u34, u35, u36, u37, u38, u39, u40, u41, u42, u43, u44, u45, u46, u47, u48, u49, u50, u51, u52, u53, u54, u55, u56, u57, u58, u59, u60, u61, u62, u63, u64, u65, u66, u67, u68, u69, u70, u71, u72, u73, u74, u75, u76, u77, u78, u79, u80, u81, u82, u83, u84, u85, u86, u87, u88, u89, u90, u91, u92, u93, u94, u95, u96, u97, u98, u99, u100, u101, u102, u103, u104, u105, u106, u107, u108, u109, u110, u111, u112, u113, u114, u115, u116, u117, u118, u119, u120, u121, u122, u123, u124, u125, u126, u127, u128, u129, u130, u131, u132, u133, u134, u135, u136, u137, u138, u139, u140, u141, u142, u143, u144, u145, u146, u147, u148, u149, u150, u151, u152, u153, u154, u155, u156, u157, u158, u159, u160, u161, u162, u163, u164, u165, u166, u167, u168, u169, u170, u171, u172, u173, u174, u175, u176, u177, u178, u179, u180, u181, u182, u183, u184, u185, u186, u187, u188, u189, u190, u191, u192, u193, u194, u195, u196, u197, u198, u199, u200, u201, u202, u203, u204, u205, u206, u207, u208, u209, u210, u211, u212, u213, u214, u215, u216, u217, u218, u219, u220, u221, u222, u223, u224, u225, u226, u227, u228, u229, u230, u231, u232, u233, u234, u235, u236, u237, u238, u239, u240, u241, u242, u243, u244, u245, u246, u247, u248, u249, u250, u251, u252, u253, u254, u255, u256, u257, u258, u259, u260, u261, u262, u263, u264, u265, u266, u267, u268, u269, u270, u271, u272, u273, u274, u275, u276, u277, u278, u279, u280, u281, u282, u283, u284, u285, u286, u287, u288, u289, u290, u291, u292, u293, u294, u295, u296, u297, u298, u299, u300, u301, u302, u303, u304, u305, u306, u307, u308, u309, u310, u311, u312, u313, u314, u315, u316, u317, u318, u319, u320, u321, u322, u323, u324, u325, u326, u327, u328, u329, u330, u331, u332, u333, u334, u335, u336, u337, u338, u339, u340, u341, u342, u343, u344, u345, u346, u347, u348, u349, u350, u351, u352, u353, u354, u355, u356, u357, u358, u359, u360, u361, u362, u363, u364], []⟩ w := by
  by_cases hrow : row < 0
  · rw [decide_eq_true hrow] at hmet
    subst hmet
    exact et_val_neg b n row lab t LA lc L w0 w hI hG hb hE hr hL hLI hm M k D kl c hkey hown hat hrow hK
  · rw [decide_eq_false hrow] at hmet
    subst hmet
    cases hh : Maps.has D kl
    · exact et_val_not b n row lab t LA lc L w0 w hI hG hb hE hr hL hLI hm M k D kl c hkey hown hat hrow hh hK
    · exact et_val_has b n row lab t LA lc L w0 w hI hG hb hE hr hL hLI hm M k D kl c hkey hown hat hrow hh hK

set_option maxRecDepth 100000 in
set_option maxHeartbeats 1000000 in
theorem et_map {may : Bool} {u0 u1 u2 u5 u7 u9 u10 u14 u15 u17 u18 u19 u20 u21 u22 u23 u24 u25 u26 u27 u28 u29 u30 u31 u32 u33 u34 u35 u36 u37 u38 u39 u40 u41 u42 u43 u44 u45 u46 u47 u48 u49 u50 u51 u52 u53 u54 u55 u56 u57 u58 u59 u60 u61 u62 u63 u64 u65 u66 u67 u68 u69 u70 u71 u72 u73 u74 u75 u76 u77 u78 u79 u80 u81 u82 u83 u84 u85 u86 u87 u88 u89 u90 u91 u92 u93 u94 u95 u96 u97 u98 u99 u100 u101 u102 u103 u104 u105 u106 u107 u108 u109 u110 u111 u112 u113 u114 u115 u116 u117 u118 u119 u120 u121 u122 u123 u124 u125 u126 u127 u128 u129 u130 u131 u132 u133 u134 u135 u136 u137 u138 u139 u140 u141 u142 u143 u144 u145 u146 u147 u148 u149 u150 u151 u152 u153 u154 u155 u156 u157 u158 u159 u160 u161 u162 u163 u164 u165 u166 u167 u168 u169 u170 u171 u172 u173 u174 u175 u176 u177 u178 u179 u180 u181 u182 u183 u184 u185 u186 u187 u188 u189 u190 u191 u192 u193 u194 u195 u196 u197 u198 u199 u200 u201 u202 u203 u204 u205 u206 u207 u208 u209 u210 u211 u212 u213 u214 u215 u216 u217 u218 u219 u220 u221 u222 u223 u224 u225 u226 u227 u228 u229 u230 u231 u232 u233 u234 u235 u236 u237 u238 u239 u240 u241 u242 u243 u244 u245 u246 u247 u248 u249 u250 u251 u252 u253 u254 u255 u256 u257 u258 u259 u260 u261 u262 u263 u264 u265 u266 u267 u268 u269 u270 u271 u272 u273 u274 u275 u276 u277 u278 u279 u280 u281 u282 u283 u284 u285 u286 u287 u288 u289 u290 u291 u292 u293 u294 u295 u296 u297 u298 u299 u300 u301 u302 u303 u304 u305 u306 u307 u308 u309 u310 u311 u312 u313 u314 u315 u316 u317 u318 u319 u320 u321 u322 u323 u324 u325 u326 u327 u328 u329 u330 u331 u332 u333 u334 u335 u336 u337 u338 u339 u340 u341 u342 u343 u344 u345 u346 u347 u348 u349 u350 u351 u352 u353 u354 u355 u356 u357 u358 u359 u360 u361 u362 u363 u364 : Value} (b : Nat) (n row : Int) (lab : Str) (t : Ty) (LA : Option Addr) (lc : Nat) (L : List Lk) (w0 w : World) (hI : t.In w0) (hG : t.Rg) (hb : Below w0.heap.size w0 w) (hE : EB w b t.d n row lab LA L.length lc)
    (hr : Rd w 1 LA L.length (L.map Lk.val)) (hL : L.length ≤ 4000000) (hLI : ∀ k ∈ L, k.In w) (hm : (mayF t 0).isSome = may)
    (KA VA : Option Addr) (kc vc : Nat) (ks : List (Int × Str)) (vs : List Int) (hKA : Rd w 2 KA ks.length (nds ks)) (hVA : Rd w 1 VA vs.length (i64s vs)) (hlen : ks.length ≤ vs.length) (h50 : ks.length ≤ 50)
    (hks : ∀ x ∈ ks, (Lit.int .i64 x.1).wf = true ∧ x.2.length ≤ maxLen) (hvs : ∀ v ∈ vs, (Lit.int .i64 v).wf = true) (hrw : (Lit.int .i64 row).wf = true) (hlb : lab.length ≤ maxLen)
    {K : Act → World → Prop} (hK : ∀ a w, Code.wp Tryd.prog (tl 16) (bodyPost Tryd.prog Tryd.f3 (Fin3 w0)) a w → K a w) : Code.wp Tryd.prog (hd 15) (Exit.then K (bodyPost Tryd.prog Tryd.f3 (Fin3 w0))) ⟨#[u0, u1, u2, .slice KA ks.length kc, .slice VA vs.length vc, u5, .pointer (some ⟨b, 0, Option.none⟩), u7, .pointer (some ⟨b + 1, 0, Option.none⟩), u9, u10, .pointer (some ⟨b + 1 + 1, 0, Option.none⟩), .bool false, .bool true, u14, u15, .bool may, u17, u18, u19, u20, u21, u22, u23, u24, u25, u26, u27, u28, u29, u30, u31, u32, u33, u34, u35, u36, u37, u38, u39, u40, u41, u42, u43, u44, u45, u46, u47, u48, u49, u50, u51, u52, u53, u54, u55, u56, u57, u58, u59, u60, u61, u62, u63, u64, u65, u66, u67, u68, u69, u70, u71, u72, u73, u74, u75, u76, u77, u78, u79, u80, u81, u82, u83, u84, u85, u86, u87, u88, u89, u90, u91, u92, u93, u94, u95, u96, u97, u98, u99, u100, u101, u102, u103, u104, u105, u106, u107, u108, u109, u110, u111, u112, u113, u114, u115, u116, u117, u118, u119, u120, u121, u122, u123, u124, u125, u126, u127, u128, u129, u130, u131, u132, u133, u134, u135, u136, u137, u138, u139, u140, u141, u142, u143, u144, u145, u146, u147, u148, u149, u150, u151, u152, u153, u154, u155, u156, u157, u158, u159, u160, u161, u162, u163, u164, u165, u166, u167, u168, u169, u170, u171, u172, u173, u174, u175, u176, u177, u178, u179, u180, u181, u182, u183, u184, u185, u186, u187, u188, u189, u190, u191, u192, u193, u194, u195, u196, u197, u198, u199, u200, u201, u202, u203, u204, u205, u206, u207, u208, u209, u210, u211, u212, u213, u214, u215, u216, u217, u218, u219, u220, u221, u222, u223, u224, u225, u226, u227, u228, u229, u230, u231, u232, u233, u234, u235, u236, u237, u238, u239, u240, u241, u242, u243, u244, u245, u246, u247, u248, u249, u250, u251, u252, u253, u254, u255, u256, u257, u258, u259, u260, u261, u262, u263, u264, u265, u266, u267, u268, u269, u270, u271, u272, u273, u274, u275, u276, u277, u278, u279, u280, u281, u282, u283, u284, u285, u286, u287, u288, u289, u290, u291, u292, u293, u294, u295, u296, u297, u298, u299, u300, u301, u302, u303, u304, u305, u306, u307, u308, u309, u310, u311, u312, u313, u314, u315, u316, u317, u318, u319, u320, u321, u322, u323, u324, u325, u326, u327, u328, u329, u330, u331, u332, u333, u334, u335, u336, u337, u338, u339, u340, u341, u342, u343, u344, u345, u346, u347, u348, u349, u350, u351, u352, u353, u354, u355, u356, u357, u358, u359, u360, u361, u362, u363, u364], []⟩ w := by
  conv at hK => enter [a, w, 1, 2]; whnf
  conv => arg 2; whnf
  have HT := Lib.hid (And.intro hI (And.intro hG (And.intro hL hm)))
  have HB := Lib.hid hb
  have HE := Lib.hid hE
  have HLL := Lib.hid (And.intro hr hLI)
  have HKV := Lib.hid (And.intro hKA (And.intro hVA (And.intro hlen (And.intro h50 (And.intro hks (And.intro hvs (And.intro hrw hlb)))))))
  clear hI hG hL hm hb hE hr hLI hKA hVA hks hvs hrw hlb hlen h50
  have hba : Below w.heap.size w (w.alloc (.map #[] 0)) := (Below.refl _ _).alloc (Nat.le_refl _) _
  have HMK := Lib.hid (World.ownsMap_made (H := Unit) w Tryd.prog 43 (plainElem Tryd.prog 3))
  have HBA := Lib.hid hba
  have e0 := cell_below hba HE.out.e0
  have e1 := cell_below hba HE.out.e1
  clear hba
  obtain ⟨met, hmet⟩ : ∃ met, decide (row < 0) = met := ⟨_, rfl⟩
  have hmm := @run_makeMap Tryd.prog
  go_wp2_with fail
  generalize w.alloc (.map #[] 0) = w1 at *
  obtain ⟨M, hM⟩ : ∃ M, w.heap.size = M := ⟨_, rfl⟩
  rw [hM] at HMK ⊢
  have HMM := Lib.hid hM
  have HME := Lib.hid hmet
  clear e0 e1 hM hmet
  go_loopw [27] (fun i wr => ∃ (k : Nat) (D : DataW Unit), i = .int .i64 k ∧ k ≤ ks.length ∧ wr.ownsMap Tryd.prog 43 (plainElem Tryd.prog 3) M k D ∧ Below w.heap.size w wr) (fun i _ => ks.length - (intOf i).toNat)
  case atStart => exact ⟨0, _, rfl, Nat.zero_le _, HMK.out, HBA.out⟩
  case round =>
    obtain ⟨k, D, rfl, hk, hown, hwr⟩ := hrel
    have HO := Lib.hid hown
    have HW := Lib.hid hwr
    by_cases hlt : k < ks.length
    · have h50 := HKV.out.2.2.2.1
      have hlv := HKV.out.2.2.1
      obtain ⟨x, hx⟩ : ∃ x, ks[k] = x := ⟨_, rfl⟩
      have hxm : x ∈ ks := by rw [← hx]; exact List.getElem_mem hlt
      obtain ⟨b4, o4, hKA, h4, h5⟩ := nds_cells (HKV.out.1.below hwr) (p := k) (x := x) (by rw [List.getElem?_eq_getElem hlt, hx])
      have hlt2 : k < vs.length := by omega
      obtain ⟨b3, o3, hVA, _, hcel3⟩ := (HKV.out.2.1.below hwr).int (k := k) hlt2
      have h3 := hcel3 k hlt2
      obtain ⟨z, hz⟩ : ∃ z, vs[k] = z := ⟨_, rfl⟩
      have hzm : z ∈ vs := by rw [← hz]; exact List.getElem_mem hlt2
      rw [hz] at h3
      obtain ⟨r, s⟩ := x
      obtain ⟨kl, hkl⟩ := keyNeed r s (HKV.out.2.2.2.2.1 _ hxm).1 (HKV.out.2.2.2.2.1 _ hxm).2
      have hzw := HKV.out.2.2.2.2.2.1 z hzm
      rw [hKA, hVA]
      have i1 : (k : Int) < (ks.length : Int) := by omega
      have i2 : (k : Int) < (vs.length : Int) := by omega
      have i3 : (k : Int) ≤ 50 := by omega
      have HK := Lib.hid (And.intro hkl hzw)
      have HSZ := Lib.hid (show k < maxLen by unfold maxLen; omega)
      have HM2 := Lib.hid (show w.heap.size ≤ M from Nat.le_of_eq HMM.out)
      clear hx hxm hKA hVA hcel3 hz hzm hkl hzw hown hwr hlt2
      go_wp2_with fail
      obtain ⟨w6, hrun, hown6, hg6⟩ := (HO.out.drew : wr.drew.ownsMap Tryd.prog 43 (plainElem Tryd.prog 3) M k D).update lawNeed Tryd.underlying48 HSZ.out HK.out.1 (plainElem_int Tryd.underlying3 HK.out.2)
      have H6 := Lib.hid (And.intro hown6 hg6)
      clear hown6 hg6
      go_region
      all_goals
        go_wp2_with fail
        go_roundw
        case rel => exact ⟨k + 1, _, by go_num, hlt, H6.out.1, below_grown_at HW.out.drew HM2.out H6.out.2 (Nat.le_refl _)⟩
        case measure => simp [intOf] <;> omega
    · have hki : ¬ (k : Int) < (ks.length : Int) := by omega
      obtain ⟨kl, hkl⟩ := keyNeed row lab HKV.out.2.2.2.2.2.2.1 HKV.out.2.2.2.2.2.2.2
      obtain ⟨c, hrun, hat, hwc⟩ := HO.out.lookup_int lawNeed Tryd.underlying48 Tryd.underlying3 (zeroInt wr) hkl
      have HX := Lib.hid (And.intro hkl hat)
      have HB2 := Lib.hid (below_then HB.out hwr)
      have HE2 := Lib.hid (HE.out.below hwr)
      have HL2 := Lib.hid (And.intro (HLL.out.1.below hwr) (fun k hk => (HLL.out.2 k hk).below hwr))
      clear hkl hrun hat hwc hown hwr hmm
      go_upto_region 39 with fail
      exact et_val b n row lab t LA lc L w0 wr HT.out.1 HT.out.2.1 HB2.out HE2.out HL2.out.1 HT.out.2.2.1 HL2.out.2 HT.out.2.2.2 M k D kl c HX.out.1 HO.out HX.out.2 HME.out (by assumption)
end Go.Proofs.YtlgmddnpmmggdaaDoor
