/-
  The name of what is told, held against the document's.
-/
import Derived.Test.YtlgmddnpmmggdaaDoorEtD
namespace Go.Proofs.YtlgmddnpmmggdaaDoor
open Go.ChangeShapes Go.WideShapes Go.ChangeAt Go.RowKit Go.Sort Go.Maps
set_option linter.unusedVariables false
set_option linter.unusedSimpArgs false
attribute [local irreducible] Go.wpQuiet


set_option maxRecDepth 100000 in
set_option maxHeartbeats 1000000 in
theorem et_name {may : Bool} {u0 u1 u2 u5 u7 u9 u10 u14 u15 u17 u18 u19 u20 u21 u22 u23 u24 u25 u26 u27 u28 u29 u30 u31 u32 u33 u34 u35 u36 u37 u38 u39 u40 u41 u42 u43 u44 u45 u46 u47 u48 u49 u50 u51 u52 u53 u54 u55 u56 u57 u58 u59 u60 u61 u62 u63 u64 u65 u66 u67 u68 u69 u70 u71 u72 u73 u74 u75 u76 u77 u78 u79 u80 u81 u82 u83 u84 u85 u86 u87 u88 u89 u90 u91 u92 u93 u94 u95 u96 u97 u98 u99 u100 u101 u102 u103 u104 u105 u106 u107 u108 u109 u110 u111 u112 u113 u114 u115 u116 u117 u118 u119 u120 u121 u122 u123 u124 u125 u126 u127 u128 u129 u130 u131 u132 u133 u134 u135 u136 u137 u138 u139 u140 u141 u142 u143 u144 u145 u146 u147 u148 u149 u150 u151 u152 u153 u154 u155 u156 u157 u158 u159 u160 u161 u162 u163 u164 u165 u166 u167 u168 u169 u170 u171 u172 u173 u174 u175 u176 u177 u178 u179 u180 u181 u182 u183 u184 u185 u186 u187 u188 u189 u190 u191 u192 u193 u194 u195 u196 u197 u198 u199 u200 u201 u202 u203 u204 u205 u206 u207 u208 u209 u210 u211 u212 u213 u214 u215 u216 u217 u218 u219 u220 u221 u222 u223 u224 u225 u226 u227 u228 u229 u230 u231 u232 u233 u234 u235 u236 u237 u238 u239 u240 u241 u242 u243 u244 u245 u246 u247 u248 u249 u250 u251 u252 u253 u254 u255 u256 u257 u258 u259 u260 u261 u262 u263 u264 u265 u266 u267 u268 u269 u270 u271 u272 u273 u274 u275 u276 u277 u278 u279 u280 u281 u282 u283 u284 u285 u286 u287 u288 u289 u290 u291 u292 u293 u294 u295 u296 u297 u298 u299 u300 u301 u302 u303 u304 u305 u306 u307 u308 u309 u310 u311 u312 u313 u314 u315 u316 u317 u318 u319 u320 u321 u322 u323 u324 u325 u326 u327 u328 u329 u330 u331 u332 u333 u334 u335 u336 u337 u338 u339 u340 u341 u342 u343 u344 u345 u346 u347 u348 u349 u350 u351 u352 u353 u354 u355 u356 u357 u358 u359 u360 u361 u362 u363 u364 : Value} (b : Nat) (n row : Int) (lab : Str) (t : Ty) (LA : Option Addr) (lc : Nat) (L : List Lk) (w0 w : World) (hI : t.In w0) (hG : t.Rg) (hb : Below w0.heap.size w0 w) (hE : EB w b t.d n row lab LA L.length lc)
    (hr : Rd w 1 LA L.length (L.map Lk.val)) (hL : L.length ≤ 4000000) (hLI : ∀ k ∈ L, k.In w) (hm : (mayF t 0).isSome = may)
    (KA VA : Option Addr) (kc vc : Nat) (ks : List (Int × Str)) (vs : List Int) (hKA : Rd w 2 KA ks.length (nds ks)) (hVA : Rd w 1 VA vs.length (i64s vs)) (hlen : ks.length ≤ vs.length) (h50 : ks.length ≤ 50)
    (hks : ∀ x ∈ ks, (Lit.int .i64 x.1).wf = true ∧ x.2.length ≤ maxLen) (hvs : ∀ v ∈ vs, (Lit.int .i64 v).wf = true) (hrw : (Lit.int .i64 row).wf = true) (hlb : lab.length ≤ maxLen) (hlab : lab.length ≤ 1000000) (hL2 : Lay w)
    {K : Act → World → Prop} (hK : ∀ a w, Code.wp Tryd.prog (tl 7) (bodyPost Tryd.prog Tryd.f3 (Fin3 w0)) a w → K a w) : Code.wp Tryd.prog (hd 6) (Exit.then K (bodyPost Tryd.prog Tryd.f3 (Fin3 w0))) ⟨#[u0, u1, u2, .slice KA ks.length kc, .slice VA vs.length vc, u5, .pointer (some ⟨b, 0, Option.none⟩), u7, .pointer (some ⟨b + 1, 0, Option.none⟩), u9, u10, .pointer (some ⟨b + 1 + 1, 0, Option.none⟩), .bool false, .bool true, u14, u15, .bool may, u17, u18, u19, u20, u21, u22, u23, u24, u25, u26, u27, u28, u29, u30, u31, u32, u33, u34, u35, u36, u37, u38, u39, u40, u41, u42, u43, u44, u45, u46, u47, u48, u49, u50, u51, u52, u53, u54, u55, u56, u57, u58, u59, u60, u61, u62, u63, u64, u65, u66, u67, u68, u69, u70, u71, u72, u73, u74, u75, u76, u77, u78, u79, u80, u81, u82, u83, u84, u85, u86, u87, u88, u89, u90, u91, u92, u93, u94, u95, u96, u97, u98, u99, u100, u101, u102, u103, u104, u105, u106, u107, u108, u109, u110, u111, u112, u113, u114, u115, u116, u117, u118, u119, u120, u121, u122, u123, u124, u125, u126, u127, u128, u129, u130, u131, u132, u133, u134, u135, u136, u137, u138, u139, u140, u141, u142, u143, u144, u145, u146, u147, u148, u149, u150, u151, u152, u153, u154, u155, u156, u157, u158, u159, u160, u161, u162, u163, u164, u165, u166, u167, u168, u169, u170, u171, u172, u173, u174, u175, u176, u177, u178, u179, u180, u181, u182, u183, u184, u185, u186, u187, u188, u189, u190, u191, u192, u193, u194, u195, u196, u197, u198, u199, u200, u201, u202, u203, u204, u205, u206, u207, u208, u209, u210, u211, u212, u213, u214, u215, u216, u217, u218, u219, u220, u221, u222, u223, u224, u225, u226, u227, u228, u229, u230, u231, u232, u233, u234, u235, u236, u237, u238, u239, u240, u241, u242, u243, u244, u245, u246, u247, u248, u249, u250, u251, u252, u253, u254, u255, u256, u257, u258, u259, u260, u261, u262, u263, u264, u265, u266, u267, u268, u269, u270, u271, u272, u273, u274, u275, u276, u277, u278, u279, u280, u281, u282, u283, u284, u285, u286, u287, u288, u289, u290, u291, u292, u293, u294, u295, u296, u297, u298, u299, u300, u301, u302, u303, u304, u305, u306, u307, u308, u309, u310, u311, u312, u313, u314, u315, u316, u317, u318, u319, u320, u321, u322, u323, u324, u325, u326, u327, u328, u329, u330, u331, u332, u333, u334, u335, u336, u337, u338, u339, u340, u341, u342, u343, u344, u345, u346, u347, u348, u349, u350, u351, u352, u353, u354, u355, u356, u357, u358, u359, u360, u361, u362, u363, u364], []⟩ w := by
  conv at hK => enter [a, w, 1, 2]; whnf
  conv => arg 2; whnf
  have HT := Lib.hid (And.intro hI (And.intro hG (And.intro hL hm)))
  have HB := Lib.hid hb
  have HE := Lib.hid hE
  have HLL := Lib.hid (And.intro hr hLI)
  have HKV := Lib.hid (And.intro hKA (And.intro hVA (And.intro hlen (And.intro h50 (And.intro hks (And.intro hvs (And.intro hrw hlb)))))))
  have hro := wf_in hrw
  have HRO := Lib.hid hro
  have HLB := Lib.hid hlab
  have HLAY := Lib.hid hL2
  have k0 := cell_regrown hE.e1
  have k1 := cell_regrown hE.e2
  have CI : RowKit.Hid (∀ d os, Calls Tryd.prog 10 #[.int .i64 row] (grow (redrawn w d) os) fun e w'' => e = .returned (.string (bstr (Lib.itoa row))) ∧ ∃ p : Regrown, w'' = grow (redrawn w p.d) p.os) := Lib.hid fun d os =>
    Calls.regrown_of ((Tryd.strconv_Itoa row hro.1 hro.2 _ (hL2.below (below_regrown _ d os)).tab).mono fun e w' ⟨he, k, os, hw⟩ => ⟨he, by rw [hw]; exact below_grow _ _⟩)
  have hl1 := itoa_len row hro
  have hnm : nameT row lab = 36 :: (Lib.itoa row ++ 46 :: lab) := rfl
  obtain ⟨I, hI'⟩ : ∃ I, Lib.itoa row = I := ⟨_, rfl⟩
  rw [hI'] at CI hl1 hnm
  have a1 : ∀ w, (Op.stringOp .add ⟨#[36]⟩ (bstr I)).run Tryd.prog w = .ok (.string (bstr (36 :: I))) w := fun w => by
    have h := run_string_add_sum (P := Tryd.prog) (w := w) (bstr [36]) (bstr I) (by rw [bstr_size, bstr_size]; show 1 + I.length ≤ _; omega)
    rw [bstr_app] at h; exact h
  have a2 : ∀ w, (Op.stringOp .add (bstr (36 :: I)) ⟨#[46]⟩).run Tryd.prog w = .ok (.string (bstr (36 :: (I ++ [46])))) w := fun w => by
    have h := run_string_add_sum (P := Tryd.prog) (w := w) (bstr (36 :: I)) (bstr [46]) (by rw [bstr_size, bstr_size]; show I.length + 1 + 1 ≤ _; omega)
    rw [bstr_app] at h; exact h
  have a3 : ∀ w, (Op.stringOp .add (bstr (36 :: (I ++ [46]))) (bstr lab)).run Tryd.prog w = .ok (.string (bstr (36 :: (I ++ 46 :: lab)))) w := fun w => by
    have h := run_string_add_sum (P := Tryd.prog) (w := w) (bstr (36 :: (I ++ [46]))) (bstr lab) (by rw [bstr_size, bstr_size, List.length_cons, List.length_append]; show I.length + 1 + 1 + lab.length ≤ _; omega)
    rw [bstr_app, List.cons_append, List.append_assoc] at h; exact h
  have HNM := Lib.hid hnm
  clear hI hG hL hm hb hE hr hLI hKA hVA hks hvs hrw hlb hlen h50 hlab hL2 hro hl1 hI' hnm
  refine wp_region_quiet_below (by kernel_rfl) (by kernel_rfl) ?_
  repeat (quiet_step ((go_at_call 10; with_reducible exact CI.out _ _)))
  refine wpQuiet_nil ?_
  intro _ hw
  obtain ⟨⟨dq, osq⟩, hw''⟩ := hw
  subst hw''
  have hbq := below_regrown w dq osq
  clear k0 k1 CI a1 a2 a3
  generalize grow (redrawn w dq) osq = w2 at *
  have e1 := HE.out.e1
  rw [← HNM.out]
  have HN := Lib.hid (fun W (hb : Below w.heap.size w W) => name_any row lab W HRO.out HLB.out (HLAY.out.below hb))
  have HE2 := Lib.hid (HE.out.below hbq)
  have HBQ := Lib.hid hbq
  clear hbq e1
  have e1 := HE2.out.e1
  have e2 := HE2.out.e2
  obtain ⟨nm, hnm⟩ : ∃ nm, nameT row lab = nm := ⟨_, rfl⟩
  rw [hnm] at HN ⊢
  have HNN := Lib.hid hnm
  clear hnm
  go_wp2_with fail
  refine (HN.out w2 HBQ.out).mono ?_
  rintro e w3 ⟨rfl, hb3⟩
  have hb4 := below_then HBQ.out hb3
  have HB4 := Lib.hid (below_then HB.out hb4)
  have HE4 := Lib.hid (HE.out.below hb4)
  have HL4 := Lib.hid (And.intro (HLL.out.1.below hb4) (fun k hk => (HLL.out.2 k hk).below hb4))
  have HK4 := Lib.hid (And.intro (HKV.out.1.below hb4) (HKV.out.2.1.below hb4))
  have HLY4 := Lib.hid (HLAY.out.below hb4)
  clear hb3 hb4 e1 e2 HN HE2 HBQ
  go_upto_region 17 with fail
  have hnn := HNN.out
  subst hnn
  exact et_term b n row lab t LA lc L w0 w3 HT.out.1 HT.out.2.1 HB4.out HE4.out HL4.out.1 HT.out.2.2.1 HL4.out.2 HT.out.2.2.2 KA VA kc vc ks vs HK4.out.1 HK4.out.2 HKV.out.2.2.1 HKV.out.2.2.2.1 HKV.out.2.2.2.2.1 HKV.out.2.2.2.2.2.1 HKV.out.2.2.2.2.2.2.1 HKV.out.2.2.2.2.2.2.2 HLB.out HLY4.out (by assumption)
end Go.Proofs.YtlgmddnpmmggdaaDoor
