/-
  The law HeapPlays: a deed that makes an object.
-/
import Derived.Test.YthblcfhflkapmaaK03
namespace Go.Proofs.Ythblcfhflkapmaa
open Go Go.ChangeShapes Go.WideShapes Go.ChangeAt Go.RowKit Go.Sort
set_option linter.unusedVariables false
set_option linter.unusedSimpArgs false

theorem HP.more {w0 w w' : World} {N hb mb i : Nat} {half runs : Int} {L : List Ob} {V G V' G' x : Value} {xs : List RO} {A : Option Addr} {rs : List Wd} (h : HP w0 w N hb mb half i L runs rs V G V' G' x xs A) (hb' : Below w.heap.size w w') {A' : Option Addr} {c' : Nat} {u : Wd} (hu : Fine L u) (hi : rs.length < i) (ho : w'.ownsRow w.heap.size WTy 2 (.slice A' (rs.length + 1) c') (rs.length + 1) (wcells rs ++ wcells [u])) : HP w0 w' N hb mb half i L runs (rs ++ [u]) V G V' G' x xs A' := by
  have h1 := h.below hb'
  refine ⟨h1.ch, h1.rh, h1.wf, h1.sz, h1.ru, by simp; omega, h1.dj, ?_, fun a ha => ?_, fun v hv => ?_, h1.bl, h1.le⟩
  · rw [List.length_append, List.length_singleton, wcells_append]
    exact Rd.of_own ho
  · have hl := ho.lt a.block (by rw [ha]; rfl)
    exact ⟨hl.2, h.ch.fresh hl.1, h.rh.fresh hl.1⟩
  · rcases List.mem_append.1 hv with q | q
    · exact h.fn v q
    · rw [List.mem_singleton.1 q]; exact hu
theorem rmk_out {e : Ending} {w' : World} {N mb : Nat} {half runs1 : Int} {L1 : List Ob} {k : Int} {l1 r1 : List Wd} {x' : Value} {xs' : List RO} {B1 B2 : Option Addr} {d1 d2 : Nat}
    (h : ((l1.length : Int) < half - sizes L1 ∧ e = .returned (.tuple #[.int .i64 (sizes L1 : Nat), .slice B1 l1.length d1, .slice B2 r1.length d2, .int .i64 0]) ∧ RH w' N mb half runs1 (L1 ++ [(k, l1)]) x' xs') ∨ (¬ (l1.length : Int) < half - sizes L1 ∧ e = .returned (.tuple #[.int .i64 0, .slice B1 l1.length d1, .slice B2 r1.length d2, .int .i64 7]) ∧ RH w' N mb half runs1 L1 x' xs')) :
    ∃ pv cd, e = .returned (.tuple #[.int .i64 pv, .slice B1 l1.length d1, .slice B2 r1.length d2, .int .i64 cd]) ∧ (((l1.length : Int) < half - sizes L1 ∧ pv = (sizes L1 : Nat) ∧ cd = 0 ∧ RH w' N mb half runs1 (L1 ++ [(k, l1)]) x' xs') ∨ (¬ (l1.length : Int) < half - sizes L1 ∧ pv = 0 ∧ cd = 7 ∧ RH w' N mb half runs1 L1 x' xs')) := by
  rcases h with ⟨a, b, c⟩ | ⟨a, b, c⟩
  · exact ⟨_, _, b, .inl ⟨a, rfl, rfl, c⟩⟩
  · exact ⟨_, _, b, .inr ⟨a, rfl, rfl, c⟩⟩
set_option maxRecDepth 100000 in
set_option maxHeartbeats 16000000 in
theorem make_ok {u0 u1 u2 u3 u4 u7 u15 u16 u17 u18 u19 u20 u21 u22 u23 u24 u25 u26 u27 u28 u29 u30 u31 u32 u33 u34 u35 u36 u37 u38 u39 u40 u41 u42 u43 u44 u45 u46 u47 u48 u49 u50 u51 u52 u53 u54 u55 u56 u57 u58 u59 u60 u61 u62 u63 u64 u65 u66 u67 u68 u69 u70 u71 u72 u73 u74 u75 u76 u77 u78 u79 u80 u81 u82 u83 u84 u85 u86 u87 u88 u89 u90 u91 u92 u93 u94 u95 u96 u97 u98 u99 u100 u101 u102 u103 u104 u105 u106 u107 u108 u109 u110 u111 u112 u113 u114 u115 u116 u117 u118 u119 u120 u121 u122 u123 u124 u125 u126 u127 u128 u129 u130 u131 u132 u133 u134 u135 u136 u137 u138 u139 u140 u141 u142 u143 u144 u145 u146 u147 u148 u149 u150 u151 u152 u153 u154 u155 u156 u157 u158 u159 u160 u161 u162 u163 u164 u165 u166 u167 u168 u169 u170 u171 u172 u173 u174 u175 u176 u177 u178 u179 u180 u181 u182 u183 u184 u185 u186 u187 u188 u189 u190 u191 u192 u193 u194 u195 u196 u197 u198 u199 u200 u201 u202 u203 u204 u205 u206 u207 u208 u209 u210 u211 u212 u213 u214 u215 u216 u217 u218 u219 u220 u221 u222 u223 u224 u225 u226 u227 u228 u229 u230 u231 u232 u233 u234 u235 u236 u237 u238 u239 u240 u241 u242 u243 u244 u245 u246 u247 u248 u249 u250 u251 u252 u253 u254 u255 u256 u257 u258 u259 u260 u261 u262 u263 u264 u265 u266 u267 u268 u269 u270 u271 u272 u273 u274 u275 u276 u277 u278 u279 u280 u281 u282 u283 u284 u285 u286 u287 u288 u289 u290 u291 u292 u293 u294 u295 u296 u297 u298 u299 u300 u301 u302 u303 u304 u305 u306 u307 u308 u309 u310 u311 u312 u313 u314 u315 u316 u317 u318 u319 u320 u321 u322 u323 u324 u325 u326 u327 u328 u329 u330 u331 u332 u333 u334 u335 u336 u337 u338 u339 u340 u341 u342 u343 u344 u345 u346 u347 u348 u349 u350 u351 u352 u353 u354 u355 u356 u357 u358 u359 u360 u361 u362 u363 u364 u365 u366 u367 u368 u369 u370 u371 u372 u373 u374 u375 u376 u377 u378 u379 : Value} {Q : Exit → Act → World → Prop} (w0 w : World) (N hb mb i bx bw : Nat) (half runs p : Int) (L : List Ob) (rs l : List Wd) (V G V' G' x : Value) (xs : List RO) (A Al : Option Addr) (c9 c12 : Nat) (d : Dd) (u : Wd) (hP : HP w0 w N hb mb half i L runs rs V G V' G' x xs A) (hD : DS w (fun b => Nh hb V G V' G' b ∧ Nr mb x xs b) bx bw d Al l u) (hi : i ≤ 60) (hz : 1 ≤ half ∧ half ≤ 5000) (hI : I64 d.i) (hc9 : rs.length ≤ c9)
    (hQ : ∀ (v4 v11 v12 v13 v14 v15 v16 v17 v18 v19 v20 v21 v22 v23 v24 v25 v26 v27 v28 v29 v30 v31 v32 v33 v34 v35 v36 v81 v82 v83 v84 v85 v86 v87 v88 v89 v90 v91 v92 v93 v94 v95 v96 v97 v98 v99 v100 v101 v102 v103 v104 v105 v106 v107 v108 v109 v110 v111 v112 v113 v114 v115 v116 v117 v118 v119 v120 v121 v122 v123 v124 v125 v126 v127 v128 v129 v130 v131 v132 v133 v134 v135 v136 v137 v138 v139 v140 v141 v142 v143 v144 v145 v146 v147 v148 v149 v150 v151 v152 v153 v154 v155 v156 v157 v158 v159 v160 v161 v162 v163 v164 v165 v166 v167 v168 v169 v170 v171 v172 v173 v174 v175 v176 v177 v178 v179 v180 v181 v182 v183 v184 v185 v186 v187 v188 v189 v190 v191 v192 v193 v194 v195 v196 v197 v198 v199 v200 v201 v202 v203 v204 v205 v206 v207 v208 v209 v210 v211 v212 v213 v214 v215 v216 v217 v218 v219 v220 v221 v222 v223 v224 v225 v226 v227 v228 v229 v230 v231 v232 v233 v234 v235 v236 v237 v238 v239 v240 v241 v242 v243 v244 v245 v246 v247 v248 v249 v250 v251 v252 v253 v254 v255 v256 v257 v258 v259 v260 v261 v262 v263 v264 v265 v266 v267 v268 v269 v270 v271 v272 v273 v274 v275 v276 v277 v278 v279 v280 v281 v282 v283 v284 v285 v286 v287 v288 v289 v290 v291 v292 v293 v294 v295 v296 v297 v298 v299 v300 v301 v302 v303 v304 v305 v306 v307 v308 v309 v310 v311 v312 v313 v314 v315 v316 v317 v318 v319 v320 v321 v322 v323 v324 v325 v326 v327 v328 v329 v330 v331 v332 v333 v334 v335 v336 v337 v338 v339 v340 v341 v342 v343 v344 v345 v346 v347 v348 v349 v350 v351 v352 v353 v354 v355 v356 v357 v358 v359 v360 v361 v362 v363 v364 v365 v366 v367 v368 v369 v370 v371 v372 v373 v374 v375 v376 v377 v378 : Value) (w' : World) (A' : Option Addr) (n' c' : Nat), SP w0 w' N hb mb half (i + 1) A' n' c' → Q .normal ⟨#[u0, u1, u2, u3, v4, .bool true, .pointer (some ⟨hb, 0, none⟩), u7, .pointer (some ⟨mb, 0, none⟩), (.slice A' n' c'), .int .i64 (i : Nat), v11, v12, v13, v14, v15, v16, v17, v18, v19, v20, v21, v22, v23, v24, v25, v26, v27, v28, v29, v30, v31, v32, v33, v34, v35, v36, u37, u38, u39, u40, u41, u42, u43, u44, u45, u46, u47, u48, u49, u50, u51, u52, u53, u54, u55, u56, u57, u58, u59, u60, u61, u62, u63, u64, u65, u66, u67, u68, u69, u70, u71, u72, u73, u74, u75, u76, u77, u78, u79, u80, v81, v82, v83, v84, v85, v86, v87, v88, v89, v90, v91, v92, v93, v94, v95, v96, v97, v98, v99, v100, v101, v102, v103, v104, v105, v106, v107, v108, v109, v110, v111, v112, v113, v114, v115, v116, v117, v118, v119, v120, v121, v122, v123, v124, v125, v126, v127, v128, v129, v130, v131, v132, v133, v134, v135, v136, v137, v138, v139, v140, v141, v142, v143, v144, v145, v146, v147, v148, v149, v150, v151, v152, v153, v154, v155, v156, v157, v158, v159, v160, v161, v162, v163, v164, v165, v166, v167, v168, v169, v170, v171, v172, v173, v174, v175, v176, v177, v178, v179, v180, v181, v182, v183, v184, v185, v186, v187, v188, v189, v190, v191, v192, v193, v194, v195, v196, v197, v198, v199, v200, v201, v202, v203, v204, v205, v206, v207, v208, v209, v210, v211, v212, v213, v214, v215, v216, v217, v218, v219, v220, v221, v222, v223, v224, v225, v226, v227, v228, v229, v230, v231, v232, v233, v234, v235, v236, v237, v238, v239, v240, v241, v242, v243, v244, v245, v246, v247, v248, v249, v250, v251, v252, v253, v254, v255, v256, v257, v258, v259, v260, v261, v262, v263, v264, v265, v266, v267, v268, v269, v270, v271, v272, v273, v274, v275, v276, v277, v278, v279, v280, v281, v282, v283, v284, v285, v286, v287, v288, v289, v290, v291, v292, v293, v294, v295, v296, v297, v298, v299, v300, v301, v302, v303, v304, v305, v306, v307, v308, v309, v310, v311, v312, v313, v314, v315, v316, v317, v318, v319, v320, v321, v322, v323, v324, v325, v326, v327, v328, v329, v330, v331, v332, v333, v334, v335, v336, v337, v338, v339, v340, v341, v342, v343, v344, v345, v346, v347, v348, v349, v350, v351, v352, v353, v354, v355, v356, v357, v358, v359, v360, v361, v362, v363, v364, v365, v366, v367, v368, v369, v370, v371, v372, v373, v374, v375, v376, v377, v378, u379], []⟩ w') :
    headOk d.kind (l.length : Nat) → (∀ u ∈ l, Fine L u) → Code.wp Try.prog makeC Q ⟨#[u0, u1, u2, u3, u4, .bool true, .pointer (some ⟨hb, 0, none⟩), u7, .pointer (some ⟨mb, 0, none⟩), .slice A rs.length c9, .int .i64 (i : Nat), .pointer (some ⟨bx, 0, none⟩), .slice Al l.length c12, .pointer (some ⟨bw, 0, none⟩), .int .i64 p, u15, u16, u17, u18, u19, u20, u21, u22, u23, u24, u25, u26, u27, u28, u29, u30, u31, u32, u33, u34, u35, u36, u37, u38, u39, u40, u41, u42, u43, u44, u45, u46, u47, u48, u49, u50, u51, u52, u53, u54, u55, u56, u57, u58, u59, u60, u61, u62, u63, u64, u65, u66, u67, u68, u69, u70, u71, u72, u73, u74, u75, u76, u77, u78, u79, u80, u81, u82, u83, u84, u85, u86, u87, u88, u89, u90, u91, u92, u93, u94, u95, u96, u97, u98, u99, u100, u101, u102, u103, u104, u105, u106, u107, u108, u109, u110, u111, u112, u113, u114, u115, u116, u117, u118, u119, u120, u121, u122, u123, u124, u125, u126, u127, u128, u129, u130, u131, u132, u133, u134, u135, u136, u137, u138, u139, u140, u141, u142, u143, u144, u145, u146, u147, u148, u149, u150, u151, u152, u153, u154, u155, u156, u157, u158, u159, u160, u161, u162, u163, u164, u165, u166, u167, u168, u169, u170, u171, u172, u173, u174, u175, u176, u177, u178, u179, u180, u181, u182, u183, u184, u185, u186, u187, u188, u189, u190, u191, u192, u193, u194, u195, u196, u197, u198, u199, u200, u201, u202, u203, u204, u205, u206, u207, u208, u209, u210, u211, u212, u213, u214, u215, u216, u217, u218, u219, u220, u221, u222, u223, u224, u225, u226, u227, u228, u229, u230, u231, u232, u233, u234, u235, u236, u237, u238, u239, u240, u241, u242, u243, u244, u245, u246, u247, u248, u249, u250, u251, u252, u253, u254, u255, u256, u257, u258, u259, u260, u261, u262, u263, u264, u265, u266, u267, u268, u269, u270, u271, u272, u273, u274, u275, u276, u277, u278, u279, u280, u281, u282, u283, u284, u285, u286, u287, u288, u289, u290, u291, u292, u293, u294, u295, u296, u297, u298, u299, u300, u301, u302, u303, u304, u305, u306, u307, u308, u309, u310, u311, u312, u313, u314, u315, u316, u317, u318, u319, u320, u321, u322, u323, u324, u325, u326, u327, u328, u329, u330, u331, u332, u333, u334, u335, u336, u337, u338, u339, u340, u341, u342, u343, u344, u345, u346, u347, u348, u349, u350, u351, u352, u353, u354, u355, u356, u357, u358, u359, u360, u361, u362, u363, u364, u365, u366, u367, u368, u369, u370, u371, u372, u373, u374, u375, u376, u377, u378, u379], []⟩ w := by
  intro hk hf
  obtain ⟨L1, runs1, l1, r1, hmc, hmk, hrm⟩ := make_pair hP hi hz d.kind hk hf Al c12 c9 hD.rl
  obtain ⟨e0, e1, e2, e3, e4, e5, e6, e7⟩ := cells8 hD.cx
  have HMK := Lib.hid hmk
  have HRM := Lib.hid hrm
  have HMC := Lib.hid hmc
  have H := Lib.hid (And.intro hP hD)
  have HX := Lib.hid (And.intro hi (And.intro hz (And.intro hc9 hk)))
  have HQ := Lib.hid hQ
  have hlr := hmc.lr
  have hrl : rs.length ≤ 60 := by have := hP.ln; omega
  have HRL := Lib.hid (And.intro hrl hlr)
  clear hP hD hi hz hI hc9 hQ hmk hrm hmc hk hf e0 e2 e3 e4 e5 e6 e7 hrl hlr
  conv => arg 2; whnf
  go_wp2_with fail
  refine HMK.out.mono ?_
  rintro e w1 ⟨vl, vr, V1, G1, V1', G1', pp, err, L2, rfl, hch, hol, hor, hnh, htr, hbl, hout⟩
  obtain ⟨Avl, cvl, rfl, hcl1, _⟩ := own_cap hol
  obtain ⟨Avr, cvr, rfl, hcr1, _⟩ := own_cap hor
  have H1 := Lib.hid (And.intro hch (And.intro hol (And.intro hor (And.intro hnh (And.intro htr (And.intro hbl hout))))))
  have HCR := Lib.hid hcr1
  have HDS := Lib.hid (H.out.2.keep (P' := fun b => Nr mb x xs b) (fun b hp hl => ⟨hp.2, (htr b hp.1 hl).2⟩) hbl.size)
  have HRH := Lib.hid (H.out.1.rh.beside H.out.1.dj htr)
  have hrr : Rd w1 2 A rs.length (wcells rs) := H.out.1.rt.keepB (fun a ha _ hl => (htr _ (H.out.1.ra a ha).2.1 hl).2)
  have HLL := Lib.hid (fun (W : World) (h : Below w1.heap.size w1 W) => all_any W Al l c12 (HDS.out.rl.below h) (by have := H.out.2.ll; omega))
  have HLR := Lib.hid (fun (W : World) (h : Below w1.heap.size w1 W) => all_any W A rs c9 (hrr.below h) (by have := HRL.out.1; omega))
  have HRK := Lib.hid (fun (W : World) (h : Below w1.heap.size w1 W) (A2 A3 : Option Addr) (c2 c3 : Nat) (r2 : Rd W 2 A2 l.length (wcells l)) (r3 : Rd W 2 A3 rs.length (wcells rs)) (n2 : ∀ a, A2 = some a → a.block ≠ mb) (n3 : ∀ a, A3 = some a → a.block ≠ mb) => HRM.out W A2 A3 c2 c3 (HRH.out.below h) (Nat.le_trans (Nat.le_trans H.out.1.le hbl.size) h.size) r2 r3 n2 n3)
  have HS := Lib.hid (fun (W : World) (h : Below w1.heap.size w1 W) => (cells8 (HDS.out.below h).cx).2.1)
  have HMB := Lib.hid (show mb < w1.heap.size from lt_of_heap HRH.out.hd)
  clear hch hol hor hnh htr hbl hout hrr e1 hcl1 hcr1
  have e1 := HS.out w1 (Below.refl _ _)
  dsimp only
  go_upto_region 37 with fail
  go_region_held3 (fun W => W.cell? ⟨bx, 1, none⟩ = some (.int .i64 d.kind))
    (first | (with_reducible exact HS4.out) | (with_reducible exact HS.out _ HB3.out) | (with_reducible exact HS.out _ HB2.out) | (with_reducible exact HS.out _ (below_drew1 _)) | go_keep | fail)
    (first
      | (go_simp; go_at_call 11; (first
          | ((with_reducible refine (HLL.out _ (below_drew1 _)).mono ?_); rintro e w2 ⟨v2, rfl, hown2, hb2⟩; obtain ⟨A2, c2, rfl, _⟩ := own_cap hown2; have HB2 := Lib.hid (below_then (below_drew1 w1) hb2); have HO2 := Lib.hid (And.intro (Rd.of_own hown2) (fun a (ha : A2 = some a) => (hown2.lt a.block (by rw [ha]; rfl)).1)); clear hown2 hb2; dsimp only)
          | ((with_reducible refine (HLR.out _ HB2.out).mono ?_); rintro e w3 ⟨v3, rfl, hown3, hb3⟩; obtain ⟨A3, c3, rfl, _⟩ := own_cap hown3; have HB3 := Lib.hid (below_then HB2.out hb3); have HO3 := Lib.hid (And.intro (Rd.of_own hown3) (fun a (ha : A3 = some a) => (hown3.lt a.block (by rw [ha]; rfl)).1)); have HO2' := Lib.hid (HO2.out.1.below hb3); clear hown3 hb3; dsimp only)))
      | (go_simp; go_at_call 10; have n2 : (∀ a, A2 = some a → a.block ≠ mb) := (fun a ha => by have h1 := HO2.out.2 a ha; have h2 := HMB.out; have h3 : w1.heap.size ≤ a.block := h1; omega); have n3 : (∀ a, A3 = some a → a.block ≠ mb) := (fun a ha => by have h1 := HO3.out.2 a ha; have h2 := HMB.out; have h3 := HB2.out.size; omega); (with_reducible refine (HRK.out w3 HB3.out A2 A3 c2 c3 HO2'.out HO3.out.1 n2 n3).mono ?_); clear n2 n3; rintro e w4 ⟨B1, d1, B2, d2, x', xs', q1, q2, q3, q4, q5⟩; have H4 := Lib.hid (And.intro q1 (And.intro q2 (And.intro q3 q4))); have HS4 := Lib.hid (show w4.cell? ⟨bx, 1, none⟩ = some (.int .i64 d.kind) from (cells8 ((HDS.out.below HB3.out).keep (P' := fun b => Nr mb x' xs' b) (fun b hp hl => q3 b hp hl) q4.size).cx).2.1); clear q1 q2 q3 q4; obtain ⟨pv, cd, rfl, q6⟩ := rmk_out q5; have H6 := Lib.hid q6; clear q5 q6; dsimp only)
      | fail)
  have hd1 : ∀ b, Nh hb V1 G1 V1' G1' b ∨ Nr mb x xs b := dj_two H.out.1.rh H.out.1.dj H1.out.2.2.2.2.1 H1.out.1 (Nat.le_refl _) (Tr.refl w1 _)
  have hd4 : ∀ b, Nh hb V1 G1 V1' G1' b ∨ Nr mb x' xs' b := dj_two H.out.1.rh H.out.1.dj H1.out.2.2.2.2.1 H1.out.1 HB3.out.size H4.out.2.2.1
  have hc4 := (H1.out.1.below HB3.out).aside (fun b _ => hd1 b) H4.out.2.2.1
  have hs1 := H1.out.2.2.2.2.2.1.size
  have hs3 := HB3.out.size
  have hs4 := H4.out.2.2.2.size
  have hgl : ∀ a, Avl = some a → w.heap.size ≤ a.block ∧ a.block < w1.heap.size := fun a ha => ⟨(H1.out.2.2.2.1 a.block (.inl (by rw [ha]; rfl))).2, (H1.out.2.1.lt a.block (by rw [ha]; rfl)).2⟩
  have hgr : ∀ a, Avr = some a → w.heap.size ≤ a.block ∧ a.block < w1.heap.size ∧ Nh hb V1 G1 V1' G1' a.block := fun a ha => ⟨(H1.out.2.2.2.1 a.block (.inr (by rw [ha]; rfl))).2, (H1.out.2.2.1.lt a.block (by rw [ha]; rfl)).2, (H1.out.2.2.2.1 a.block (.inr (by rw [ha]; rfl))).1⟩
  have hk4 : ∀ b, w.heap.size ≤ b → b < w1.heap.size → Nr mb x' xs' b ∧ w4.heap[b]? = w1.heap[b]? := fun b h1 h2 => ⟨(H4.out.2.2.1 b (H.out.1.rh.fresh h1) (by omega)).1, (H4.out.2.2.1 b (H.out.1.rh.fresh h1) (by omega)).2.trans (HB3.out.block b h2)⟩
  have rl4 : Rd w4 2 Avl l1.length (wcells l1) := (Rd.of_own H1.out.2.1).keepB (fun a ha _ hl => (hk4 _ (hgl a ha).1 (hgl a ha).2).2)
  have rr4 : Rd w4 2 Avr r1.length (wcells r1) := (Rd.of_own H1.out.2.2.1).keepB (fun a ha _ hl => (hk4 _ (hgr a ha).1 (hgr a ha).2.1).2)
  have hl60 : l1.length ≤ 60 := by rw [HMC.out.ll]; exact H.out.2.ll
  have hr60 : r1.length ≤ 60 := by rw [HMC.out.lr]; exact HRL.out.1
  have HAL := Lib.hid (all_any w4 Avl l1 cvl rl4 (by omega))
  have HSL := Lib.hid (fun (W : World) (h : Below w4.heap.size w4 W) (A4 : Option Addr) (c4 : Nat) (hr : Rd W 2 A4 l1.length (wcells l1)) => same_any W A4 B1 l1 c4 d1 hr (H4.out.1.below h) (by omega))
  have HAR := Lib.hid (fun (W : World) (h : Below w4.heap.size w4 W) => all_any W Avr r1 cvr (rr4.below h) (by omega))
  have HSR := Lib.hid (fun (W : World) (h : Below w4.heap.size w4 W) (A4 : Option Addr) (c4 : Nat) (hr : Rd W 2 A4 r1.length (wcells r1)) => same_any W A4 B2 r1 c4 d2 hr (H4.out.2.1.below h) (by omega))
  have hbl4 : Below N w0 w4 := H.out.1.bl.trans (H1.out.2.2.2.2.2.1.trans ((HB3.out.mono (Nat.le_trans H.out.1.le hs1)).trans H4.out.2.2.2))
  have hle4 : N ≤ w4.heap.size := Nat.le_trans H.out.1.le (Nat.le_trans hs1 (Nat.le_trans hs3 hs4))
  have hPB : ∀ L3, L2 = L3 → Wf L3 → (sizes L3 : Int) ≤ half → (∀ u ∈ r1, Fine L3 u) → RH w4 N mb half runs1 L3 x' xs' → HP w0 w4 N hb mb half (i + 1) L3 runs1 r1 V1 G1 V1' G1' x' xs' Avr := fun L3 he hw hz hf hR =>
    ⟨he ▸ hc4, hR, hw, hz, ⟨by have := HMC.out.ru.1; have := H.out.1.ru.1; omega, by have := HMC.out.ru.2; have := H.out.1.ru.2; omega⟩, by rw [HMC.out.lr]; have := H.out.1.ln; omega, fun b _ => hd4 b, rr4, fun a ha => ⟨by have := (hgr a ha).2.1; omega, (hgr a ha).2.2, (hk4 _ (hgr a ha).1 (hgr a ha).2.1).1⟩, hf, hbl4, hle4⟩
  have hout := H1.out.2.2.2.2.2.2
  have hout2 := H6.out
  have HPBB := Lib.hid hPB
  clear hd1 hd4 hc4 hs1 hs3 hs4 hgl hgr hk4 rl4 rr4 hl60 hr60 hbl4 hle4 hPB e1
  rcases hout with ⟨k1, rfl, rfl, rfl⟩ | ⟨k1, rfl, rfl, rfl⟩
  · rcases hout2 with ⟨k2, rfl, rfl, hrh⟩ | ⟨k2, _⟩
    rotate_left
    · exact absurd k1 k2
    have hPb := HPBB.out (L1 ++ [(d.kind, l1)]) rfl (HMC.out.wf.app HMC.out.fl ⟨HX.out.2.2.2.1, HX.out.2.2.2.2.1, by rw [HMC.out.ll]; have := H.out.2.ll; omega⟩) (by rw [sizes_append]; simp only [sizes, osz]; omega) (fun u hu => (HMC.out.fr u hu).app _) hrh
    clear hrh k1 k2
    have HPB := Lib.hid hPb
    have HCO := Lib.hid (fun W : World => code_nil W)
    clear hPb
    go_upto_region 40 with (first
      | (go_at_call 12; (with_reducible refine (HCO.out _).mono ?_); rintro e w5 ⟨rfl, rfl⟩; dsimp only)
      | (go_at_call 11; (with_reducible refine HAL.out.mono ?_); rintro e w5 ⟨v5, rfl, hown5, hb5⟩; obtain ⟨A5, c5, rfl, _⟩ := own_cap hown5; have H5 := Lib.hid (And.intro (Rd.of_own hown5) hb5); clear hown5 hb5; dsimp only)
      | (go_at_call 13; (with_reducible refine (HSL.out _ H5.out.2 _ _ H5.out.1).mono ?_); rintro e w6 ⟨rfl, hb6⟩; have H6 := Lib.hid (below_then H5.out.2 hb6); clear hb6; dsimp only)
      | (go_at_call 11; (with_reducible refine (HAR.out _ H6.out).mono ?_); rintro e w7 ⟨v7, rfl, hown7, hb7⟩; obtain ⟨A7, c7, rfl, _⟩ := own_cap hown7; have H7 := Lib.hid (And.intro (Rd.of_own hown7) (below_then H6.out hb7)); clear hown7 hb7; dsimp only)
      | (go_at_call 13; (with_reducible refine (HSR.out _ H7.out.2 _ _ H7.out.1).mono ?_); rintro e w8 ⟨rfl, hb8⟩; have H8 := Lib.hid (below_then H7.out.2 hb8); clear hb8; dsimp only))
    obtain ⟨h1, h2⟩ := tmod_nat (a := (i : Int)) (b := 3) (by omega) (by omega)
    have e3 : IntKind.i64.wrap ((i : Int).tmod 3) = (i : Int).tmod 3 := by rw [IntKind.wrap_i64]; omega
    obtain ⟨r, hr⟩ : ∃ r : Nat, (i : Int).tmod 3 = r := ⟨((i : Int).tmod 3).toNat, by omega⟩
    rw [hr] at e3
    clear h1 h2
    have HPW := Lib.hid (HPB.out.below H8.out)
    by_cases h0 : r = 0
    · subst h0
      have HO0 := Lib.hid (own_lit w8 (size := 2) WTy (Nat.le_refl w8.heap.size))
      have HA3 := Lib.hid ((Below.refl w8.heap.size w8).alloc (Nat.le_refl _) (.cells #[] WTy))
      have HR3 := Lib.hid (HPW.out.rt.alloc (.cells #[] WTy))
      have HAT4 := Lib.hid (fun W : World => at_any (sizes L1 : Nat) W)
      have HLB := Lib.hid (show (0 + r1.length) * 16 ≤ 140737488355328 by have := HPW.out.ln; have := HX.out.1; omega)
      have HLC := Lib.hid (show (r1.length + 1) * 16 ≤ 140737488355328 by have := HPW.out.ln; have := HX.out.1; omega)
      go_wp2_with (first
        | (at_builtin; refine wpList_app elWord _ rfl (.tmp 228) (.tmp 229) rfl _ _ 0 [] rfl HO0.out Avr r1.length cvr (wcells r1) rfl HR3.out (wcells_ones _) HLB.out HA3.out.size ?_; intro v10 w10 hown10 hb10 hg10 hat10; rw [Nat.zero_add, List.nil_append] at hown10; have H10 := Lib.hid (And.intro hown10 (HA3.out.trans hb10)); clear hown10 hb10 hg10 hat10)
        | (go_at_call 14; (with_reducible refine (HAT4.out _).mono ?_); rintro e w11 ⟨rfl, hb11⟩; have HE5 := Lib.hid (rd_one w11 ⟨true, (sizes L1 : Nat)⟩); have HB5 := Lib.hid (H10.out.2.trans (hb11.mono H10.out.2.size)); have HA5 := Lib.hid ((Below.refl w11.heap.size w11).alloc (Nat.le_refl _) (.cells #[.bool true, .int .i64 (sizes L1 : Nat)] WTy)); have HO5 := Lib.hid (own_below (own_below H10.out.1 hb11) HA5.out); have HL5 := Lib.hid (Nat.le_trans HB5.out.size HA5.out.size); clear hb11; dsimp only)
        | (at_builtin; refine wpList_app elWord _ rfl (.tmp 230) (.tmp 233) rfl _ _ r1.length (wcells r1) rfl HO5.out (some ⟨w11.heap.size, 0, none⟩) 1 1 _ rfl HE5.out (wcells_ones _) HLC.out HL5.out ?_; intro v12 w12 hown12 hb12 hg12 hat12; obtain ⟨A12, c12', rfl, hn12, _⟩ := own_cap hown12; have H12 := Lib.hid (And.intro hown12 (And.intro hn12 (HB5.out.trans ((HA5.out.mono HB5.out.size).trans hb12)))); clear hown12 hb12 hg12 hat12 hn12))
      exact HQ.out _ _ _ _ _ _ _ _ _ _ _ _ _ _ _ _ _ _ _ _ _ _ _ _ _ _ _ _ _ _ _ _ _ _ _ _ _ _ _ _ _ _ _ _ _ _ _ _ _ _ _ _ _ _ _ _ _ _ _ _ _ _ _ _ _ _ _ _ _ _ _ _ _ _ _ _ _ _ _ _ _ _ _ _ _ _ _ _ _ _ _ _ _ _ _ _ _ _ _ _ _ _ _ _ _ _ _ _ _ _ _ _ _ _ _ _ _ _ _ _ _ _ _ _ _ _ _ _ _ _ _ _ _ _ _ _ _ _ _ _ _ _ _ _ _ _ _ _ _ _ _ _ _ _ _ _ _ _ _ _ _ _ _ _ _ _ _ _ _ _ _ _ _ _ _ _ _ _ _ _ _ _ _ _ _ _ _ _ _ _ _ _ _ _ _ _ _ _ _ _ _ _ _ _ _ _ _ _ _ _ _ _ _ _ _ _ _ _ _ _ _ _ _ _ _ _ _ _ _ _ _ _ _ _ _ _ _ _ _ _ _ _ _ _ _ _ _ _ _ _ _ _ _ _ _ _ _ _ _ _ _ _ _ _ _ _ _ _ _ _ _ _ _ _ _ _ _ _ _ _ _ _ _ _ _ _ _ _ _ _ _ _ _ _ _ _ _ _ _ _ _ _ _ _ _ _ _ _ _ _ _ _ _ _ _ _ _ _ _ _ _ _ _ _ _ _ _ _ _ ⟨_, runs1, r1 ++ [⟨true, (sizes L1 : Nat)⟩], V1, G1, V1', G1', x', xs', by simp, H12.out.2.1, HPW.out.more H12.out.2.2 (fun _ => ⟨_, at_new _⟩) (by rw [HMC.out.lr]; have := H.out.1.ln; omega) H12.out.1⟩
    · have h00 : ((r : Int) == 0) = false := by simp; omega
      have h01 : ¬ (r : Int) = 0 := by omega
      clear h0
      go_wp2_with fail
      exact HQ.out _ _ _ _ _ _ _ _ _ _ _ _ _ _ _ _ _ _ _ _ _ _ _ _ _ _ _ _ _ _ _ _ _ _ _ _ _ _ _ _ _ _ _ _ _ _ _ _ _ _ _ _ _ _ _ _ _ _ _ _ _ _ _ _ _ _ _ _ _ _ _ _ _ _ _ _ _ _ _ _ _ _ _ _ _ _ _ _ _ _ _ _ _ _ _ _ _ _ _ _ _ _ _ _ _ _ _ _ _ _ _ _ _ _ _ _ _ _ _ _ _ _ _ _ _ _ _ _ _ _ _ _ _ _ _ _ _ _ _ _ _ _ _ _ _ _ _ _ _ _ _ _ _ _ _ _ _ _ _ _ _ _ _ _ _ _ _ _ _ _ _ _ _ _ _ _ _ _ _ _ _ _ _ _ _ _ _ _ _ _ _ _ _ _ _ _ _ _ _ _ _ _ _ _ _ _ _ _ _ _ _ _ _ _ _ _ _ _ _ _ _ _ _ _ _ _ _ _ _ _ _ _ _ _ _ _ _ _ _ _ _ _ _ _ _ _ _ _ _ _ _ _ _ _ _ _ _ _ _ _ _ _ _ _ _ _ _ _ _ _ _ _ _ _ _ _ _ _ _ _ _ _ _ _ _ _ _ _ _ _ _ _ _ _ _ _ _ _ _ _ _ _ _ _ _ _ _ _ _ _ _ _ _ _ _ _ _ _ _ _ _ _ _ _ _ _ _ _ _ ⟨_, runs1, r1, V1, G1, V1', G1', x', xs', rfl, HCR.out, HPW.out⟩
  · rcases hout2 with ⟨k2, _⟩ | ⟨k2, rfl, rfl, hrh⟩
    · exact absurd k2 k1
    have hPb := HPBB.out _ rfl HMC.out.wf HMC.out.sz HMC.out.fr hrh
    clear hrh k1 k2
    have HPB := Lib.hid hPb
    have HCO := Lib.hid (fun W : World => code_seven W)
    clear hPb
    go_upto_region 40 with (first
      | (go_at_call 12; (with_reducible refine (HCO.out _).mono ?_); rintro e w5 ⟨rfl, rfl⟩; dsimp only)
      | (go_at_call 11; (with_reducible refine HAL.out.mono ?_); rintro e w5 ⟨v5, rfl, hown5, hb5⟩; obtain ⟨A5, c5, rfl, _⟩ := own_cap hown5; have H5 := Lib.hid (And.intro (Rd.of_own hown5) hb5); clear hown5 hb5; dsimp only)
      | (go_at_call 13; (with_reducible refine (HSL.out _ H5.out.2 _ _ H5.out.1).mono ?_); rintro e w6 ⟨rfl, hb6⟩; have H6 := Lib.hid (below_then H5.out.2 hb6); clear hb6; dsimp only)
      | (go_at_call 11; (with_reducible refine (HAR.out _ H6.out).mono ?_); rintro e w7 ⟨v7, rfl, hown7, hb7⟩; obtain ⟨A7, c7, rfl, _⟩ := own_cap hown7; have H7 := Lib.hid (And.intro (Rd.of_own hown7) (below_then H6.out hb7)); clear hown7 hb7; dsimp only)
      | (go_at_call 13; (with_reducible refine (HSR.out _ H7.out.2 _ _ H7.out.1).mono ?_); rintro e w8 ⟨rfl, hb8⟩; have H8 := Lib.hid (below_then H7.out.2 hb8); clear hb8; dsimp only))
    go_wp2_with fail
    exact HQ.out _ _ _ _ _ _ _ _ _ _ _ _ _ _ _ _ _ _ _ _ _ _ _ _ _ _ _ _ _ _ _ _ _ _ _ _ _ _ _ _ _ _ _ _ _ _ _ _ _ _ _ _ _ _ _ _ _ _ _ _ _ _ _ _ _ _ _ _ _ _ _ _ _ _ _ _ _ _ _ _ _ _ _ _ _ _ _ _ _ _ _ _ _ _ _ _ _ _ _ _ _ _ _ _ _ _ _ _ _ _ _ _ _ _ _ _ _ _ _ _ _ _ _ _ _ _ _ _ _ _ _ _ _ _ _ _ _ _ _ _ _ _ _ _ _ _ _ _ _ _ _ _ _ _ _ _ _ _ _ _ _ _ _ _ _ _ _ _ _ _ _ _ _ _ _ _ _ _ _ _ _ _ _ _ _ _ _ _ _ _ _ _ _ _ _ _ _ _ _ _ _ _ _ _ _ _ _ _ _ _ _ _ _ _ _ _ _ _ _ _ _ _ _ _ _ _ _ _ _ _ _ _ _ _ _ _ _ _ _ _ _ _ _ _ _ _ _ _ _ _ _ _ _ _ _ _ _ _ _ _ _ _ _ _ _ _ _ _ _ _ _ _ _ _ _ _ _ _ _ _ _ _ _ _ _ _ _ _ _ _ _ _ _ _ _ _ _ _ _ _ _ _ _ _ _ _ _ _ _ _ _ _ _ _ _ _ _ _ _ _ _ _ _ _ _ _ _ _ _ ⟨_, runs1, r1, V1, G1, V1', G1', x', xs', rfl, HCR.out, HPB.out.below H8.out⟩
end Go.Proofs.Ythblcfhflkapmaa
