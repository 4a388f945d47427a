/-
  The law HeapPlays: the switch over a deed's number, and what is asked behind it.
  Deeds that came in.
  The law HeapPlays: a deed near what there is.
-/
import Derived.Test.YthblcfhflkapmaaK06
import Derived.Test.YthblcfhflkapmaaHpAR
import Derived.Test.YthblcfhflkapmaaOpen
namespace Go.Proofs.Ythblcfhflkapmaa
open Go Go.ChangeShapes Go.WideShapes Go.ChangeAt Go.RowKit Go.Sort
set_option linter.unusedVariables false
set_option linter.unusedSimpArgs false

noncomputable def tlD (n : Nat) : Code := dropSeqR n deedC
noncomputable def swC : Code := blockIn (dropSeqR 1 (headSeqR (tlD 6)))
theorem swC_eq : swC = .seq (headSeqR swC) switchC := by kernel_rfl
theorem switch_eq : switchC = .cond (.tmp 167) makeC (elseIn switchC) := by kernel_rfl
theorem else1_eq : elseIn switchC = .seq (headSeqR (elseIn switchC)) (.cond (.tmp 235) setC (elseIn (dropSeqR 1 (elseIn switchC)))) := by kernel_rfl
theorem else2_eq : elseIn (dropSeqR 1 (elseIn switchC)) = .seq (headSeqR (elseIn (dropSeqR 1 (elseIn switchC)))) (.cond (.tmp 301) readC collC) := by kernel_rfl
set_option maxRecDepth 100000 in
set_option maxHeartbeats 8000000 in
theorem switch_any {u0 u1 u2 u3 u4 u7 u15 u16 u17 u18 u19 u20 u21 u22 u23 u24 u25 u26 u27 u28 u29 u30 u31 u32 u33 u34 u35 u36 u37 u38 u39 u40 u41 u42 u43 u44 u45 u46 u47 u48 u49 u50 u51 u52 u53 u54 u55 u56 u57 u58 u59 u60 u61 u62 u63 u64 u65 u66 u67 u68 u69 u70 u71 u72 u73 u74 u75 u76 u77 u78 u79 u80 u81 u82 u83 u84 u85 u86 u87 u88 u89 u90 u91 u92 u93 u94 u95 u96 u97 u98 u99 u100 u101 u102 u103 u104 u105 u106 u107 u108 u109 u110 u111 u112 u113 u114 u115 u116 u117 u118 u119 u120 u121 u122 u123 u124 u125 u126 u127 u128 u129 u130 u131 u132 u133 u134 u136 u137 u138 u139 u140 u141 u142 u143 u144 u145 u146 u147 u148 u149 u150 u151 u152 u153 u154 u155 u156 u157 u158 u159 u160 u161 u162 u163 u164 u165 u166 u167 u168 u169 u170 u171 u172 u173 u174 u175 u176 u177 u178 u179 u180 u181 u182 u183 u184 u185 u186 u187 u188 u189 u190 u191 u192 u193 u194 u195 u196 u197 u198 u199 u200 u201 u202 u203 u204 u205 u206 u207 u208 u209 u210 u211 u212 u213 u214 u215 u216 u217 u218 u219 u220 u221 u222 u223 u224 u225 u226 u227 u228 u229 u230 u231 u232 u233 u234 u235 u236 u237 u238 u239 u240 u241 u242 u243 u244 u245 u246 u247 u248 u249 u250 u251 u252 u253 u254 u255 u256 u257 u258 u259 u260 u261 u262 u263 u264 u265 u266 u267 u268 u269 u270 u271 u272 u273 u274 u275 u276 u277 u278 u279 u280 u281 u282 u283 u284 u285 u286 u287 u288 u289 u290 u291 u292 u293 u294 u295 u296 u297 u298 u299 u300 u301 u302 u303 u304 u305 u306 u307 u308 u309 u310 u311 u312 u313 u314 u315 u316 u317 u318 u319 u320 u321 u322 u323 u324 u325 u326 u327 u328 u329 u330 u331 u332 u333 u334 u335 u336 u337 u338 u339 u340 u341 u342 u343 u344 u345 u346 u347 u348 u349 u350 u351 u352 u353 u354 u355 u356 u357 u358 u359 u360 u361 u362 u363 u364 u365 u366 u367 u368 u369 u370 u371 u372 u373 u374 u375 u376 u377 u378 u379 : Value} {Q : Exit → Act → World → Prop} (r : Nat) (hr : r < 6) (w0 w : World) (N hb mb i bx bw : Nat) (half runs p : Int) (L : List Ob) (rs l : List Wd) (V G V' G' x : Value) (xs : List RO) (A Al : Option Addr) (c9 c12 : Nat) (d : Dd) (u : Wd) (hP : HP w0 w N hb mb half i L runs rs V G V' G' x xs A) (hD : DS w (fun b => Nh hb V G V' G' b ∧ Nr mb x xs b) bx bw d Al l u) (hi : i ≤ 60) (hz : 1 ≤ half ∧ half ≤ 5000) (hI : I64 d.i) (hc9 : rs.length ≤ c9)
    (hQ : ∀ (v4 v11 v12 v13 v14 v15 v16 v17 v18 v19 v20 v21 v22 v23 v24 v25 v26 v27 v28 v29 v30 v31 v32 v33 v34 v35 v36 v81 v82 v83 v84 v85 v86 v87 v88 v89 v90 v91 v92 v93 v94 v95 v96 v97 v98 v99 v100 v101 v102 v103 v104 v105 v106 v107 v108 v109 v110 v111 v112 v113 v114 v115 v116 v117 v118 v119 v120 v121 v122 v123 v124 v125 v126 v127 v128 v129 v130 v131 v132 v133 v134 v135 v136 v137 v138 v139 v140 v141 v142 v143 v144 v145 v146 v147 v148 v149 v150 v151 v152 v153 v154 v155 v156 v157 v158 v159 v160 v161 v162 v163 v164 v165 v166 v167 v168 v169 v170 v171 v172 v173 v174 v175 v176 v177 v178 v179 v180 v181 v182 v183 v184 v185 v186 v187 v188 v189 v190 v191 v192 v193 v194 v195 v196 v197 v198 v199 v200 v201 v202 v203 v204 v205 v206 v207 v208 v209 v210 v211 v212 v213 v214 v215 v216 v217 v218 v219 v220 v221 v222 v223 v224 v225 v226 v227 v228 v229 v230 v231 v232 v233 v234 v235 v236 v237 v238 v239 v240 v241 v242 v243 v244 v245 v246 v247 v248 v249 v250 v251 v252 v253 v254 v255 v256 v257 v258 v259 v260 v261 v262 v263 v264 v265 v266 v267 v268 v269 v270 v271 v272 v273 v274 v275 v276 v277 v278 v279 v280 v281 v282 v283 v284 v285 v286 v287 v288 v289 v290 v291 v292 v293 v294 v295 v296 v297 v298 v299 v300 v301 v302 v303 v304 v305 v306 v307 v308 v309 v310 v311 v312 v313 v314 v315 v316 v317 v318 v319 v320 v321 v322 v323 v324 v325 v326 v327 v328 v329 v330 v331 v332 v333 v334 v335 v336 v337 v338 v339 v340 v341 v342 v343 v344 v345 v346 v347 v348 v349 v350 v351 v352 v353 v354 v355 v356 v357 v358 v359 v360 v361 v362 v363 v364 v365 v366 v367 v368 v369 v370 v371 v372 v373 v374 v375 v376 v377 v378 : Value) (w' : World) (A' : Option Addr) (n' c' : Nat), SP w0 w' N hb mb half (i + 1) A' n' c' → Q .normal ⟨#[u0, u1, u2, u3, v4, .bool true, .pointer (some ⟨hb, 0, none⟩), u7, .pointer (some ⟨mb, 0, none⟩), (.slice A' n' c'), .int .i64 (i : Nat), v11, v12, v13, v14, v15, v16, v17, v18, v19, v20, v21, v22, v23, v24, v25, v26, v27, v28, v29, v30, v31, v32, v33, v34, v35, v36, u37, u38, u39, u40, u41, u42, u43, u44, u45, u46, u47, u48, u49, u50, u51, u52, u53, u54, u55, u56, u57, u58, u59, u60, u61, u62, u63, u64, u65, u66, u67, u68, u69, u70, u71, u72, u73, u74, u75, u76, u77, u78, u79, u80, v81, v82, v83, v84, v85, v86, v87, v88, v89, v90, v91, v92, v93, v94, v95, v96, v97, v98, v99, v100, v101, v102, v103, v104, v105, v106, v107, v108, v109, v110, v111, v112, v113, v114, v115, v116, v117, v118, v119, v120, v121, v122, v123, v124, v125, v126, v127, v128, v129, v130, v131, v132, v133, v134, v135, v136, v137, v138, v139, v140, v141, v142, v143, v144, v145, v146, v147, v148, v149, v150, v151, v152, v153, v154, v155, v156, v157, v158, v159, v160, v161, v162, v163, v164, v165, v166, v167, v168, v169, v170, v171, v172, v173, v174, v175, v176, v177, v178, v179, v180, v181, v182, v183, v184, v185, v186, v187, v188, v189, v190, v191, v192, v193, v194, v195, v196, v197, v198, v199, v200, v201, v202, v203, v204, v205, v206, v207, v208, v209, v210, v211, v212, v213, v214, v215, v216, v217, v218, v219, v220, v221, v222, v223, v224, v225, v226, v227, v228, v229, v230, v231, v232, v233, v234, v235, v236, v237, v238, v239, v240, v241, v242, v243, v244, v245, v246, v247, v248, v249, v250, v251, v252, v253, v254, v255, v256, v257, v258, v259, v260, v261, v262, v263, v264, v265, v266, v267, v268, v269, v270, v271, v272, v273, v274, v275, v276, v277, v278, v279, v280, v281, v282, v283, v284, v285, v286, v287, v288, v289, v290, v291, v292, v293, v294, v295, v296, v297, v298, v299, v300, v301, v302, v303, v304, v305, v306, v307, v308, v309, v310, v311, v312, v313, v314, v315, v316, v317, v318, v319, v320, v321, v322, v323, v324, v325, v326, v327, v328, v329, v330, v331, v332, v333, v334, v335, v336, v337, v338, v339, v340, v341, v342, v343, v344, v345, v346, v347, v348, v349, v350, v351, v352, v353, v354, v355, v356, v357, v358, v359, v360, v361, v362, v363, v364, v365, v366, v367, v368, v369, v370, v371, v372, v373, v374, v375, v376, v377, v378, u379], []⟩ w') :
    Code.wp Try.prog swC Q ⟨#[u0, u1, u2, u3, u4, .bool true, .pointer (some ⟨hb, 0, none⟩), u7, .pointer (some ⟨mb, 0, none⟩), .slice A rs.length c9, .int .i64 (i : Nat), .pointer (some ⟨bx, 0, none⟩), .slice Al l.length c12, .pointer (some ⟨bw, 0, none⟩), .int .i64 p, u15, u16, u17, u18, u19, u20, u21, u22, u23, u24, u25, u26, u27, u28, u29, u30, u31, u32, u33, u34, u35, u36, u37, u38, u39, u40, u41, u42, u43, u44, u45, u46, u47, u48, u49, u50, u51, u52, u53, u54, u55, u56, u57, u58, u59, u60, u61, u62, u63, u64, u65, u66, u67, u68, u69, u70, u71, u72, u73, u74, u75, u76, u77, u78, u79, u80, u81, u82, u83, u84, u85, u86, u87, u88, u89, u90, u91, u92, u93, u94, u95, u96, u97, u98, u99, u100, u101, u102, u103, u104, u105, u106, u107, u108, u109, u110, u111, u112, u113, u114, u115, u116, u117, u118, u119, u120, u121, u122, u123, u124, u125, u126, u127, u128, u129, u130, u131, u132, u133, u134, .int .i64 (r : Nat), u136, u137, u138, u139, u140, u141, u142, u143, u144, u145, u146, u147, u148, u149, u150, u151, u152, u153, u154, u155, u156, u157, u158, u159, u160, u161, u162, u163, u164, u165, u166, u167, u168, u169, u170, u171, u172, u173, u174, u175, u176, u177, u178, u179, u180, u181, u182, u183, u184, u185, u186, u187, u188, u189, u190, u191, u192, u193, u194, u195, u196, u197, u198, u199, u200, u201, u202, u203, u204, u205, u206, u207, u208, u209, u210, u211, u212, u213, u214, u215, u216, u217, u218, u219, u220, u221, u222, u223, u224, u225, u226, u227, u228, u229, u230, u231, u232, u233, u234, u235, u236, u237, u238, u239, u240, u241, u242, u243, u244, u245, u246, u247, u248, u249, u250, u251, u252, u253, u254, u255, u256, u257, u258, u259, u260, u261, u262, u263, u264, u265, u266, u267, u268, u269, u270, u271, u272, u273, u274, u275, u276, u277, u278, u279, u280, u281, u282, u283, u284, u285, u286, u287, u288, u289, u290, u291, u292, u293, u294, u295, u296, u297, u298, u299, u300, u301, u302, u303, u304, u305, u306, u307, u308, u309, u310, u311, u312, u313, u314, u315, u316, u317, u318, u319, u320, u321, u322, u323, u324, u325, u326, u327, u328, u329, u330, u331, u332, u333, u334, u335, u336, u337, u338, u339, u340, u341, u342, u343, u344, u345, u346, u347, u348, u349, u350, u351, u352, u353, u354, u355, u356, u357, u358, u359, u360, u361, u362, u363, u364, u365, u366, u367, u368, u369, u370, u371, u372, u373, u374, u375, u376, u377, u378, u379], []⟩ w := by
  have HC1 := Lib.hid (And.intro hP (And.intro hD (And.intro hi (And.intro hz (And.intro hI hc9)))))
  have HQ := Lib.hid hQ
  clear hP hD hi hz hI hc9 hQ
  rw [swC_eq]
  refine wp_seq_k (fun K hK => ?_)
  have HK := Lib.hid hK
  clear hK
  have hcase : r = 0 ∨ r = 1 ∨ r = 2 ∨ r = 3 ∨ r = 4 ∨ r = 5 := by omega
  clear hr
  rcases hcase with rfl | rfl | rfl | hcase
  · conv => arg 2; whnf
    go_wp2_with fail
    refine HK.out _ _ ?_
    rw [switch_eq]
    refine wp_cond_true rfl ?_
    exact case_make w0 w N hb mb i bx bw half runs p L rs l V G V' G' x xs A Al c9 c12 d u HC1.out.1 HC1.out.2.1 HC1.out.2.2.1 HC1.out.2.2.2.1 HC1.out.2.2.2.2.1 HC1.out.2.2.2.2.2 HQ.out
  · conv => arg 2; whnf
    go_wp2_with fail
    refine HK.out _ _ ?_
    rw [switch_eq]
    refine wp_cond_true rfl ?_
    exact case_make w0 w N hb mb i bx bw half runs p L rs l V G V' G' x xs A Al c9 c12 d u HC1.out.1 HC1.out.2.1 HC1.out.2.2.1 HC1.out.2.2.2.1 HC1.out.2.2.2.2.1 HC1.out.2.2.2.2.2 HQ.out
  · conv => arg 2; whnf
    go_wp2_with fail
    refine HK.out _ _ ?_
    rw [switch_eq]
    refine wp_cond_true rfl ?_
    exact case_make w0 w N hb mb i bx bw half runs p L rs l V G V' G' x xs A Al c9 c12 d u HC1.out.1 HC1.out.2.1 HC1.out.2.2.1 HC1.out.2.2.2.1 HC1.out.2.2.2.2.1 HC1.out.2.2.2.2.2 HQ.out
  · rcases hcase with rfl | rfl | rfl
    · conv => arg 2; whnf
      go_wp2_with fail
      refine HK.out _ _ ?_
      rw [switch_eq]
      refine wp_cond_false rfl ?_
      rw [else1_eq]
      refine wp_seq_k (fun K2 hK2 => ?_)
      have HK2 := Lib.hid hK2
      clear hK2
      conv => arg 2; whnf
      go_wp2_with fail
      refine HK2.out _ _ ?_
      refine wp_cond_true rfl ?_
      exact case_set w0 w N hb mb i bx bw half runs p L rs l V G V' G' x xs A Al c9 c12 d u HC1.out.1 HC1.out.2.1 HC1.out.2.2.1 HC1.out.2.2.2.1 HC1.out.2.2.2.2.1 HC1.out.2.2.2.2.2 HQ.out
    · conv => arg 2; whnf
      go_wp2_with fail
      refine HK.out _ _ ?_
      rw [switch_eq]
      refine wp_cond_false rfl ?_
      rw [else1_eq]
      refine wp_seq_k (fun K2 hK2 => ?_)
      have HK2 := Lib.hid hK2
      clear hK2
      conv => arg 2; whnf
      go_wp2_with fail
      refine HK2.out _ _ ?_
      refine wp_cond_false rfl ?_
      rw [else2_eq]
      refine wp_seq_k (fun K3 hK3 => ?_)
      have HK3 := Lib.hid hK3
      clear hK3
      conv => arg 2; whnf
      go_wp2_with fail
      refine HK3.out _ _ ?_
      refine wp_cond_true rfl ?_
      exact case_read w0 w N hb mb i bx bw half runs p L rs l V G V' G' x xs A Al c9 c12 d u HC1.out.1 HC1.out.2.1 HC1.out.2.2.1 HC1.out.2.2.2.1 HC1.out.2.2.2.2.1 HC1.out.2.2.2.2.2 HQ.out
    · conv => arg 2; whnf
      go_wp2_with fail
      refine HK.out _ _ ?_
      rw [switch_eq]
      refine wp_cond_false rfl ?_
      rw [else1_eq]
      refine wp_seq_k (fun K2 hK2 => ?_)
      have HK2 := Lib.hid hK2
      clear hK2
      conv => arg 2; whnf
      go_wp2_with fail
      refine HK2.out _ _ ?_
      refine wp_cond_false rfl ?_
      rw [else2_eq]
      refine wp_seq_k (fun K3 hK3 => ?_)
      have HK3 := Lib.hid hK3
      clear hK3
      conv => arg 2; whnf
      go_wp2_with fail
      refine HK3.out _ _ ?_
      refine wp_cond_false rfl ?_
      exact case_coll w0 w N hb mb i bx bw half runs p L rs l V G V' G' x xs A Al c9 c12 d u HC1.out.1 HC1.out.2.1 HC1.out.2.2.1 HC1.out.2.2.2.1 HC1.out.2.2.2.2.1 HC1.out.2.2.2.2.2 HQ.out
theorem tlD6_eq : tlD 6 = .seq (headSeqR (tlD 6)) (dropSeqR 1 (tlD 6)) := by kernel_rfl
theorem hd6_eq : headSeqR (tlD 6) = .seq (headSeqR (headSeqR (tlD 6))) (.block 2 swC) := by kernel_rfl
set_option maxRecDepth 100000 in
set_option maxHeartbeats 8000000 in
theorem deed_switch {u0 u1 u2 u3 u4 u7 u15 u16 u17 u18 u19 u20 u21 u22 u23 u24 u25 u26 u27 u28 u29 u30 u31 u32 u33 u34 u35 u36 u37 u38 u39 u40 u41 u42 u43 u44 u45 u46 u47 u48 u49 u50 u51 u52 u53 u54 u55 u56 u57 u58 u59 u60 u61 u62 u63 u64 u65 u66 u67 u68 u69 u70 u71 u72 u73 u74 u75 u76 u77 u78 u79 u80 u81 u82 u83 u84 u85 u86 u87 u88 u89 u90 u91 u92 u93 u94 u95 u96 u97 u98 u99 u100 u101 u102 u103 u104 u105 u106 u107 u108 u109 u110 u111 u112 u113 u114 u115 u116 u117 u118 u119 u120 u121 u122 u123 u124 u125 u126 u127 u128 u129 u130 u131 u132 u133 u134 u135 u136 u137 u138 u139 u140 u141 u142 u143 u144 u145 u146 u147 u148 u149 u150 u151 u152 u153 u154 u155 u156 u157 u158 u159 u160 u161 u162 u163 u164 u165 u166 u167 u168 u169 u170 u171 u172 u173 u174 u175 u176 u177 u178 u179 u180 u181 u182 u183 u184 u185 u186 u187 u188 u189 u190 u191 u192 u193 u194 u195 u196 u197 u198 u199 u200 u201 u202 u203 u204 u205 u206 u207 u208 u209 u210 u211 u212 u213 u214 u215 u216 u217 u218 u219 u220 u221 u222 u223 u224 u225 u226 u227 u228 u229 u230 u231 u232 u233 u234 u235 u236 u237 u238 u239 u240 u241 u242 u243 u244 u245 u246 u247 u248 u249 u250 u251 u252 u253 u254 u255 u256 u257 u258 u259 u260 u261 u262 u263 u264 u265 u266 u267 u268 u269 u270 u271 u272 u273 u274 u275 u276 u277 u278 u279 u280 u281 u282 u283 u284 u285 u286 u287 u288 u289 u290 u291 u292 u293 u294 u295 u296 u297 u298 u299 u300 u301 u302 u303 u304 u305 u306 u307 u308 u309 u310 u311 u312 u313 u314 u315 u316 u317 u318 u319 u320 u321 u322 u323 u324 u325 u326 u327 u328 u329 u330 u331 u332 u333 u334 u335 u336 u337 u338 u339 u340 u341 u342 u343 u344 u345 u346 u347 u348 u349 u350 u351 u352 u353 u354 u355 u356 u357 u358 u359 u360 u361 u362 u363 u364 u365 u366 u367 u368 u369 u370 u371 u372 u373 u374 u375 u376 u377 u378 u379 : Value} {Q : Exit → Act → World → Prop} (w0 w : World) (N hb mb i bx bw : Nat) (half runs p : Int) (L : List Ob) (rs l : List Wd) (V G V' G' x : Value) (xs : List RO) (A Al : Option Addr) (c9 c12 : Nat) (d : Dd) (u : Wd) (hP : HP w0 w N hb mb half i L runs rs V G V' G' x xs A) (hD : DS w (fun b => Nh hb V G V' G' b ∧ Nr mb x xs b) bx bw d Al l u) (hi : i ≤ 60) (hz : 1 ≤ half ∧ half ≤ 5000) (hwh : I64 d.what) (hI : I64 d.i) (hc9 : rs.length ≤ c9)
    (hQ : ∀ (v4 v11 v12 v13 v14 v15 v16 v17 v18 v19 v20 v21 v22 v23 v24 v25 v26 v27 v28 v29 v30 v31 v32 v33 v34 v35 v36 v81 v82 v83 v84 v85 v86 v87 v88 v89 v90 v91 v92 v93 v94 v95 v96 v97 v98 v99 v100 v101 v102 v103 v104 v105 v106 v107 v108 v109 v110 v111 v112 v113 v114 v115 v116 v117 v118 v119 v120 v121 v122 v123 v124 v125 v126 v127 v128 v129 v130 v131 v132 v133 v134 v135 v136 v137 v138 v139 v140 v141 v142 v143 v144 v145 v146 v147 v148 v149 v150 v151 v152 v153 v154 v155 v156 v157 v158 v159 v160 v161 v162 v163 v164 v165 v166 v167 v168 v169 v170 v171 v172 v173 v174 v175 v176 v177 v178 v179 v180 v181 v182 v183 v184 v185 v186 v187 v188 v189 v190 v191 v192 v193 v194 v195 v196 v197 v198 v199 v200 v201 v202 v203 v204 v205 v206 v207 v208 v209 v210 v211 v212 v213 v214 v215 v216 v217 v218 v219 v220 v221 v222 v223 v224 v225 v226 v227 v228 v229 v230 v231 v232 v233 v234 v235 v236 v237 v238 v239 v240 v241 v242 v243 v244 v245 v246 v247 v248 v249 v250 v251 v252 v253 v254 v255 v256 v257 v258 v259 v260 v261 v262 v263 v264 v265 v266 v267 v268 v269 v270 v271 v272 v273 v274 v275 v276 v277 v278 v279 v280 v281 v282 v283 v284 v285 v286 v287 v288 v289 v290 v291 v292 v293 v294 v295 v296 v297 v298 v299 v300 v301 v302 v303 v304 v305 v306 v307 v308 v309 v310 v311 v312 v313 v314 v315 v316 v317 v318 v319 v320 v321 v322 v323 v324 v325 v326 v327 v328 v329 v330 v331 v332 v333 v334 v335 v336 v337 v338 v339 v340 v341 v342 v343 v344 v345 v346 v347 v348 v349 v350 v351 v352 v353 v354 v355 v356 v357 v358 v359 v360 v361 v362 v363 v364 v365 v366 v367 v368 v369 v370 v371 v372 v373 v374 v375 v376 v377 v378 : Value) (w' : World) (A' : Option Addr) (n' c' : Nat), SP w0 w' N hb mb half (i + 1) A' n' c' → Q .normal ⟨#[u0, u1, u2, u3, v4, .bool true, .pointer (some ⟨hb, 0, none⟩), u7, .pointer (some ⟨mb, 0, none⟩), (.slice A' n' c'), .int .i64 (i : Nat), v11, v12, v13, v14, v15, v16, v17, v18, v19, v20, v21, v22, v23, v24, v25, v26, v27, v28, v29, v30, v31, v32, v33, v34, v35, v36, u37, u38, u39, u40, u41, u42, u43, u44, u45, u46, u47, u48, u49, u50, u51, u52, u53, u54, u55, u56, u57, u58, u59, u60, u61, u62, u63, u64, u65, u66, u67, u68, u69, u70, u71, u72, u73, u74, u75, u76, u77, u78, u79, u80, v81, v82, v83, v84, v85, v86, v87, v88, v89, v90, v91, v92, v93, v94, v95, v96, v97, v98, v99, v100, v101, v102, v103, v104, v105, v106, v107, v108, v109, v110, v111, v112, v113, v114, v115, v116, v117, v118, v119, v120, v121, v122, v123, v124, v125, v126, v127, v128, v129, v130, v131, v132, v133, v134, v135, v136, v137, v138, v139, v140, v141, v142, v143, v144, v145, v146, v147, v148, v149, v150, v151, v152, v153, v154, v155, v156, v157, v158, v159, v160, v161, v162, v163, v164, v165, v166, v167, v168, v169, v170, v171, v172, v173, v174, v175, v176, v177, v178, v179, v180, v181, v182, v183, v184, v185, v186, v187, v188, v189, v190, v191, v192, v193, v194, v195, v196, v197, v198, v199, v200, v201, v202, v203, v204, v205, v206, v207, v208, v209, v210, v211, v212, v213, v214, v215, v216, v217, v218, v219, v220, v221, v222, v223, v224, v225, v226, v227, v228, v229, v230, v231, v232, v233, v234, v235, v236, v237, v238, v239, v240, v241, v242, v243, v244, v245, v246, v247, v248, v249, v250, v251, v252, v253, v254, v255, v256, v257, v258, v259, v260, v261, v262, v263, v264, v265, v266, v267, v268, v269, v270, v271, v272, v273, v274, v275, v276, v277, v278, v279, v280, v281, v282, v283, v284, v285, v286, v287, v288, v289, v290, v291, v292, v293, v294, v295, v296, v297, v298, v299, v300, v301, v302, v303, v304, v305, v306, v307, v308, v309, v310, v311, v312, v313, v314, v315, v316, v317, v318, v319, v320, v321, v322, v323, v324, v325, v326, v327, v328, v329, v330, v331, v332, v333, v334, v335, v336, v337, v338, v339, v340, v341, v342, v343, v344, v345, v346, v347, v348, v349, v350, v351, v352, v353, v354, v355, v356, v357, v358, v359, v360, v361, v362, v363, v364, v365, v366, v367, v368, v369, v370, v371, v372, v373, v374, v375, v376, v377, v378, u379], []⟩ w') :
    Code.wp Try.prog (tlD 6) Q ⟨#[u0, u1, u2, u3, u4, .bool true, .pointer (some ⟨hb, 0, none⟩), u7, .pointer (some ⟨mb, 0, none⟩), .slice A rs.length c9, .int .i64 (i : Nat), .pointer (some ⟨bx, 0, none⟩), .slice Al l.length c12, .pointer (some ⟨bw, 0, none⟩), .int .i64 p, u15, u16, u17, u18, u19, u20, u21, u22, u23, u24, u25, u26, u27, u28, u29, u30, u31, u32, u33, u34, u35, u36, u37, u38, u39, u40, u41, u42, u43, u44, u45, u46, u47, u48, u49, u50, u51, u52, u53, u54, u55, u56, u57, u58, u59, u60, u61, u62, u63, u64, u65, u66, u67, u68, u69, u70, u71, u72, u73, u74, u75, u76, u77, u78, u79, u80, u81, u82, u83, u84, u85, u86, u87, u88, u89, u90, u91, u92, u93, u94, u95, u96, u97, u98, u99, u100, u101, u102, u103, u104, u105, u106, u107, u108, u109, u110, u111, u112, u113, u114, u115, u116, u117, u118, u119, u120, u121, u122, u123, u124, u125, u126, u127, u128, u129, u130, u131, u132, u133, u134, u135, u136, u137, u138, u139, u140, u141, u142, u143, u144, u145, u146, u147, u148, u149, u150, u151, u152, u153, u154, u155, u156, u157, u158, u159, u160, u161, u162, u163, u164, u165, u166, u167, u168, u169, u170, u171, u172, u173, u174, u175, u176, u177, u178, u179, u180, u181, u182, u183, u184, u185, u186, u187, u188, u189, u190, u191, u192, u193, u194, u195, u196, u197, u198, u199, u200, u201, u202, u203, u204, u205, u206, u207, u208, u209, u210, u211, u212, u213, u214, u215, u216, u217, u218, u219, u220, u221, u222, u223, u224, u225, u226, u227, u228, u229, u230, u231, u232, u233, u234, u235, u236, u237, u238, u239, u240, u241, u242, u243, u244, u245, u246, u247, u248, u249, u250, u251, u252, u253, u254, u255, u256, u257, u258, u259, u260, u261, u262, u263, u264, u265, u266, u267, u268, u269, u270, u271, u272, u273, u274, u275, u276, u277, u278, u279, u280, u281, u282, u283, u284, u285, u286, u287, u288, u289, u290, u291, u292, u293, u294, u295, u296, u297, u298, u299, u300, u301, u302, u303, u304, u305, u306, u307, u308, u309, u310, u311, u312, u313, u314, u315, u316, u317, u318, u319, u320, u321, u322, u323, u324, u325, u326, u327, u328, u329, u330, u331, u332, u333, u334, u335, u336, u337, u338, u339, u340, u341, u342, u343, u344, u345, u346, u347, u348, u349, u350, u351, u352, u353, u354, u355, u356, u357, u358, u359, u360, u361, u362, u363, u364, u365, u366, u367, u368, u369, u370, u371, u372, u373, u374, u375, u376, u377, u378, u379], []⟩ w := by
  have hlt := pickN_lt d.what 6 (by omega)
  have HPK := Lib.hid (pick_val d.what 6 hwh ⟨by omega, by omega⟩ w)
  obtain ⟨r, hr⟩ : ∃ r, pickN d.what 6 = r := ⟨_, rfl⟩
  rw [hr] at HPK hlt
  have HR := Lib.hid (show r < 6 by omega)
  have HC1 := Lib.hid (And.intro hP (And.intro hD (And.intro hi (And.intro hz (And.intro hI hc9)))))
  have HQ := Lib.hid hQ
  obtain ⟨e0, e1, e2, e3, e4, e5, e6, e7⟩ := cells8 hD.cx
  clear hP hD hi hz hI hc9 hQ hwh hlt hr e1 e2 e3 e4 e5 e6 e7
  rw [tlD6_eq]
  refine wp_seq_k (fun K1 hK1 => ?_)
  have HK1 := Lib.hid hK1
  clear hK1
  rw [hd6_eq]
  refine wp_seq_k (fun K2 hK2 => ?_)
  have HK2 := Lib.hid hK2
  clear hK2
  conv => arg 2; whnf
  go_wp2_with (go_at_call 8; (with_reducible refine HPK.out.mono ?_); rintro e w2 ⟨rfl, rfl⟩; dsimp only)
  refine HK2.out _ _ ?_
  refine wp_block ?_
  refine switch_any r HR.out w0 _ N hb mb i bx bw half runs p L rs l V G V' G' x xs A Al c9 c12 d u HC1.out.1 HC1.out.2.1 HC1.out.2.2.1 HC1.out.2.2.2.1 HC1.out.2.2.2.2.1 HC1.out.2.2.2.2.2 (fun v4 v11 v12 v13 v14 v15 v16 v17 v18 v19 v20 v21 v22 v23 v24 v25 v26 v27 v28 v29 v30 v31 v32 v33 v34 v35 v36 v81 v82 v83 v84 v85 v86 v87 v88 v89 v90 v91 v92 v93 v94 v95 v96 v97 v98 v99 v100 v101 v102 v103 v104 v105 v106 v107 v108 v109 v110 v111 v112 v113 v114 v115 v116 v117 v118 v119 v120 v121 v122 v123 v124 v125 v126 v127 v128 v129 v130 v131 v132 v133 v134 v135 v136 v137 v138 v139 v140 v141 v142 v143 v144 v145 v146 v147 v148 v149 v150 v151 v152 v153 v154 v155 v156 v157 v158 v159 v160 v161 v162 v163 v164 v165 v166 v167 v168 v169 v170 v171 v172 v173 v174 v175 v176 v177 v178 v179 v180 v181 v182 v183 v184 v185 v186 v187 v188 v189 v190 v191 v192 v193 v194 v195 v196 v197 v198 v199 v200 v201 v202 v203 v204 v205 v206 v207 v208 v209 v210 v211 v212 v213 v214 v215 v216 v217 v218 v219 v220 v221 v222 v223 v224 v225 v226 v227 v228 v229 v230 v231 v232 v233 v234 v235 v236 v237 v238 v239 v240 v241 v242 v243 v244 v245 v246 v247 v248 v249 v250 v251 v252 v253 v254 v255 v256 v257 v258 v259 v260 v261 v262 v263 v264 v265 v266 v267 v268 v269 v270 v271 v272 v273 v274 v275 v276 v277 v278 v279 v280 v281 v282 v283 v284 v285 v286 v287 v288 v289 v290 v291 v292 v293 v294 v295 v296 v297 v298 v299 v300 v301 v302 v303 v304 v305 v306 v307 v308 v309 v310 v311 v312 v313 v314 v315 v316 v317 v318 v319 v320 v321 v322 v323 v324 v325 v326 v327 v328 v329 v330 v331 v332 v333 v334 v335 v336 v337 v338 v339 v340 v341 v342 v343 v344 v345 v346 v347 v348 v349 v350 v351 v352 v353 v354 v355 v356 v357 v358 v359 v360 v361 v362 v363 v364 v365 v366 v367 v368 v369 v370 v371 v372 v373 v374 v375 v376 v377 v378 w' A' n' c' hSP => ?_)
  refine HK1.out _ _ ?_
  obtain ⟨L', runs', rs', V1, G1, V1', G1', x', xs', hn, hc, hP'⟩ := hSP
  have hsm := hP'.small HC1.out.2.2.2.1
  have HSAME := Lib.hid (sameH_any hP'.ch hP'.rh hP'.wf (by omega) (by omega))
  have HP' := Lib.hid (And.intro hn (And.intro hc hP'))
  clear hn hc hP' hsm
  conv => arg 2; whnf
  go_wp2_with (go_at_call 23; (with_reducible refine HSAME.out.mono ?_); rintro e w3 ⟨rfl, hb3⟩; have HB3 := Lib.hid hb3; clear hb3; dsimp only)
  exact HQ.out _ _ _ _ _ _ _ _ _ _ _ _ _ _ _ _ _ _ _ _ _ _ _ _ _ _ _ _ _ _ _ _ _ _ _ _ _ _ _ _ _ _ _ _ _ _ _ _ _ _ _ _ _ _ _ _ _ _ _ _ _ _ _ _ _ _ _ _ _ _ _ _ _ _ _ _ _ _ _ _ _ _ _ _ _ _ _ _ _ _ _ _ _ _ _ _ _ _ _ _ _ _ _ _ _ _ _ _ _ _ _ _ _ _ _ _ _ _ _ _ _ _ _ _ _ _ _ _ _ _ _ _ _ _ _ _ _ _ _ _ _ _ _ _ _ _ _ _ _ _ _ _ _ _ _ _ _ _ _ _ _ _ _ _ _ _ _ _ _ _ _ _ _ _ _ _ _ _ _ _ _ _ _ _ _ _ _ _ _ _ _ _ _ _ _ _ _ _ _ _ _ _ _ _ _ _ _ _ _ _ _ _ _ _ _ _ _ _ _ _ _ _ _ _ _ _ _ _ _ _ _ _ _ _ _ _ _ _ _ _ _ _ _ _ _ _ _ _ _ _ _ _ _ _ _ _ _ _ _ _ _ _ _ _ _ _ _ _ _ _ _ _ _ _ _ _ _ _ _ _ _ _ _ _ _ _ _ _ _ _ _ _ _ _ _ _ _ _ _ _ _ _ _ _ _ _ _ _ _ _ _ _ _ _ _ _ _ _ _ _ _ _ _ _ _ _ _ _ _ ⟨L', runs', rs', V1, G1, V1', G1', x', xs', HP'.out.1, HP'.out.2.1, HP'.out.2.2.below HB3.out⟩
end Go.Proofs.Ythblcfhflkapmaa

namespace Go.Proofs.Ythblcfhflkapmaa
open Go Go.ChangeShapes Go.WideShapes Go.ChangeAt Go.RowKit Go.Sort
set_option linter.unusedVariables false
set_option linter.unusedSimpArgs false

/-- A deed's numbers are numbers of the machine. -/
structure Dd.Ok (d : Dd) : Prop where
  what : I64 d.what
  place : I64 d.place
  i : I64 d.i
  v : I64 d.u.v
section
variable {H : Type} {enc : TypeId × Value → H} {W : World} {base : Nat} {sp : Nat → Bool} {held : Bool}
theorem wf_I64 {m : Int} (h : (Lit.int .i64 m).wf = true) : I64 m := by
  simpa [I64, Lit.wf, IntKind.min, IntKind.max, IntKind.signed, IntKind.bits] using h
theorem wc_flat (l : List Wd) : l.flatMap (fun p => [Value.bool p.ptr, Value.int .i64 p.v]) = wcells l := by
  induction l with
  | nil => rfl
  | cons x r ih => simp only [List.flatMap_cons, ih]; rfl
theorem open_wds {fuel : Nat} {cs : List Value} {x : DataW H × List MemPlace} (hf : DataW.trod enc Try.prog W base sp held fuel 34 cs = some x) :
    ∃ (A : Option Addr) (c : Nat) (l : List Wd), cs = [.slice A l.length c] ∧ Rd W 2 A l.length (wcells l) ∧ ∀ u ∈ l, I64 u.v := by
  obtain ⟨A, n, c, l, h1, h2, h3, h4, h5, _, h6⟩ := open_row (α := Wd) (cells := fun p => [.bool p.ptr, .int .i64 p.v]) (good := fun p => I64 p.v) Try.underlying34 (by kernel_rfl : Try.prog.cellsOf 36 = 2) (fun _ => rfl) (by omega)
    (fun n cs x hx => by
      obtain ⟨y0, y1, k, _, hl, e0, e1⟩ := trod_struct2 Try.underlying36 hx
      have hC : Try.prog.cellsOf 36 = 2 := by kernel_rfl
      have hCb : Try.prog.cellsOf 4 = 1 := by kernel_rfl
      have hCi : Try.prog.cellsOf 2 = 1 := by kernel_rfl
      rw [hC] at hl
      match cs, hl with
      | [c0, c1], _ =>
        simp [hCb] at e0
        simp [hCi] at e1
        obtain ⟨b, hb, _⟩ := DataW.trod_bool Try.underlying4 e0
        obtain ⟨m, hm, _, hw⟩ := DataW.trod_int Try.underlying2 e1
        simp only [List.cons.injEq, and_true] at hb hm
        subst hb
        subst hm
        exact ⟨⟨b, m⟩, rfl, wf_I64 hw⟩) hf
  subst h4
  exact ⟨A, c, l, h1, by rw [← wc_flat]; exact h5, h6⟩
theorem open_wd {fuel : Nat} {cs : List Value} {x : DataW H × List MemPlace} (hx : DataW.trod enc Try.prog W base sp held fuel 36 cs = some x) : ∃ u : Wd, cs = [.bool u.ptr, .int .i64 u.v] ∧ I64 u.v := by
  obtain ⟨y0, y1, k, _, hl, e0, e1⟩ := trod_struct2 Try.underlying36 hx
  have hC : Try.prog.cellsOf 36 = 2 := by kernel_rfl
  have hCb : Try.prog.cellsOf 4 = 1 := by kernel_rfl
  have hCi : Try.prog.cellsOf 2 = 1 := by kernel_rfl
  rw [hC] at hl
  match cs, hl with
  | [c0, c1], _ =>
    simp [hCb] at e0
    simp [hCi] at e1
    obtain ⟨b, hb, _⟩ := DataW.trod_bool Try.underlying4 e0
    obtain ⟨m, hm, _, hw⟩ := DataW.trod_int Try.underlying2 e1
    simp only [List.cons.injEq, and_true] at hb hm
    subst hb
    subst hm
    exact ⟨⟨b, m⟩, rfl, wf_I64 hw⟩
set_option maxRecDepth 100000 in
theorem open_deed {fuel : Nat} {cs : List Value} {x : DataW H × List MemPlace} (h : DataW.trod enc Try.prog W base sp held fuel 38 cs = some x) :
    ∃ d : Dd, d.cells = cs ∧ Rd W 2 d.A d.l.length (wcells d.l) ∧ (∀ u ∈ d.l, I64 u.v) ∧ d.Ok := by
  obtain ⟨xs, n, _, hx, hl, hlen, hg⟩ := DataW.trod_struct Try.underlying38 h
  have hC : Try.prog.cellsOf 38 = 8 := by kernel_rfl
  have hCb : Try.prog.cellsOf 4 = 1 := by kernel_rfl
  have hCi : Try.prog.cellsOf 3 = 1 := by kernel_rfl
  have hCw : Try.prog.cellsOf 36 = 2 := by kernel_rfl
  have hCs : Try.prog.cellsOf 34 = 1 := by kernel_rfl
  rw [hC] at hl
  match cs, hl, xs, hlen with
  | [c0, c1, c2, c3, c4, c5, c6, c7], _, [y0, y1, y2, y3, y4, y5, y6], _ =>
    have e0 := hg 0 _ rfl
    have e1 := hg 1 _ rfl
    have e2 := hg 2 _ rfl
    have e3 := hg 3 _ rfl
    have e4 := hg 4 _ rfl
    have e5 := hg 5 _ rfl
    have e6 := hg 6 _ rfl
    simp [hCi] at e0 e1 e2 e3
    simp [hCb] at e4
    simp [hCw] at e5
    simp [hCs] at e6
    obtain ⟨a0, h0, _, w0⟩ := DataW.trod_int Try.underlying3 e0
    obtain ⟨a1, h1, _, _⟩ := DataW.trod_int Try.underlying3 e1
    obtain ⟨a2, h2, _, w2⟩ := DataW.trod_int Try.underlying3 e2
    obtain ⟨a3, h3, _, w3⟩ := DataW.trod_int Try.underlying3 e3
    obtain ⟨a4, h4, _⟩ := DataW.trod_bool Try.underlying4 e4
    obtain ⟨u, h5, w5⟩ := open_wd e5
    obtain ⟨A, c, l, h6, r1, r2⟩ := open_wds e6
    simp only [List.cons.injEq, and_true] at h0 h1 h2 h3 h4 h5 h6
    obtain ⟨rfl, rfl⟩ := h5
    subst h0 h1 h2 h3 h4 h6
    exact ⟨⟨a0, a1, a2, a3, a4, u, A, c, l⟩, rfl, r1, r2, ⟨wf_I64 w0, wf_I64 w2, wf_I64 w3, w5⟩⟩
theorem dd_len (d : Dd) : d.cells.length = 8 := rfl
theorem open_deeds {fuel : Nat} {cs : List Value} {x : DataW H × List MemPlace} (hf : DataW.trod enc Try.prog W base sp held fuel 22 cs = some x) :
    ∃ (A : Option Addr) (c : Nat) (l : List Dd), cs = [.slice A l.length c] ∧ DR W A l ∧ ∀ d ∈ l, d.Ok := by
  obtain ⟨A, n, c, l, h1, h2, h3, h4, h5, _, h6⟩ := open_row (α := Dd) (cells := Dd.cells) (good := fun d => Rd W 2 d.A d.l.length (wcells d.l) ∧ (∀ u ∈ d.l, I64 u.v) ∧ d.Ok) Try.underlying22 (by kernel_rfl : Try.prog.cellsOf 38 = 8) dd_len (by omega)
    (fun n cs x hx => open_deed hx) hf
  subst h4
  exact ⟨A, c, l, h1, ⟨h5, fun d hd => (h6 d hd).1, fun d hd => (h6 d hd).2.1⟩, fun d hd => (h6 d hd).2.2⟩
end
end Go.Proofs.Ythblcfhflkapmaa

namespace Go.Proofs.Ythblcfhflkapmaa
open Go Go.ChangeShapes Go.WideShapes Go.ChangeAt Go.RowKit Go.Sort
set_option linter.unusedVariables false
set_option linter.unusedSimpArgs false

theorem HP.touch {w0 w w' : World} {N hb mb i q : Nat} {half runs : Int} {L : List Ob} {V G V' G' x : Value} {xs : List RO} {A : Option Addr} {rs : List Wd} (h : HP w0 w N hb mb half i L runs rs V G V' G' x xs A) (hk : ∀ b, b ≠ q → b < w.heap.size → w'.heap[b]? = w.heap[b]?) (hq : Nh hb V G V' G' q ∧ Nr mb x xs q) (hA : ∀ a, A = some a → a.block < q) (hs : w.heap.size ≤ w'.heap.size) (hb' : Below N w w') : HP w0 w' N hb mb half i L runs rs V G V' G' x xs A :=
  ⟨h.ch.keep (fun b hn hl => hk b (fun e => hn (e ▸ hq.1)) hl), h.rh.keep (fun b hn hl => hk b (fun e => hn (e ▸ hq.2)) hl), h.wf, h.sz, h.ru, h.ln, fun b hl => by
    rcases Nat.lt_or_ge b w.heap.size with c | c
    · exact h.dj b c
    · exact .inl (h.ch.fresh c), h.rt.keepB (fun a ha _ hl => hk _ (by have := hA a ha; omega) hl), fun a ha => ⟨Nat.lt_of_lt_of_le (h.ra a ha).1 hs, (h.ra a ha).2⟩, h.fn, h.bl.trans hb', Nat.le_trans h.le hs⟩
theorem tlD5_eq : tlD 5 = .seq (headSeqR (tlD 5)) (tlD 6) := by kernel_rfl
set_option maxRecDepth 100000 in
set_option maxHeartbeats 8000000 in
theorem deed_near {u0 u1 u2 u3 u4 u7 u15 u16 u17 u18 u19 u20 u21 u22 u23 u24 u25 u26 u27 u28 u29 u30 u31 u32 u33 u34 u35 u36 u37 u38 u39 u40 u41 u42 u43 u44 u45 u46 u47 u48 u49 u50 u51 u52 u53 u54 u55 u56 u57 u58 u59 u60 u61 u62 u63 u64 u65 u66 u67 u68 u69 u70 u71 u72 u73 u74 u75 u76 u77 u78 u79 u80 u81 u82 u83 u84 u85 u86 u87 u88 u89 u90 u91 u92 u93 u94 u95 u96 u97 u98 u99 u100 u101 u102 u103 u104 u105 u106 u107 u108 u109 u110 u111 u112 u113 u114 u115 u116 u117 u118 u119 u120 u121 u122 u123 u124 u125 u126 u127 u128 u129 u130 u131 u132 u133 u134 u135 u136 u137 u138 u139 u140 u141 u142 u143 u144 u145 u146 u147 u148 u149 u150 u151 u152 u153 u154 u155 u156 u157 u158 u159 u160 u161 u162 u163 u164 u165 u166 u167 u168 u169 u170 u171 u172 u173 u174 u175 u176 u177 u178 u179 u180 u181 u182 u183 u184 u185 u186 u187 u188 u189 u190 u191 u192 u193 u194 u195 u196 u197 u198 u199 u200 u201 u202 u203 u204 u205 u206 u207 u208 u209 u210 u211 u212 u213 u214 u215 u216 u217 u218 u219 u220 u221 u222 u223 u224 u225 u226 u227 u228 u229 u230 u231 u232 u233 u234 u235 u236 u237 u238 u239 u240 u241 u242 u243 u244 u245 u246 u247 u248 u249 u250 u251 u252 u253 u254 u255 u256 u257 u258 u259 u260 u261 u262 u263 u264 u265 u266 u267 u268 u269 u270 u271 u272 u273 u274 u275 u276 u277 u278 u279 u280 u281 u282 u283 u284 u285 u286 u287 u288 u289 u290 u291 u292 u293 u294 u295 u296 u297 u298 u299 u300 u301 u302 u303 u304 u305 u306 u307 u308 u309 u310 u311 u312 u313 u314 u315 u316 u317 u318 u319 u320 u321 u322 u323 u324 u325 u326 u327 u328 u329 u330 u331 u332 u333 u334 u335 u336 u337 u338 u339 u340 u341 u342 u343 u344 u345 u346 u347 u348 u349 u350 u351 u352 u353 u354 u355 u356 u357 u358 u359 u360 u361 u362 u363 u364 u365 u366 u367 u368 u369 u370 u371 u372 u373 u374 u375 u376 u377 u378 u379 : Value} {Q : Exit → Act → World → Prop} (w0 w : World) (N hb mb i bx bw : Nat) (half runs p : Int) (L : List Ob) (rs l : List Wd) (V G V' G' x : Value) (xs : List RO) (A Al : Option Addr) (c9 c12 : Nat) (d : Dd) (u : Wd) (hP : HP w0 w N hb mb half i L runs rs V G V' G' x xs A) (hD : DS w (fun b => Nh hb V G V' G' b ∧ Nr mb x xs b) bx bw d Al l u) (hi : i ≤ 60) (hz : 1 ≤ half ∧ half ≤ 5000) (hwh : I64 d.what) (hI : I64 d.i) (hc9 : rs.length ≤ c9)
    (hQ : ∀ (v4 v11 v12 v13 v14 v15 v16 v17 v18 v19 v20 v21 v22 v23 v24 v25 v26 v27 v28 v29 v30 v31 v32 v33 v34 v35 v36 v81 v82 v83 v84 v85 v86 v87 v88 v89 v90 v91 v92 v93 v94 v95 v96 v97 v98 v99 v100 v101 v102 v103 v104 v105 v106 v107 v108 v109 v110 v111 v112 v113 v114 v115 v116 v117 v118 v119 v120 v121 v122 v123 v124 v125 v126 v127 v128 v129 v130 v131 v132 v133 v134 v135 v136 v137 v138 v139 v140 v141 v142 v143 v144 v145 v146 v147 v148 v149 v150 v151 v152 v153 v154 v155 v156 v157 v158 v159 v160 v161 v162 v163 v164 v165 v166 v167 v168 v169 v170 v171 v172 v173 v174 v175 v176 v177 v178 v179 v180 v181 v182 v183 v184 v185 v186 v187 v188 v189 v190 v191 v192 v193 v194 v195 v196 v197 v198 v199 v200 v201 v202 v203 v204 v205 v206 v207 v208 v209 v210 v211 v212 v213 v214 v215 v216 v217 v218 v219 v220 v221 v222 v223 v224 v225 v226 v227 v228 v229 v230 v231 v232 v233 v234 v235 v236 v237 v238 v239 v240 v241 v242 v243 v244 v245 v246 v247 v248 v249 v250 v251 v252 v253 v254 v255 v256 v257 v258 v259 v260 v261 v262 v263 v264 v265 v266 v267 v268 v269 v270 v271 v272 v273 v274 v275 v276 v277 v278 v279 v280 v281 v282 v283 v284 v285 v286 v287 v288 v289 v290 v291 v292 v293 v294 v295 v296 v297 v298 v299 v300 v301 v302 v303 v304 v305 v306 v307 v308 v309 v310 v311 v312 v313 v314 v315 v316 v317 v318 v319 v320 v321 v322 v323 v324 v325 v326 v327 v328 v329 v330 v331 v332 v333 v334 v335 v336 v337 v338 v339 v340 v341 v342 v343 v344 v345 v346 v347 v348 v349 v350 v351 v352 v353 v354 v355 v356 v357 v358 v359 v360 v361 v362 v363 v364 v365 v366 v367 v368 v369 v370 v371 v372 v373 v374 v375 v376 v377 v378 : Value) (w' : World) (A' : Option Addr) (n' c' : Nat), SP w0 w' N hb mb half (i + 1) A' n' c' → Q .normal ⟨#[u0, u1, u2, u3, v4, .bool true, .pointer (some ⟨hb, 0, none⟩), u7, .pointer (some ⟨mb, 0, none⟩), (.slice A' n' c'), .int .i64 (i : Nat), v11, v12, v13, v14, v15, v16, v17, v18, v19, v20, v21, v22, v23, v24, v25, v26, v27, v28, v29, v30, v31, v32, v33, v34, v35, v36, u37, u38, u39, u40, u41, u42, u43, u44, u45, u46, u47, u48, u49, u50, u51, u52, u53, u54, u55, u56, u57, u58, u59, u60, u61, u62, u63, u64, u65, u66, u67, u68, u69, u70, u71, u72, u73, u74, u75, u76, u77, u78, u79, u80, v81, v82, v83, v84, v85, v86, v87, v88, v89, v90, v91, v92, v93, v94, v95, v96, v97, v98, v99, v100, v101, v102, v103, v104, v105, v106, v107, v108, v109, v110, v111, v112, v113, v114, v115, v116, v117, v118, v119, v120, v121, v122, v123, v124, v125, v126, v127, v128, v129, v130, v131, v132, v133, v134, v135, v136, v137, v138, v139, v140, v141, v142, v143, v144, v145, v146, v147, v148, v149, v150, v151, v152, v153, v154, v155, v156, v157, v158, v159, v160, v161, v162, v163, v164, v165, v166, v167, v168, v169, v170, v171, v172, v173, v174, v175, v176, v177, v178, v179, v180, v181, v182, v183, v184, v185, v186, v187, v188, v189, v190, v191, v192, v193, v194, v195, v196, v197, v198, v199, v200, v201, v202, v203, v204, v205, v206, v207, v208, v209, v210, v211, v212, v213, v214, v215, v216, v217, v218, v219, v220, v221, v222, v223, v224, v225, v226, v227, v228, v229, v230, v231, v232, v233, v234, v235, v236, v237, v238, v239, v240, v241, v242, v243, v244, v245, v246, v247, v248, v249, v250, v251, v252, v253, v254, v255, v256, v257, v258, v259, v260, v261, v262, v263, v264, v265, v266, v267, v268, v269, v270, v271, v272, v273, v274, v275, v276, v277, v278, v279, v280, v281, v282, v283, v284, v285, v286, v287, v288, v289, v290, v291, v292, v293, v294, v295, v296, v297, v298, v299, v300, v301, v302, v303, v304, v305, v306, v307, v308, v309, v310, v311, v312, v313, v314, v315, v316, v317, v318, v319, v320, v321, v322, v323, v324, v325, v326, v327, v328, v329, v330, v331, v332, v333, v334, v335, v336, v337, v338, v339, v340, v341, v342, v343, v344, v345, v346, v347, v348, v349, v350, v351, v352, v353, v354, v355, v356, v357, v358, v359, v360, v361, v362, v363, v364, v365, v366, v367, v368, v369, v370, v371, v372, v373, v374, v375, v376, v377, v378, u379], []⟩ w') :
    (∀ a, A = some a → a.block < bw) → bx < bw → N ≤ bw → I64 p → I64 u.v → (∀ v ∈ l, I64 v.v) → Code.wp Try.prog (tlD 5) Q ⟨#[u0, u1, u2, u3, u4, .bool true, .pointer (some ⟨hb, 0, none⟩), u7, .pointer (some ⟨mb, 0, none⟩), .slice A rs.length c9, .int .i64 (i : Nat), .pointer (some ⟨bx, 0, none⟩), .slice Al l.length c12, .pointer (some ⟨bw, 0, none⟩), .int .i64 p, u15, u16, u17, u18, u19, u20, u21, u22, u23, u24, u25, u26, u27, u28, u29, u30, u31, u32, u33, u34, u35, u36, u37, u38, u39, u40, u41, u42, u43, u44, u45, u46, u47, u48, u49, u50, u51, u52, u53, u54, u55, u56, u57, u58, u59, u60, u61, u62, u63, u64, u65, u66, u67, u68, u69, u70, u71, u72, u73, u74, u75, u76, u77, u78, u79, u80, u81, u82, u83, u84, u85, u86, u87, u88, u89, u90, u91, u92, u93, u94, u95, u96, u97, u98, u99, u100, u101, u102, u103, u104, u105, u106, u107, u108, u109, u110, u111, u112, u113, u114, u115, u116, u117, u118, u119, u120, u121, u122, u123, u124, u125, u126, u127, u128, u129, u130, u131, u132, u133, u134, u135, u136, u137, u138, u139, u140, u141, u142, u143, u144, u145, u146, u147, u148, u149, u150, u151, u152, u153, u154, u155, u156, u157, u158, u159, u160, u161, u162, u163, u164, u165, u166, u167, u168, u169, u170, u171, u172, u173, u174, u175, u176, u177, u178, u179, u180, u181, u182, u183, u184, u185, u186, u187, u188, u189, u190, u191, u192, u193, u194, u195, u196, u197, u198, u199, u200, u201, u202, u203, u204, u205, u206, u207, u208, u209, u210, u211, u212, u213, u214, u215, u216, u217, u218, u219, u220, u221, u222, u223, u224, u225, u226, u227, u228, u229, u230, u231, u232, u233, u234, u235, u236, u237, u238, u239, u240, u241, u242, u243, u244, u245, u246, u247, u248, u249, u250, u251, u252, u253, u254, u255, u256, u257, u258, u259, u260, u261, u262, u263, u264, u265, u266, u267, u268, u269, u270, u271, u272, u273, u274, u275, u276, u277, u278, u279, u280, u281, u282, u283, u284, u285, u286, u287, u288, u289, u290, u291, u292, u293, u294, u295, u296, u297, u298, u299, u300, u301, u302, u303, u304, u305, u306, u307, u308, u309, u310, u311, u312, u313, u314, u315, u316, u317, u318, u319, u320, u321, u322, u323, u324, u325, u326, u327, u328, u329, u330, u331, u332, u333, u334, u335, u336, u337, u338, u339, u340, u341, u342, u343, u344, u345, u346, u347, u348, u349, u350, u351, u352, u353, u354, u355, u356, u357, u358, u359, u360, u361, u362, u363, u364, u365, u366, u367, u368, u369, u370, u371, u372, u373, u374, u375, u376, u377, u378, u379], []⟩ w := by
  intro hAb hbb hNb hp huv hlv
  obtain ⟨hs, hll⟩ := hP.small hz
  obtain ⟨e0, e1, e2, e3, e4, e5, e6, e7⟩ := cells8 hD.cx
  have HC1 := Lib.hid (And.intro hP (And.intro hD (And.intro hi (And.intro hz (And.intro hI hc9)))))
  have HW1 := Lib.hid hwh
  have HQ := Lib.hid hQ
  rw [tlD5_eq]
  refine wp_seq_k (fun K1 hK1 => ?_)
  have HK1 := Lib.hid hK1
  clear hK1
  rcases Bool.eq_false_or_eq_true d.near with hn | hn
  · rw [hn] at e4
    have HN1 := Lib.hid (near_any hP.rh (by omega) Al c12 l hD.rl (by have := hD.ll; omega) hlv)
    have HN2 := Lib.hid (fun (W : World) (h : Below w.heap.size w W) (A2 : Option Addr) (c2 : Nat) (hr : Rd W 2 A2 1 (wcells [u])) => (show Calls Try.prog 7 #[.slice A2 1 c2, .pointer (some ⟨mb, 0, none⟩)] W fun e w' => ∃ v, e = .returned v ∧ w'.ownsRow W.heap.size WTy 2 v 1 (wcells [nearW L u]) ∧ Below W.heap.size W w' from near_any (hP.rh.below h) (by omega) A2 c2 [u] hr (by simp) (fun v hv => by rw [List.mem_singleton.1 hv]; exact huv)))
    have HS := Lib.hid (fun (W : World) (h : Below w.heap.size w W) => And.intro (cell_below h (cells2 hD.cw).1) (cell_below h (cells2 hD.cw).2))
    have HB := Lib.hid (And.intro hAb (And.intro hbb (And.intro hNb (And.intro hs hll))))
    have HPL := Lib.hid hp
    clear hP hD hi hz hwh hI hc9 hQ hn hAb hbb hNb hp huv hlv hs hll e0 e1 e2 e3 e5 e6 e7
    conv => arg 2; whnf
    go_wp2_with fail
    refine HN1.out.mono ?_
    rintro e w1 ⟨v1, rfl, hown1, hb1⟩
    obtain ⟨A1, c1, rfl, _⟩ := own_cap hown1
    have H1 := Lib.hid (And.intro hown1 hb1)
    clear hown1 hb1
    dsimp only
    obtain ⟨t0, t1⟩ := HS.out w1 H1.out.2
    have HB2 := Lib.hid (H1.out.2.alloc H1.out.2.size (.cells #[.bool u.ptr, .int .i64 u.v] WTy))
    have HR2 := Lib.hid (rd_one w1 u)
    go_wp2_with fail
    refine (HN2.out _ HB2.out _ _ HR2.out).mono ?_
    rintro e w3 ⟨v3, rfl, hown3, hb3⟩
    obtain ⟨q3, c3, rfl⟩ := own_some hown3
    have HB3 := Lib.hid (below_then HB2.out hb3)
    obtain ⟨b', o', eA, _, g0, g1⟩ := (Rd.of_own hown3).word (k := 0) (u := nearW L u) rfl
    cases eA
    rw [Nat.zero_mul, Nat.add_zero] at g0 g1
    have hD3 := HC1.out.2.1.below HB3.out
    have z0 := frozenN hD3.cw 0
    have z1 := frozenN hD3.cw 1
    obtain ⟨t0', t1'⟩ := cells2 hD3.cw
    have h9 := box_set (B := bw) hD3.cw (.bool (nearW L u).ptr) (.int .i64 (nearW L u).v) (Nat.le_refl _)
    have HLQ := Lib.hid (And.intro (H1.out.1) (show w1.heap.size ≤ w3.heap.size from Nat.le_trans (Nat.le_of_lt (by rw [World.size_alloc]; omega)) hb3.size))
    have HO1 := Lib.hid (own_below (own_below H1.out.1 ((Below.refl w1.heap.size w1).alloc (Nat.le_refl _) (.cells #[.bool u.ptr, .int .i64 u.v] WTy))) hb3)
    have hbw := lt_of_heap HC1.out.2.1.cw
    have H9 := Lib.hid (And.intro h9 (And.intro hbw (show ((w3.setCell ⟨bw, 0, none⟩ (.bool (nearW L u).ptr)).setCell ⟨bw, 1, none⟩ (.int .i64 (nearW L u).v)).heap.size = w3.heap.size by rw [World.size_setCell, World.size_setCell])))
    clear hown3 hb3 hD3 h9 hbw t0 t1
    dsimp only
    go_upto_region 23 with fail
    have HPT := Lib.hid ((HC1.out.1.below HB3.out).touch (q := bw) (fun b hb _ => H9.out.1.2.2 b hb) HC1.out.2.1.pw HB.out.1 (by rw [H9.out.2.2]; exact Nat.le_refl _) (H9.out.1.2.1.mono HB.out.2.2.1))
    have HDT := Lib.hid (show DS ((w3.setCell ⟨bw, 0, none⟩ (.bool (nearW L u).ptr)).setCell ⟨bw, 1, none⟩ (.int .i64 (nearW L u).v)) (fun b => Nh hb V G V' G' b ∧ Nr mb x xs b) bx bw d A1 (l.map (nearW L)) (nearW L u) from by
      have hD3 := HC1.out.2.1.below HB3.out
      have ho : ∀ g, (Value.slice A1 l.length c1).ownBlock = some g → g ≠ bw := fun g hg e => by have := (H1.out.1.lt g hg).1; have := H9.out.2.1; omega
      refine ⟨(H9.out.1.2.2 bx (by have := HB.out.2.1; omega)).trans hD3.cx, hD3.pb, H9.out.1.1, hD3.pw, ?_, by rw [List.length_map]; exact HC1.out.2.1.ll, fun _ a ha => ?_⟩
      · rw [List.length_map]
        exact Rd.of_own (own_keep HO1.out (fun g hg _ => H9.out.1.2.2 g (ho g hg)))
      · have hl := HO1.out.lt a.block (by rw [ha]; rfl)
        exact ⟨by rw [H9.out.2.2]; exact hl.2, HC1.out.1.ch.fresh hl.1, HC1.out.1.rh.fresh hl.1⟩)
    clear z0 z1 g0 g1 t0' t1' e4
    generalize (w3.setCell ⟨bw, 0, none⟩ (.bool (nearW L u).ptr)).setCell ⟨bw, 1, none⟩ (.int .i64 (nearW L u).v) = w7 at *
    obtain ⟨c0, cx1, c2⟩ := cells3 HPT.out.rh.hd
    have hxl := HPT.out.rh.len
    obtain ⟨Ax, cx, hxx, _⟩ := own_cap HPT.out.rh.row
    rw [hxx] at cx1
    have HLE : Hid (l.length = (l.map (nearW L)).length) := (List.length_map _).symm
    have HSW := Lib.hid (fun (W : World) (hW : HP w0 W N hb mb half i L runs rs V G V' G' x xs A) (hDW : DS W (fun b => Nh hb V G V' G' b ∧ Nr mb x xs b) bx bw d A1 (l.map (nearW L)) (nearW L u)) => And.intro hW hDW)
    by_cases hL : xs.length = 0
    · rw [hL] at cx1
      clear hL hxl hxx
      go_wp2_with fail
      refine HK1.out _ _ ?_
      rw [HLE.out]
      exact deed_switch w0 w7 N hb mb i bx bw half runs p L rs (l.map (nearW L)) V G V' G' x xs A A1 c9 c1 d (nearW L u) HPT.out HDT.out HC1.out.2.2.1 HC1.out.2.2.2.1 HW1.out HC1.out.2.2.2.2.1 HC1.out.2.2.2.2.2 HQ.out
    · have HPK := Lib.hid (fun W : World => pick_val p xs.length HPL.out ⟨by omega, by have := HB.out.2.2.2.2; omega⟩ W)
      have hplt := (pickN_lt p xs.length (by omega)).1
      obtain ⟨r, hr⟩ : ∃ r, pickN p xs.length = r := ⟨_, rfl⟩
      rw [hr] at HPK hplt
      have r0 : (0 : Int) ≤ (r : Int) := by omega
      obtain ⟨y, hy⟩ : ∃ y, xs[r]? = some y := ⟨_, List.getElem?_eq_getElem (by omega)⟩
      have hat := HPT.out.rh
      rw [hxx] at hat
      obtain ⟨b9, o9, hA9, f9, _, _⟩ := hat.at rfl hy
      subst hA9
      obtain ⟨nx, hnx⟩ : ∃ nx, xs.length = nx := ⟨_, rfl⟩
      rw [hnx] at cx1 hplt HPK hL
      have hx0 : 0 < nx := by omega
      clear hr hy hat hnx hxl hxx hL
      go_upto_region 24 with fail
      go_quiet ((go_at_call 8; exact Calls.quiet_of_same (HPK.out _)))
      have HBN := Lib.hid (below_drewN (Below.refl w7.heap.size w7) nq)
      have HP8 := Lib.hid (HPT.out.below HBN.out)
      have HD8 := Lib.hid (HDT.out.below HBN.out)
      clear c0 cx1 c2 f9
      generalize w7.drewN nq = w8 at *
      go_wp2_with fail
      refine HK1.out _ _ ?_
      rw [HLE.out]
      exact deed_switch w0 w8 N hb mb i bx bw half runs y.place L rs (l.map (nearW L)) V G V' G' x xs A A1 c9 c1 d (nearW L u) HP8.out HD8.out HC1.out.2.2.1 HC1.out.2.2.2.1 HW1.out HC1.out.2.2.2.2.1 HC1.out.2.2.2.2.2 HQ.out
  · rw [hn] at e4
    clear hP hD hi hz hwh hI hc9 hQ hn hAb hbb hNb hp huv hlv hs hll e0 e1 e2 e3 e5 e6 e7
    conv => arg 2; whnf
    go_wp2_with fail
    refine HK1.out _ _ ?_
    exact deed_switch w0 w N hb mb i bx bw half runs p L rs l V G V' G' x xs A Al c9 c12 d u HC1.out.1 HC1.out.2.1 HC1.out.2.2.1 HC1.out.2.2.2.1 HW1.out HC1.out.2.2.2.2.1 HC1.out.2.2.2.2.2 HQ.out
end Go.Proofs.Ythblcfhflkapmaa
