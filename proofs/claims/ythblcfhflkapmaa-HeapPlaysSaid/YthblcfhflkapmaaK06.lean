/-
  The document's heap: a word of an object is set.
  The law HeapPlays: a deed that sets.
  The law HeapPlays: a deed that sets a word.
-/
import Derived.Test.YthblcfhflkapmaaK05
namespace Go.Proofs.Ythblcfhflkapmaa
open Go Go.ChangeShapes Go.WideShapes Go.ChangeAt Go.RowKit Go.Sort
set_option linter.unusedVariables false
set_option linter.unusedSimpArgs false

theorem set_same {α : Type _} {l : List α} {j : Nat} {a : α} (h : l[j]? = some a) : l.set j a = l := by
  apply List.ext_getElem?
  intro i
  rw [List.getElem?_set]
  by_cases e : j = i
  · subst e
    obtain ⟨h1, h2⟩ := List.getElem?_eq_some_iff.1 h
    rw [if_pos rfl, if_pos h1, h]
  · rw [if_neg e]
theorem place_set {L : List Ob} {j : Nat} {o : Ob} (hj : j < L.length) (hl : o.2.length = (ob L j).2.length) (i : Nat) : place (L.set j o) i = place L i := by
  unfold place
  refine sizes_eq _ _ (by simp) (fun n a b ha hb => ?_)
  rw [List.getElem?_take] at ha hb
  split at ha
  · rename_i q
    rw [if_pos q] at hb
    rw [List.getElem?_set] at ha
    by_cases e : j = n
    · subst e
      rw [if_pos rfl, if_pos hj] at ha
      injection ha with ha
      rw [ob_get hj] at hb
      injection hb with hb
      rw [← ha, ← hb, hl]
    · rw [if_neg e, hb] at ha
      injection ha with ha
      rw [ha]
  · cases ha
section
variable {w : World} {N mb : Nat} {half runs : Int} {L : List Ob} {x : Value} {xs : List RO}
theorem rh_setw (h : RH w N mb half runs L x xs) {j k q : Nat} {y : RO} {u : Wd} (hy : xs[j]? = some y) (hk : k < y.o.2.length) (hA : y.A = some ⟨q, 0, none⟩) :
    RH ((w.setCell ⟨q, k * 2, none⟩ (.bool u.ptr)).setCell ⟨q, k * 2 + 1, none⟩ (.int .i64 u.v)) N mb half runs (L.set j ((ob L j).1, (ob L j).2.set k u)) x (xs.set j ⟨y.place, (y.o.1, y.o.2.set k u), y.A, y.c⟩) ∧
    (∀ b, Nr mb x xs b → Nr mb x (xs.set j ⟨y.place, (y.o.1, y.o.2.set k u), y.A, y.c⟩) b) ∧ N ≤ q ∧ q ≠ mb ∧ x.ownBlock ≠ some q := by
  have hjx := (List.getElem?_eq_some_iff.1 hy).1
  have hjL : j < L.length := by rw [← h.len]; exact hjx
  have hyo : y.o = ob L j := by have h1 := h.get hy; unfold ob; rw [h1]; rfl
  have hym := List.mem_of_getElem? hy
  obtain ⟨y', hy'⟩ : ∃ y' : RO, y' = ⟨y.place, (y.o.1, y.o.2.set k u), y.A, y.c⟩ := ⟨_, rfl⟩
  rw [← hy']
  have hcells : y'.cells = y.cells := by rw [hy']; simp [RO.cells]
  have hA' : y'.A = y.A := by rw [hy']
  have hmem : ∀ (i : Nat) (z : RO), (xs.set j y')[i]? = some z → (i = j ∧ z = y') ∨ (i ≠ j ∧ xs[i]? = some z) := fun i z hz => by
    rw [List.getElem?_set] at hz
    by_cases e : j = i
    · rw [if_pos e, if_pos hjx] at hz
      injection hz with hz
      exact .inl ⟨e.symm, hz.symm⟩
    · rw [if_neg e] at hz
      exact .inr ⟨fun e' => e e'.symm, hz⟩
  have hold : ∀ z ∈ xs.set j y', ∃ (i : Nat) (z0 : RO), xs[i]? = some z0 ∧ z.A = z0.A := fun z hz => by
    obtain ⟨i, hi⟩ := List.mem_iff_getElem?.1 hz
    rcases hmem i z hi with ⟨_, rfl⟩ | ⟨_, h2⟩
    · exact ⟨j, y, hy, hA'⟩
    · exact ⟨i, z, h2, rfl⟩
  have hqr := h.nx y hym ⟨q, 0, none⟩ hA
  have hNq : N ≤ q := ((h.ws y hym).lt q (by rw [hA]; rfl)).1
  have ho : ∀ b, b ≠ q → ((w.setCell ⟨q, k * 2, none⟩ (.bool u.ptr)).setCell ⟨q, k * 2 + 1, none⟩ (.int .i64 u.v)).heap[b]? = w.heap[b]? := fun b hb => by rw [set_other _ _ _ _ hb, set_other _ _ _ _ hb]
  refine ⟨⟨(ho mb (fun e => hqr.2 e.symm)).trans h.hd, ?_, ?_, fun i z hz => ?_, fun z hz => ?_, fun i i' a b a1 b1 ha hb hne e1 e2 => ?_, fun z hz a ha => ?_, h.nm, h.ge⟩, fun b hb => ⟨hb.1, hb.2.1, fun z hz a ha => ?_⟩, hNq, hqr.2, hqr.1⟩
  · have hfl : (xs.set j y').flatMap RO.cells = xs.flatMap RO.cells := by
      rw [List.flatMap_def, List.flatMap_def, List.map_set, hcells, set_same (by rw [List.getElem?_map, hy]; rfl)]
    rw [hfl, List.length_set]
    exact own_keep h.row (fun g hg _ => ho g (fun e => hqr.1 (by rw [← e]; exact hg)))
  · rw [List.map_set, h.ob, hy', hyo]
  · rw [place_set hjL (by simp)]
    rcases hmem i z hz with ⟨rfl, rfl⟩ | ⟨_, h2⟩
    · rw [hy']; exact h.pl _ y hy
    · exact h.pl i z h2
  · obtain ⟨i, hi⟩ := List.mem_iff_getElem?.1 hz
    rcases hmem i z hi with ⟨_, rfl⟩ | ⟨h1, h2⟩
    · have hw := h.ws y hym
      rw [hA] at hw
      rw [hy']
      simp only [List.length_set]
      rw [hA, wcells_set]
      exact own_set (own_set hw _ (by omega) _) _ (by omega) _
    · refine own_keep (h.ws z (List.mem_of_getElem? h2)) (fun g hg _ => ho g (fun e => ?_))
      obtain ⟨a, ha, e2⟩ := ro_own.1 hg
      exact h.nd i j z y a ⟨q, 0, none⟩ h2 hy h1 ha hA (e2.trans e)
  · rcases hmem i a ha with ⟨h1, rfl⟩ | ⟨h1, h2⟩
    · rcases hmem i' b hb with ⟨h3, _⟩ | ⟨h3, h4⟩
      · omega
      · exact h.nd j i' y b a1 b1 hy h4 (fun e => h3 e.symm) (hA' ▸ e1) e2
    · rcases hmem i' b hb with ⟨h3, rfl⟩ | ⟨h3, h4⟩
      · exact h.nd i j a y a1 b1 h2 hy h1 e1 (hA' ▸ e2)
      · exact h.nd i i' a b a1 b1 h2 h4 hne e1 e2
  · obtain ⟨i, z0, h1, h2⟩ := hold z hz
    exact h.nx z0 (List.mem_of_getElem? h1) a (h2 ▸ ha)
  · obtain ⟨i, z0, h1, h2⟩ := hold z hz
    exact hb.2.2 z0 (List.mem_of_getElem? h1) a (h2 ▸ ha)
end
end Go.Proofs.Ythblcfhflkapmaa

namespace Go.Proofs.Ythblcfhflkapmaa
open Go Go.ChangeShapes Go.WideShapes Go.ChangeAt Go.RowKit Go.Sort
set_option linter.unusedVariables false
set_option linter.unusedSimpArgs false

set_option maxRecDepth 100000 in
set_option maxHeartbeats 16000000 in
/-- Refused, where there is no object, or the word isn't fine. -/
theorem set_none {u0 u1 u2 u3 u4 u7 u15 u16 u17 u18 u19 u20 u21 u22 u23 u24 u25 u26 u27 u28 u29 u30 u31 u32 u33 u34 u35 u36 u37 u38 u39 u40 u41 u42 u43 u44 u45 u46 u47 u48 u49 u50 u51 u52 u53 u54 u55 u56 u57 u58 u59 u60 u61 u62 u63 u64 u65 u66 u67 u68 u69 u70 u71 u72 u73 u74 u75 u76 u77 u78 u79 u80 u81 u82 u83 u84 u85 u86 u87 u88 u89 u90 u91 u92 u93 u94 u95 u96 u97 u98 u99 u100 u101 u102 u103 u104 u105 u106 u107 u108 u109 u110 u111 u112 u113 u114 u115 u116 u117 u118 u119 u120 u121 u122 u123 u124 u125 u126 u127 u128 u129 u130 u131 u132 u133 u134 u135 u136 u137 u138 u139 u140 u141 u142 u143 u144 u145 u146 u147 u148 u149 u150 u151 u152 u153 u154 u155 u156 u157 u158 u159 u160 u161 u162 u163 u164 u165 u166 u167 u168 u169 u170 u171 u172 u173 u174 u175 u176 u177 u178 u179 u180 u181 u182 u183 u184 u185 u186 u187 u188 u189 u190 u191 u192 u193 u194 u195 u196 u197 u198 u199 u200 u201 u202 u203 u204 u205 u206 u207 u208 u209 u210 u211 u212 u213 u214 u215 u216 u217 u218 u219 u220 u221 u222 u223 u224 u225 u226 u227 u228 u229 u230 u231 u232 u233 u234 u235 u236 u237 u238 u239 u240 u241 u242 u243 u244 u245 u246 u247 u248 u249 u250 u251 u252 u253 u254 u255 u256 u257 u258 u259 u260 u261 u262 u263 u264 u265 u266 u267 u268 u269 u270 u271 u272 u273 u274 u275 u276 u277 u278 u279 u280 u281 u282 u283 u284 u285 u286 u287 u288 u289 u290 u291 u292 u293 u294 u295 u296 u297 u298 u299 u300 u301 u302 u303 u304 u305 u306 u307 u308 u309 u310 u311 u312 u313 u314 u315 u316 u317 u318 u319 u320 u321 u322 u323 u324 u325 u326 u327 u328 u329 u330 u331 u332 u333 u334 u335 u336 u337 u338 u339 u340 u341 u342 u343 u344 u345 u346 u347 u348 u349 u350 u351 u352 u353 u354 u355 u356 u357 u358 u359 u360 u361 u362 u363 u364 u365 u366 u367 u368 u369 u370 u371 u372 u373 u374 u375 u376 u377 u378 u379 : Value} {Q : Exit → Act → World → Prop} (w0 w : World) (N hb mb i bx bw : Nat) (half runs p : Int) (L : List Ob) (rs l : List Wd) (V G V' G' x : Value) (xs : List RO) (A Al : Option Addr) (c9 c12 : Nat) (d : Dd) (u : Wd) (hP : HP w0 w N hb mb half i L runs rs V G V' G' x xs A) (hD : DS w (fun b => Nh hb V G V' G' b ∧ Nr mb x xs b) bx bw d Al l u) (hi : i ≤ 60) (hz : 1 ≤ half ∧ half ≤ 5000) (hI : I64 d.i) (hc9 : rs.length ≤ c9)
    (hQ : ∀ (v4 v11 v12 v13 v14 v15 v16 v17 v18 v19 v20 v21 v22 v23 v24 v25 v26 v27 v28 v29 v30 v31 v32 v33 v34 v35 v36 v81 v82 v83 v84 v85 v86 v87 v88 v89 v90 v91 v92 v93 v94 v95 v96 v97 v98 v99 v100 v101 v102 v103 v104 v105 v106 v107 v108 v109 v110 v111 v112 v113 v114 v115 v116 v117 v118 v119 v120 v121 v122 v123 v124 v125 v126 v127 v128 v129 v130 v131 v132 v133 v134 v135 v136 v137 v138 v139 v140 v141 v142 v143 v144 v145 v146 v147 v148 v149 v150 v151 v152 v153 v154 v155 v156 v157 v158 v159 v160 v161 v162 v163 v164 v165 v166 v167 v168 v169 v170 v171 v172 v173 v174 v175 v176 v177 v178 v179 v180 v181 v182 v183 v184 v185 v186 v187 v188 v189 v190 v191 v192 v193 v194 v195 v196 v197 v198 v199 v200 v201 v202 v203 v204 v205 v206 v207 v208 v209 v210 v211 v212 v213 v214 v215 v216 v217 v218 v219 v220 v221 v222 v223 v224 v225 v226 v227 v228 v229 v230 v231 v232 v233 v234 v235 v236 v237 v238 v239 v240 v241 v242 v243 v244 v245 v246 v247 v248 v249 v250 v251 v252 v253 v254 v255 v256 v257 v258 v259 v260 v261 v262 v263 v264 v265 v266 v267 v268 v269 v270 v271 v272 v273 v274 v275 v276 v277 v278 v279 v280 v281 v282 v283 v284 v285 v286 v287 v288 v289 v290 v291 v292 v293 v294 v295 v296 v297 v298 v299 v300 v301 v302 v303 v304 v305 v306 v307 v308 v309 v310 v311 v312 v313 v314 v315 v316 v317 v318 v319 v320 v321 v322 v323 v324 v325 v326 v327 v328 v329 v330 v331 v332 v333 v334 v335 v336 v337 v338 v339 v340 v341 v342 v343 v344 v345 v346 v347 v348 v349 v350 v351 v352 v353 v354 v355 v356 v357 v358 v359 v360 v361 v362 v363 v364 v365 v366 v367 v368 v369 v370 v371 v372 v373 v374 v375 v376 v377 v378 : Value) (w' : World) (A' : Option Addr) (n' c' : Nat), SP w0 w' N hb mb half (i + 1) A' n' c' → Q .normal ⟨#[u0, u1, u2, u3, v4, .bool true, .pointer (some ⟨hb, 0, none⟩), u7, .pointer (some ⟨mb, 0, none⟩), (.slice A' n' c'), .int .i64 (i : Nat), v11, v12, v13, v14, v15, v16, v17, v18, v19, v20, v21, v22, v23, v24, v25, v26, v27, v28, v29, v30, v31, v32, v33, v34, v35, v36, u37, u38, u39, u40, u41, u42, u43, u44, u45, u46, u47, u48, u49, u50, u51, u52, u53, u54, u55, u56, u57, u58, u59, u60, u61, u62, u63, u64, u65, u66, u67, u68, u69, u70, u71, u72, u73, u74, u75, u76, u77, u78, u79, u80, v81, v82, v83, v84, v85, v86, v87, v88, v89, v90, v91, v92, v93, v94, v95, v96, v97, v98, v99, v100, v101, v102, v103, v104, v105, v106, v107, v108, v109, v110, v111, v112, v113, v114, v115, v116, v117, v118, v119, v120, v121, v122, v123, v124, v125, v126, v127, v128, v129, v130, v131, v132, v133, v134, v135, v136, v137, v138, v139, v140, v141, v142, v143, v144, v145, v146, v147, v148, v149, v150, v151, v152, v153, v154, v155, v156, v157, v158, v159, v160, v161, v162, v163, v164, v165, v166, v167, v168, v169, v170, v171, v172, v173, v174, v175, v176, v177, v178, v179, v180, v181, v182, v183, v184, v185, v186, v187, v188, v189, v190, v191, v192, v193, v194, v195, v196, v197, v198, v199, v200, v201, v202, v203, v204, v205, v206, v207, v208, v209, v210, v211, v212, v213, v214, v215, v216, v217, v218, v219, v220, v221, v222, v223, v224, v225, v226, v227, v228, v229, v230, v231, v232, v233, v234, v235, v236, v237, v238, v239, v240, v241, v242, v243, v244, v245, v246, v247, v248, v249, v250, v251, v252, v253, v254, v255, v256, v257, v258, v259, v260, v261, v262, v263, v264, v265, v266, v267, v268, v269, v270, v271, v272, v273, v274, v275, v276, v277, v278, v279, v280, v281, v282, v283, v284, v285, v286, v287, v288, v289, v290, v291, v292, v293, v294, v295, v296, v297, v298, v299, v300, v301, v302, v303, v304, v305, v306, v307, v308, v309, v310, v311, v312, v313, v314, v315, v316, v317, v318, v319, v320, v321, v322, v323, v324, v325, v326, v327, v328, v329, v330, v331, v332, v333, v334, v335, v336, v337, v338, v339, v340, v341, v342, v343, v344, v345, v346, v347, v348, v349, v350, v351, v352, v353, v354, v355, v356, v357, v358, v359, v360, v361, v362, v363, v364, v365, v366, v367, v368, v369, v370, v371, v372, v373, v374, v375, v376, v377, v378, u379], []⟩ w') :
    (at_ L p = none ∨ fineB L u = false) → Code.wp Try.prog setC Q ⟨#[u0, u1, u2, u3, u4, .bool true, .pointer (some ⟨hb, 0, none⟩), u7, .pointer (some ⟨mb, 0, none⟩), .slice A rs.length c9, .int .i64 (i : Nat), .pointer (some ⟨bx, 0, none⟩), .slice Al l.length c12, .pointer (some ⟨bw, 0, none⟩), .int .i64 p, u15, u16, u17, u18, u19, u20, u21, u22, u23, u24, u25, u26, u27, u28, u29, u30, u31, u32, u33, u34, u35, u36, u37, u38, u39, u40, u41, u42, u43, u44, u45, u46, u47, u48, u49, u50, u51, u52, u53, u54, u55, u56, u57, u58, u59, u60, u61, u62, u63, u64, u65, u66, u67, u68, u69, u70, u71, u72, u73, u74, u75, u76, u77, u78, u79, u80, u81, u82, u83, u84, u85, u86, u87, u88, u89, u90, u91, u92, u93, u94, u95, u96, u97, u98, u99, u100, u101, u102, u103, u104, u105, u106, u107, u108, u109, u110, u111, u112, u113, u114, u115, u116, u117, u118, u119, u120, u121, u122, u123, u124, u125, u126, u127, u128, u129, u130, u131, u132, u133, u134, u135, u136, u137, u138, u139, u140, u141, u142, u143, u144, u145, u146, u147, u148, u149, u150, u151, u152, u153, u154, u155, u156, u157, u158, u159, u160, u161, u162, u163, u164, u165, u166, u167, u168, u169, u170, u171, u172, u173, u174, u175, u176, u177, u178, u179, u180, u181, u182, u183, u184, u185, u186, u187, u188, u189, u190, u191, u192, u193, u194, u195, u196, u197, u198, u199, u200, u201, u202, u203, u204, u205, u206, u207, u208, u209, u210, u211, u212, u213, u214, u215, u216, u217, u218, u219, u220, u221, u222, u223, u224, u225, u226, u227, u228, u229, u230, u231, u232, u233, u234, u235, u236, u237, u238, u239, u240, u241, u242, u243, u244, u245, u246, u247, u248, u249, u250, u251, u252, u253, u254, u255, u256, u257, u258, u259, u260, u261, u262, u263, u264, u265, u266, u267, u268, u269, u270, u271, u272, u273, u274, u275, u276, u277, u278, u279, u280, u281, u282, u283, u284, u285, u286, u287, u288, u289, u290, u291, u292, u293, u294, u295, u296, u297, u298, u299, u300, u301, u302, u303, u304, u305, u306, u307, u308, u309, u310, u311, u312, u313, u314, u315, u316, u317, u318, u319, u320, u321, u322, u323, u324, u325, u326, u327, u328, u329, u330, u331, u332, u333, u334, u335, u336, u337, u338, u339, u340, u341, u342, u343, u344, u345, u346, u347, u348, u349, u350, u351, u352, u353, u354, u355, u356, u357, u358, u359, u360, u361, u362, u363, u364, u365, u366, u367, u368, u369, u370, u371, u372, u373, u374, u375, u376, u377, u378, u379], []⟩ w := by
  intro hno
  obtain ⟨hs, hll⟩ := hP.small hz
  have hwb : (wordB L p d.i && fineB L u) = false := by
    rcases hno with h | h
    · unfold wordB; rw [h]; rfl
    · rw [h]; simp
  have HSE := Lib.hid (Set_no hP.ch hP.wf (by omega) p d.i u hwb)
  have HCO := Lib.hid (fun W : World => code_one W)
  have HAS := Lib.hid (fun W : World => as_any u.ptr u.v W)
  obtain ⟨e0, e1, e2, e3, e4, e5, e6, e7⟩ := cells8 hD.cx
  obtain ⟨t0, t1⟩ := cells2 hD.cw
  have HFI := Lib.hid (fun (W : World) (h : Below w.heap.size w W) (A4 : Option Addr) (c4 : Nat) (hr : Rd W 2 A4 1 (wcells [u])) => (show Calls Try.prog 17 #[.pointer (some ⟨mb, 0, none⟩), .slice A4 1 c4] W fun e w' => e = .returned (.bool (fineB L u)) ∧ W = w' from by have q := RFine_any (hP.rh.below h) (by omega) A4 c4 [u] hr (by simp); simpa using q))
  have HAT := Lib.hid (fun (W : World) (h : Below w.heap.size w W) => At_any (hP.rh.below h) (by omega) p)
  have HS := Lib.hid (fun (W : World) (h : Below w.heap.size w W) => And.intro (cell_below h e3) (And.intro (cell_below h t0) (cell_below h t1)))
  have H := Lib.hid (And.intro hP (And.intro hD hc9))
  have HQ := Lib.hid hQ
  have hcase : (atI L p = -1) ∨ (fineB L u = false ∧ 0 ≤ atI L p) ∨ (fineB L u = false ∧ atI L p = -1) := by
    cases ha : at_ L p with
    | none => exact .inl (atI_none ha)
    | some j =>
      rcases hno with h | h
      · rw [ha] at h; cases h
      · exact .inr (.inl ⟨h, by rw [atI_some ha]; omega⟩)
  clear hP hD hi hz hI hc9 hQ hs hll e0 e1 e2 e4 e5 e6 e7 hwb hno
  rcases hcase with hc | ⟨hc, hc2⟩ | ⟨hc, hc2⟩
  · rw [hc] at HAT
    clear hc
    conv => arg 2; whnf
    go_upto_region 46 with (go_at_call 15; (with_reducible refine HSE.out.mono ?_); rintro e w1 ⟨rfl, hb1⟩; have HB1 := Lib.hid hb1; clear hb1; dsimp only)
    clear e3 t0 t1
    obtain ⟨e3, t0, t1⟩ := HS.out w1 HB1.out
    go_upto_region 48 with (first
      | (go_at_call 16; (with_reducible refine (HAT.out _ HB1.out).mono ?_); rintro e w2 ⟨rfl, rfl⟩; dsimp only)
      | (go_at_call 18; (with_reducible refine (HAS.out _).mono ?_); rintro e w3 ⟨rfl, hb3⟩; have HB3 := Lib.hid (below_then HB1.out hb3); have HB4 := Lib.hid (HB3.out.alloc HB3.out.size (.cells #[.bool u.ptr, .int .i64 u.v] DTy)); have HR4 := Lib.hid (rd_oneR w3 u); clear hb3; dsimp only)
      | (go_at_call 17; (with_reducible refine (HFI.out _ HB4.out _ _ HR4.out).mono ?_); rintro e w5 ⟨rfl, rfl⟩; dsimp only))
    clear e3 t0 t1
    obtain ⟨e3, t0, t1⟩ := HS.out _ HB4.out
    generalize w3.alloc (.cells #[.bool u.ptr, .int .i64 u.v] DTy) = w4 at *
    go_wp2_with (go_at_call 12; (with_reducible refine (HCO.out _).mono ?_); rintro e w5 ⟨rfl, rfl⟩; dsimp only)
    exact HQ.out _ _ _ _ _ _ _ _ _ _ _ _ _ _ _ _ _ _ _ _ _ _ _ _ _ _ _ _ _ _ _ _ _ _ _ _ _ _ _ _ _ _ _ _ _ _ _ _ _ _ _ _ _ _ _ _ _ _ _ _ _ _ _ _ _ _ _ _ _ _ _ _ _ _ _ _ _ _ _ _ _ _ _ _ _ _ _ _ _ _ _ _ _ _ _ _ _ _ _ _ _ _ _ _ _ _ _ _ _ _ _ _ _ _ _ _ _ _ _ _ _ _ _ _ _ _ _ _ _ _ _ _ _ _ _ _ _ _ _ _ _ _ _ _ _ _ _ _ _ _ _ _ _ _ _ _ _ _ _ _ _ _ _ _ _ _ _ _ _ _ _ _ _ _ _ _ _ _ _ _ _ _ _ _ _ _ _ _ _ _ _ _ _ _ _ _ _ _ _ _ _ _ _ _ _ _ _ _ _ _ _ _ _ _ _ _ _ _ _ _ _ _ _ _ _ _ _ _ _ _ _ _ _ _ _ _ _ _ _ _ _ _ _ _ _ _ _ _ _ _ _ _ _ _ _ _ _ _ _ _ _ _ _ _ _ _ _ _ _ _ _ _ _ _ _ _ _ _ _ _ _ _ _ _ _ _ _ _ _ _ _ _ _ _ _ _ _ _ _ _ _ _ _ _ _ _ _ _ _ _ _ _ _ _ _ _ _ _ _ _ _ _ _ _ _ _ _ _ _ ⟨L, runs, rs, V, G, V', G', x, xs, rfl, H.out.2.2, H.out.1.up.below HB4.out⟩
  · rw [hc] at HFI
    obtain ⟨av, hav⟩ : ∃ av, atI L p = av := ⟨_, rfl⟩
    rw [hav] at HAT hc2
    clear hc hav
    conv => arg 2; whnf
    go_upto_region 46 with (go_at_call 15; (with_reducible refine HSE.out.mono ?_); rintro e w1 ⟨rfl, hb1⟩; have HB1 := Lib.hid hb1; clear hb1; dsimp only)
    clear e3 t0 t1
    obtain ⟨e3, t0, t1⟩ := HS.out w1 HB1.out
    go_upto_region 48 with (first
      | (go_at_call 16; (with_reducible refine (HAT.out _ HB1.out).mono ?_); rintro e w2 ⟨rfl, rfl⟩; dsimp only)
      | (go_at_call 18; (with_reducible refine (HAS.out _).mono ?_); rintro e w3 ⟨rfl, hb3⟩; have HB3 := Lib.hid (below_then HB1.out hb3); have HB4 := Lib.hid (HB3.out.alloc HB3.out.size (.cells #[.bool u.ptr, .int .i64 u.v] DTy)); have HR4 := Lib.hid (rd_oneR w3 u); clear hb3; dsimp only)
      | (go_at_call 17; (with_reducible refine (HFI.out _ HB4.out _ _ HR4.out).mono ?_); rintro e w5 ⟨rfl, rfl⟩; dsimp only))
    clear e3 t0 t1
    obtain ⟨e3, t0, t1⟩ := HS.out _ HB4.out
    generalize w3.alloc (.cells #[.bool u.ptr, .int .i64 u.v] DTy) = w4 at *
    go_wp2_with (go_at_call 12; (with_reducible refine (HCO.out _).mono ?_); rintro e w5 ⟨rfl, rfl⟩; dsimp only)
    exact HQ.out _ _ _ _ _ _ _ _ _ _ _ _ _ _ _ _ _ _ _ _ _ _ _ _ _ _ _ _ _ _ _ _ _ _ _ _ _ _ _ _ _ _ _ _ _ _ _ _ _ _ _ _ _ _ _ _ _ _ _ _ _ _ _ _ _ _ _ _ _ _ _ _ _ _ _ _ _ _ _ _ _ _ _ _ _ _ _ _ _ _ _ _ _ _ _ _ _ _ _ _ _ _ _ _ _ _ _ _ _ _ _ _ _ _ _ _ _ _ _ _ _ _ _ _ _ _ _ _ _ _ _ _ _ _ _ _ _ _ _ _ _ _ _ _ _ _ _ _ _ _ _ _ _ _ _ _ _ _ _ _ _ _ _ _ _ _ _ _ _ _ _ _ _ _ _ _ _ _ _ _ _ _ _ _ _ _ _ _ _ _ _ _ _ _ _ _ _ _ _ _ _ _ _ _ _ _ _ _ _ _ _ _ _ _ _ _ _ _ _ _ _ _ _ _ _ _ _ _ _ _ _ _ _ _ _ _ _ _ _ _ _ _ _ _ _ _ _ _ _ _ _ _ _ _ _ _ _ _ _ _ _ _ _ _ _ _ _ _ _ _ _ _ _ _ _ _ _ _ _ _ _ _ _ _ _ _ _ _ _ _ _ _ _ _ _ _ _ _ _ _ _ _ _ _ _ _ _ _ _ _ _ _ _ _ _ _ _ _ _ _ _ _ _ _ _ _ _ _ _ ⟨L, runs, rs, V, G, V', G', x, xs, rfl, H.out.2.2, H.out.1.up.below HB4.out⟩
  · rw [hc2] at HAT
    clear hc hc2
    conv => arg 2; whnf
    go_upto_region 46 with (go_at_call 15; (with_reducible refine HSE.out.mono ?_); rintro e w1 ⟨rfl, hb1⟩; have HB1 := Lib.hid hb1; clear hb1; dsimp only)
    clear e3 t0 t1
    obtain ⟨e3, t0, t1⟩ := HS.out w1 HB1.out
    go_upto_region 48 with (first
      | (go_at_call 16; (with_reducible refine (HAT.out _ HB1.out).mono ?_); rintro e w2 ⟨rfl, rfl⟩; dsimp only)
      | (go_at_call 18; (with_reducible refine (HAS.out _).mono ?_); rintro e w3 ⟨rfl, hb3⟩; have HB3 := Lib.hid (below_then HB1.out hb3); have HB4 := Lib.hid (HB3.out.alloc HB3.out.size (.cells #[.bool u.ptr, .int .i64 u.v] DTy)); have HR4 := Lib.hid (rd_oneR w3 u); clear hb3; dsimp only)
      | (go_at_call 17; (with_reducible refine (HFI.out _ HB4.out _ _ HR4.out).mono ?_); rintro e w5 ⟨rfl, rfl⟩; dsimp only))
    clear e3 t0 t1
    obtain ⟨e3, t0, t1⟩ := HS.out _ HB4.out
    generalize w3.alloc (.cells #[.bool u.ptr, .int .i64 u.v] DTy) = w4 at *
    go_wp2_with (go_at_call 12; (with_reducible refine (HCO.out _).mono ?_); rintro e w5 ⟨rfl, rfl⟩; dsimp only)
    exact HQ.out _ _ _ _ _ _ _ _ _ _ _ _ _ _ _ _ _ _ _ _ _ _ _ _ _ _ _ _ _ _ _ _ _ _ _ _ _ _ _ _ _ _ _ _ _ _ _ _ _ _ _ _ _ _ _ _ _ _ _ _ _ _ _ _ _ _ _ _ _ _ _ _ _ _ _ _ _ _ _ _ _ _ _ _ _ _ _ _ _ _ _ _ _ _ _ _ _ _ _ _ _ _ _ _ _ _ _ _ _ _ _ _ _ _ _ _ _ _ _ _ _ _ _ _ _ _ _ _ _ _ _ _ _ _ _ _ _ _ _ _ _ _ _ _ _ _ _ _ _ _ _ _ _ _ _ _ _ _ _ _ _ _ _ _ _ _ _ _ _ _ _ _ _ _ _ _ _ _ _ _ _ _ _ _ _ _ _ _ _ _ _ _ _ _ _ _ _ _ _ _ _ _ _ _ _ _ _ _ _ _ _ _ _ _ _ _ _ _ _ _ _ _ _ _ _ _ _ _ _ _ _ _ _ _ _ _ _ _ _ _ _ _ _ _ _ _ _ _ _ _ _ _ _ _ _ _ _ _ _ _ _ _ _ _ _ _ _ _ _ _ _ _ _ _ _ _ _ _ _ _ _ _ _ _ _ _ _ _ _ _ _ _ _ _ _ _ _ _ _ _ _ _ _ _ _ _ _ _ _ _ _ _ _ _ _ _ _ _ _ _ _ _ _ _ _ _ _ _ _ ⟨L, runs, rs, V, G, V', G', x, xs, rfl, H.out.2.2, H.out.1.up.below HB4.out⟩
set_option maxRecDepth 100000 in
set_option maxHeartbeats 16000000 in
/-- Refused, where the object has no word of that number. -/
theorem set_out {u0 u1 u2 u3 u4 u7 u15 u16 u17 u18 u19 u20 u21 u22 u23 u24 u25 u26 u27 u28 u29 u30 u31 u32 u33 u34 u35 u36 u37 u38 u39 u40 u41 u42 u43 u44 u45 u46 u47 u48 u49 u50 u51 u52 u53 u54 u55 u56 u57 u58 u59 u60 u61 u62 u63 u64 u65 u66 u67 u68 u69 u70 u71 u72 u73 u74 u75 u76 u77 u78 u79 u80 u81 u82 u83 u84 u85 u86 u87 u88 u89 u90 u91 u92 u93 u94 u95 u96 u97 u98 u99 u100 u101 u102 u103 u104 u105 u106 u107 u108 u109 u110 u111 u112 u113 u114 u115 u116 u117 u118 u119 u120 u121 u122 u123 u124 u125 u126 u127 u128 u129 u130 u131 u132 u133 u134 u135 u136 u137 u138 u139 u140 u141 u142 u143 u144 u145 u146 u147 u148 u149 u150 u151 u152 u153 u154 u155 u156 u157 u158 u159 u160 u161 u162 u163 u164 u165 u166 u167 u168 u169 u170 u171 u172 u173 u174 u175 u176 u177 u178 u179 u180 u181 u182 u183 u184 u185 u186 u187 u188 u189 u190 u191 u192 u193 u194 u195 u196 u197 u198 u199 u200 u201 u202 u203 u204 u205 u206 u207 u208 u209 u210 u211 u212 u213 u214 u215 u216 u217 u218 u219 u220 u221 u222 u223 u224 u225 u226 u227 u228 u229 u230 u231 u232 u233 u234 u235 u236 u237 u238 u239 u240 u241 u242 u243 u244 u245 u246 u247 u248 u249 u250 u251 u252 u253 u254 u255 u256 u257 u258 u259 u260 u261 u262 u263 u264 u265 u266 u267 u268 u269 u270 u271 u272 u273 u274 u275 u276 u277 u278 u279 u280 u281 u282 u283 u284 u285 u286 u287 u288 u289 u290 u291 u292 u293 u294 u295 u296 u297 u298 u299 u300 u301 u302 u303 u304 u305 u306 u307 u308 u309 u310 u311 u312 u313 u314 u315 u316 u317 u318 u319 u320 u321 u322 u323 u324 u325 u326 u327 u328 u329 u330 u331 u332 u333 u334 u335 u336 u337 u338 u339 u340 u341 u342 u343 u344 u345 u346 u347 u348 u349 u350 u351 u352 u353 u354 u355 u356 u357 u358 u359 u360 u361 u362 u363 u364 u365 u366 u367 u368 u369 u370 u371 u372 u373 u374 u375 u376 u377 u378 u379 : Value} {Q : Exit → Act → World → Prop} (w0 w : World) (N hb mb i bx bw : Nat) (half runs p : Int) (L : List Ob) (rs l : List Wd) (V G V' G' x : Value) (xs : List RO) (A Al : Option Addr) (c9 c12 : Nat) (d : Dd) (u : Wd) (hP : HP w0 w N hb mb half i L runs rs V G V' G' x xs A) (hD : DS w (fun b => Nh hb V G V' G' b ∧ Nr mb x xs b) bx bw d Al l u) (hi : i ≤ 60) (hz : 1 ≤ half ∧ half ≤ 5000) (hI : I64 d.i) (hc9 : rs.length ≤ c9)
    (hQ : ∀ (v4 v11 v12 v13 v14 v15 v16 v17 v18 v19 v20 v21 v22 v23 v24 v25 v26 v27 v28 v29 v30 v31 v32 v33 v34 v35 v36 v81 v82 v83 v84 v85 v86 v87 v88 v89 v90 v91 v92 v93 v94 v95 v96 v97 v98 v99 v100 v101 v102 v103 v104 v105 v106 v107 v108 v109 v110 v111 v112 v113 v114 v115 v116 v117 v118 v119 v120 v121 v122 v123 v124 v125 v126 v127 v128 v129 v130 v131 v132 v133 v134 v135 v136 v137 v138 v139 v140 v141 v142 v143 v144 v145 v146 v147 v148 v149 v150 v151 v152 v153 v154 v155 v156 v157 v158 v159 v160 v161 v162 v163 v164 v165 v166 v167 v168 v169 v170 v171 v172 v173 v174 v175 v176 v177 v178 v179 v180 v181 v182 v183 v184 v185 v186 v187 v188 v189 v190 v191 v192 v193 v194 v195 v196 v197 v198 v199 v200 v201 v202 v203 v204 v205 v206 v207 v208 v209 v210 v211 v212 v213 v214 v215 v216 v217 v218 v219 v220 v221 v222 v223 v224 v225 v226 v227 v228 v229 v230 v231 v232 v233 v234 v235 v236 v237 v238 v239 v240 v241 v242 v243 v244 v245 v246 v247 v248 v249 v250 v251 v252 v253 v254 v255 v256 v257 v258 v259 v260 v261 v262 v263 v264 v265 v266 v267 v268 v269 v270 v271 v272 v273 v274 v275 v276 v277 v278 v279 v280 v281 v282 v283 v284 v285 v286 v287 v288 v289 v290 v291 v292 v293 v294 v295 v296 v297 v298 v299 v300 v301 v302 v303 v304 v305 v306 v307 v308 v309 v310 v311 v312 v313 v314 v315 v316 v317 v318 v319 v320 v321 v322 v323 v324 v325 v326 v327 v328 v329 v330 v331 v332 v333 v334 v335 v336 v337 v338 v339 v340 v341 v342 v343 v344 v345 v346 v347 v348 v349 v350 v351 v352 v353 v354 v355 v356 v357 v358 v359 v360 v361 v362 v363 v364 v365 v366 v367 v368 v369 v370 v371 v372 v373 v374 v375 v376 v377 v378 : Value) (w' : World) (A' : Option Addr) (n' c' : Nat), SP w0 w' N hb mb half (i + 1) A' n' c' → Q .normal ⟨#[u0, u1, u2, u3, v4, .bool true, .pointer (some ⟨hb, 0, none⟩), u7, .pointer (some ⟨mb, 0, none⟩), (.slice A' n' c'), .int .i64 (i : Nat), v11, v12, v13, v14, v15, v16, v17, v18, v19, v20, v21, v22, v23, v24, v25, v26, v27, v28, v29, v30, v31, v32, v33, v34, v35, v36, u37, u38, u39, u40, u41, u42, u43, u44, u45, u46, u47, u48, u49, u50, u51, u52, u53, u54, u55, u56, u57, u58, u59, u60, u61, u62, u63, u64, u65, u66, u67, u68, u69, u70, u71, u72, u73, u74, u75, u76, u77, u78, u79, u80, v81, v82, v83, v84, v85, v86, v87, v88, v89, v90, v91, v92, v93, v94, v95, v96, v97, v98, v99, v100, v101, v102, v103, v104, v105, v106, v107, v108, v109, v110, v111, v112, v113, v114, v115, v116, v117, v118, v119, v120, v121, v122, v123, v124, v125, v126, v127, v128, v129, v130, v131, v132, v133, v134, v135, v136, v137, v138, v139, v140, v141, v142, v143, v144, v145, v146, v147, v148, v149, v150, v151, v152, v153, v154, v155, v156, v157, v158, v159, v160, v161, v162, v163, v164, v165, v166, v167, v168, v169, v170, v171, v172, v173, v174, v175, v176, v177, v178, v179, v180, v181, v182, v183, v184, v185, v186, v187, v188, v189, v190, v191, v192, v193, v194, v195, v196, v197, v198, v199, v200, v201, v202, v203, v204, v205, v206, v207, v208, v209, v210, v211, v212, v213, v214, v215, v216, v217, v218, v219, v220, v221, v222, v223, v224, v225, v226, v227, v228, v229, v230, v231, v232, v233, v234, v235, v236, v237, v238, v239, v240, v241, v242, v243, v244, v245, v246, v247, v248, v249, v250, v251, v252, v253, v254, v255, v256, v257, v258, v259, v260, v261, v262, v263, v264, v265, v266, v267, v268, v269, v270, v271, v272, v273, v274, v275, v276, v277, v278, v279, v280, v281, v282, v283, v284, v285, v286, v287, v288, v289, v290, v291, v292, v293, v294, v295, v296, v297, v298, v299, v300, v301, v302, v303, v304, v305, v306, v307, v308, v309, v310, v311, v312, v313, v314, v315, v316, v317, v318, v319, v320, v321, v322, v323, v324, v325, v326, v327, v328, v329, v330, v331, v332, v333, v334, v335, v336, v337, v338, v339, v340, v341, v342, v343, v344, v345, v346, v347, v348, v349, v350, v351, v352, v353, v354, v355, v356, v357, v358, v359, v360, v361, v362, v363, v364, v365, v366, v367, v368, v369, v370, v371, v372, v373, v374, v375, v376, v377, v378, u379], []⟩ w') :
    ∀ j, at_ L p = some j → fineB L u = true → ¬ (0 ≤ d.i ∧ d.i < ((ob L j).2.length : Int)) → Code.wp Try.prog setC Q ⟨#[u0, u1, u2, u3, u4, .bool true, .pointer (some ⟨hb, 0, none⟩), u7, .pointer (some ⟨mb, 0, none⟩), .slice A rs.length c9, .int .i64 (i : Nat), .pointer (some ⟨bx, 0, none⟩), .slice Al l.length c12, .pointer (some ⟨bw, 0, none⟩), .int .i64 p, u15, u16, u17, u18, u19, u20, u21, u22, u23, u24, u25, u26, u27, u28, u29, u30, u31, u32, u33, u34, u35, u36, u37, u38, u39, u40, u41, u42, u43, u44, u45, u46, u47, u48, u49, u50, u51, u52, u53, u54, u55, u56, u57, u58, u59, u60, u61, u62, u63, u64, u65, u66, u67, u68, u69, u70, u71, u72, u73, u74, u75, u76, u77, u78, u79, u80, u81, u82, u83, u84, u85, u86, u87, u88, u89, u90, u91, u92, u93, u94, u95, u96, u97, u98, u99, u100, u101, u102, u103, u104, u105, u106, u107, u108, u109, u110, u111, u112, u113, u114, u115, u116, u117, u118, u119, u120, u121, u122, u123, u124, u125, u126, u127, u128, u129, u130, u131, u132, u133, u134, u135, u136, u137, u138, u139, u140, u141, u142, u143, u144, u145, u146, u147, u148, u149, u150, u151, u152, u153, u154, u155, u156, u157, u158, u159, u160, u161, u162, u163, u164, u165, u166, u167, u168, u169, u170, u171, u172, u173, u174, u175, u176, u177, u178, u179, u180, u181, u182, u183, u184, u185, u186, u187, u188, u189, u190, u191, u192, u193, u194, u195, u196, u197, u198, u199, u200, u201, u202, u203, u204, u205, u206, u207, u208, u209, u210, u211, u212, u213, u214, u215, u216, u217, u218, u219, u220, u221, u222, u223, u224, u225, u226, u227, u228, u229, u230, u231, u232, u233, u234, u235, u236, u237, u238, u239, u240, u241, u242, u243, u244, u245, u246, u247, u248, u249, u250, u251, u252, u253, u254, u255, u256, u257, u258, u259, u260, u261, u262, u263, u264, u265, u266, u267, u268, u269, u270, u271, u272, u273, u274, u275, u276, u277, u278, u279, u280, u281, u282, u283, u284, u285, u286, u287, u288, u289, u290, u291, u292, u293, u294, u295, u296, u297, u298, u299, u300, u301, u302, u303, u304, u305, u306, u307, u308, u309, u310, u311, u312, u313, u314, u315, u316, u317, u318, u319, u320, u321, u322, u323, u324, u325, u326, u327, u328, u329, u330, u331, u332, u333, u334, u335, u336, u337, u338, u339, u340, u341, u342, u343, u344, u345, u346, u347, u348, u349, u350, u351, u352, u353, u354, u355, u356, u357, u358, u359, u360, u361, u362, u363, u364, u365, u366, u367, u368, u369, u370, u371, u372, u373, u374, u375, u376, u377, u378, u379], []⟩ w := by
  intro j ha hfu hno
  obtain ⟨hs, hll⟩ := hP.small hz
  obtain ⟨hjl, hpj⟩ := at_some.1 ha
  have hwb : (wordB L p d.i && fineB L u) = false := by
    have h : wordB L p d.i = false := by
      unfold wordB
      rw [ha]
      simp only [Bool.and_eq_false_iff, decide_eq_false_iff_not]
      by_cases h0 : 0 ≤ d.i
      · exact .inr (fun h1 => hno ⟨h0, h1⟩)
      · exact .inl h0
    rw [h]; rfl
  have HSE := Lib.hid (Set_no hP.ch hP.wf (by omega) p d.i u hwb)
  have HCO := Lib.hid (fun W : World => code_one W)
  have HAS := Lib.hid (fun W : World => as_any u.ptr u.v W)
  obtain ⟨e0, e1, e2, e3, e4, e5, e6, e7⟩ := cells8 hD.cx
  obtain ⟨t0, t1⟩ := cells2 hD.cw
  have HFI := Lib.hid (fun (W : World) (h : Below w.heap.size w W) (A4 : Option Addr) (c4 : Nat) (hr : Rd W 2 A4 1 (wcells [u])) => (show Calls Try.prog 17 #[.pointer (some ⟨mb, 0, none⟩), .slice A4 1 c4] W fun e w' => e = .returned (.bool (fineB L u)) ∧ W = w' from by have q := RFine_any (hP.rh.below h) (by omega) A4 c4 [u] hr (by simp); simpa using q))
  have HAT := Lib.hid (fun (W : World) (h : Below w.heap.size w W) => At_any (hP.rh.below h) (by omega) p)
  rw [hfu] at HFI
  rw [atI_some ha] at HAT
  obtain ⟨c0, cx1, c2⟩ := cells3 hP.rh.hd
  have hxl := hP.rh.len
  obtain ⟨Ax, cx, rfl, _⟩ := own_cap hP.rh.row
  obtain ⟨y, hy⟩ : ∃ y, xs[j]? = some y := ⟨_, List.getElem?_eq_getElem (by rw [hxl]; exact hjl)⟩
  have hyo : y.o = ob L j := by have h1 := hP.rh.get hy; unfold ob; rw [h1]; rfl
  obtain ⟨b9, o9, hA9, _, _, f11⟩ := hP.rh.at rfl hy
  subst hA9
  have HS := Lib.hid (fun (W : World) (h : Below w.heap.size w W) => And.intro (cell_below h e3) (And.intro (cell_below h t0) (cell_below h t1)))
  have HS2 := Lib.hid (fun (W : World) (h : Below w.heap.size w W) => And.intro (cell_below h cx1) (cell_below h f11))
  have H := Lib.hid (And.intro hP (And.intro hD hc9))
  have HQ := Lib.hid hQ
  have j0 : (0 : Int) ≤ (j : Int) := by omega
  have j1 : (j : Int) < (xs.length : Int) := by omega
  rw [← hyo] at hno
  have HNO := Lib.hid hno
  clear hP hD hi hz hI hc9 hQ ha hs hll e0 e1 e2 e4 e5 e6 e7 c0 cx1 c2 f11 hjl hpj hwb hxl hy hyo hno hfu
  conv => arg 2; whnf
  go_upto_region 46 with (go_at_call 15; (with_reducible refine HSE.out.mono ?_); rintro e w1 ⟨rfl, hb1⟩; have HB1 := Lib.hid hb1; clear hb1; dsimp only)
  clear e3 t0 t1
  obtain ⟨e3, t0, t1⟩ := HS.out w1 HB1.out
  go_upto_region 48 with (first
    | (go_at_call 16; (with_reducible refine (HAT.out _ HB1.out).mono ?_); rintro e w2 ⟨rfl, rfl⟩; dsimp only)
    | (go_at_call 18; (with_reducible refine (HAS.out _).mono ?_); rintro e w3 ⟨rfl, hb3⟩; have HB3 := Lib.hid (below_then HB1.out hb3); have HB4 := Lib.hid (HB3.out.alloc HB3.out.size (.cells #[.bool u.ptr, .int .i64 u.v] DTy)); have HR4 := Lib.hid (rd_oneR w3 u); clear hb3; dsimp only)
    | (go_at_call 17; (with_reducible refine (HFI.out _ HB4.out _ _ HR4.out).mono ?_); rintro e w5 ⟨rfl, rfl⟩; dsimp only))
  clear e3 t0 t1
  obtain ⟨e3, t0, t1⟩ := HS.out _ HB4.out
  generalize w3.alloc (.cells #[.bool u.ptr, .int .i64 u.v] DTy) = w4 at *
  obtain ⟨cx1, f11⟩ := HS2.out _ HB4.out
  by_cases h0 : 0 ≤ d.i
  · have h1 : ¬ d.i < (y.o.2.length : Int) := fun q => HNO.out ⟨h0, q⟩
    go_upto_region 50 with fail
    go_quiet (fail)
    have HB5 := Lib.hid (below_drewN HB4.out nq)
    clear e3 cx1 f11 t0 t1
    generalize w4.drewN nq = w6 at *
    go_wp2_with (go_at_call 12; (with_reducible refine (HCO.out _).mono ?_); rintro e w5 ⟨rfl, rfl⟩; dsimp only)
    exact HQ.out _ _ _ _ _ _ _ _ _ _ _ _ _ _ _ _ _ _ _ _ _ _ _ _ _ _ _ _ _ _ _ _ _ _ _ _ _ _ _ _ _ _ _ _ _ _ _ _ _ _ _ _ _ _ _ _ _ _ _ _ _ _ _ _ _ _ _ _ _ _ _ _ _ _ _ _ _ _ _ _ _ _ _ _ _ _ _ _ _ _ _ _ _ _ _ _ _ _ _ _ _ _ _ _ _ _ _ _ _ _ _ _ _ _ _ _ _ _ _ _ _ _ _ _ _ _ _ _ _ _ _ _ _ _ _ _ _ _ _ _ _ _ _ _ _ _ _ _ _ _ _ _ _ _ _ _ _ _ _ _ _ _ _ _ _ _ _ _ _ _ _ _ _ _ _ _ _ _ _ _ _ _ _ _ _ _ _ _ _ _ _ _ _ _ _ _ _ _ _ _ _ _ _ _ _ _ _ _ _ _ _ _ _ _ _ _ _ _ _ _ _ _ _ _ _ _ _ _ _ _ _ _ _ _ _ _ _ _ _ _ _ _ _ _ _ _ _ _ _ _ _ _ _ _ _ _ _ _ _ _ _ _ _ _ _ _ _ _ _ _ _ _ _ _ _ _ _ _ _ _ _ _ _ _ _ _ _ _ _ _ _ _ _ _ _ _ _ _ _ _ _ _ _ _ _ _ _ _ _ _ _ _ _ _ _ _ _ _ _ _ _ _ _ _ _ _ _ _ _ ⟨L, runs, rs, V, G, V', G', _, xs, rfl, H.out.2.2, H.out.1.up.below HB5.out⟩
  · go_wp2_with (go_at_call 12; (with_reducible refine (HCO.out _).mono ?_); rintro e w5 ⟨rfl, rfl⟩; dsimp only)
    exact HQ.out _ _ _ _ _ _ _ _ _ _ _ _ _ _ _ _ _ _ _ _ _ _ _ _ _ _ _ _ _ _ _ _ _ _ _ _ _ _ _ _ _ _ _ _ _ _ _ _ _ _ _ _ _ _ _ _ _ _ _ _ _ _ _ _ _ _ _ _ _ _ _ _ _ _ _ _ _ _ _ _ _ _ _ _ _ _ _ _ _ _ _ _ _ _ _ _ _ _ _ _ _ _ _ _ _ _ _ _ _ _ _ _ _ _ _ _ _ _ _ _ _ _ _ _ _ _ _ _ _ _ _ _ _ _ _ _ _ _ _ _ _ _ _ _ _ _ _ _ _ _ _ _ _ _ _ _ _ _ _ _ _ _ _ _ _ _ _ _ _ _ _ _ _ _ _ _ _ _ _ _ _ _ _ _ _ _ _ _ _ _ _ _ _ _ _ _ _ _ _ _ _ _ _ _ _ _ _ _ _ _ _ _ _ _ _ _ _ _ _ _ _ _ _ _ _ _ _ _ _ _ _ _ _ _ _ _ _ _ _ _ _ _ _ _ _ _ _ _ _ _ _ _ _ _ _ _ _ _ _ _ _ _ _ _ _ _ _ _ _ _ _ _ _ _ _ _ _ _ _ _ _ _ _ _ _ _ _ _ _ _ _ _ _ _ _ _ _ _ _ _ _ _ _ _ _ _ _ _ _ _ _ _ _ _ _ _ _ _ _ _ _ _ _ _ _ _ _ _ _ ⟨L, runs, rs, V, G, V', G', _, xs, rfl, H.out.2.2, H.out.1.up.below HB4.out⟩
end Go.Proofs.Ythblcfhflkapmaa

namespace Go.Proofs.Ythblcfhflkapmaa
open Go Go.ChangeShapes Go.WideShapes Go.ChangeAt Go.RowKit Go.Sort
set_option linter.unusedVariables false
set_option linter.unusedSimpArgs false

theorem two_other {w : World} {q i1 i2 b i : Nat} {v1 v2 v : Value} (hb : b ≠ q) (h : w.cell? ⟨b, i, none⟩ = some v) : ((w.setCell ⟨q, i1, none⟩ v1).setCell ⟨q, i2, none⟩ v2).cell? ⟨b, i, none⟩ = some v :=
  (World.cell?_of_block (a := ⟨b, i, none⟩) (by show ((w.setCell ⟨q, i1, none⟩ v1).setCell ⟨q, i2, none⟩ v2).heap[b]? = w.heap[b]?; rw [set_other _ _ _ _ hb, set_other _ _ _ _ hb])).trans h
set_option maxRecDepth 100000 in
set_option maxHeartbeats 16000000 in
theorem set_in {u0 u1 u2 u3 u4 u7 u15 u16 u17 u18 u19 u20 u21 u22 u23 u24 u25 u26 u27 u28 u29 u30 u31 u32 u33 u34 u35 u36 u37 u38 u39 u40 u41 u42 u43 u44 u45 u46 u47 u48 u49 u50 u51 u52 u53 u54 u55 u56 u57 u58 u59 u60 u61 u62 u63 u64 u65 u66 u67 u68 u69 u70 u71 u72 u73 u74 u75 u76 u77 u78 u79 u80 u81 u82 u83 u84 u85 u86 u87 u88 u89 u90 u91 u92 u93 u94 u95 u96 u97 u98 u99 u100 u101 u102 u103 u104 u105 u106 u107 u108 u109 u110 u111 u112 u113 u114 u115 u116 u117 u118 u119 u120 u121 u122 u123 u124 u125 u126 u127 u128 u129 u130 u131 u132 u133 u134 u135 u136 u137 u138 u139 u140 u141 u142 u143 u144 u145 u146 u147 u148 u149 u150 u151 u152 u153 u154 u155 u156 u157 u158 u159 u160 u161 u162 u163 u164 u165 u166 u167 u168 u169 u170 u171 u172 u173 u174 u175 u176 u177 u178 u179 u180 u181 u182 u183 u184 u185 u186 u187 u188 u189 u190 u191 u192 u193 u194 u195 u196 u197 u198 u199 u200 u201 u202 u203 u204 u205 u206 u207 u208 u209 u210 u211 u212 u213 u214 u215 u216 u217 u218 u219 u220 u221 u222 u223 u224 u225 u226 u227 u228 u229 u230 u231 u232 u233 u234 u235 u236 u237 u238 u239 u240 u241 u242 u243 u244 u245 u246 u247 u248 u249 u250 u251 u252 u253 u254 u255 u256 u257 u258 u259 u260 u261 u262 u263 u264 u265 u266 u267 u268 u269 u270 u271 u272 u273 u274 u275 u276 u277 u278 u279 u280 u281 u282 u283 u284 u285 u286 u287 u288 u289 u290 u291 u292 u293 u294 u295 u296 u297 u298 u299 u300 u301 u302 u303 u304 u305 u306 u307 u308 u309 u310 u311 u312 u313 u314 u315 u316 u317 u318 u319 u320 u321 u322 u323 u324 u325 u326 u327 u328 u329 u330 u331 u332 u333 u334 u335 u336 u337 u338 u339 u340 u341 u342 u343 u344 u345 u346 u347 u348 u349 u350 u351 u352 u353 u354 u355 u356 u357 u358 u359 u360 u361 u362 u363 u364 u365 u366 u367 u368 u369 u370 u371 u372 u373 u374 u375 u376 u377 u378 u379 : Value} {Q : Exit → Act → World → Prop} (w0 w : World) (N hb mb i bx bw : Nat) (half runs p : Int) (L : List Ob) (rs l : List Wd) (V G V' G' x : Value) (xs : List RO) (A Al : Option Addr) (c9 c12 : Nat) (d : Dd) (u : Wd) (hP : HP w0 w N hb mb half i L runs rs V G V' G' x xs A) (hD : DS w (fun b => Nh hb V G V' G' b ∧ Nr mb x xs b) bx bw d Al l u) (hi : i ≤ 60) (hz : 1 ≤ half ∧ half ≤ 5000) (hI : I64 d.i) (hc9 : rs.length ≤ c9)
    (hQ : ∀ (v4 v11 v12 v13 v14 v15 v16 v17 v18 v19 v20 v21 v22 v23 v24 v25 v26 v27 v28 v29 v30 v31 v32 v33 v34 v35 v36 v81 v82 v83 v84 v85 v86 v87 v88 v89 v90 v91 v92 v93 v94 v95 v96 v97 v98 v99 v100 v101 v102 v103 v104 v105 v106 v107 v108 v109 v110 v111 v112 v113 v114 v115 v116 v117 v118 v119 v120 v121 v122 v123 v124 v125 v126 v127 v128 v129 v130 v131 v132 v133 v134 v135 v136 v137 v138 v139 v140 v141 v142 v143 v144 v145 v146 v147 v148 v149 v150 v151 v152 v153 v154 v155 v156 v157 v158 v159 v160 v161 v162 v163 v164 v165 v166 v167 v168 v169 v170 v171 v172 v173 v174 v175 v176 v177 v178 v179 v180 v181 v182 v183 v184 v185 v186 v187 v188 v189 v190 v191 v192 v193 v194 v195 v196 v197 v198 v199 v200 v201 v202 v203 v204 v205 v206 v207 v208 v209 v210 v211 v212 v213 v214 v215 v216 v217 v218 v219 v220 v221 v222 v223 v224 v225 v226 v227 v228 v229 v230 v231 v232 v233 v234 v235 v236 v237 v238 v239 v240 v241 v242 v243 v244 v245 v246 v247 v248 v249 v250 v251 v252 v253 v254 v255 v256 v257 v258 v259 v260 v261 v262 v263 v264 v265 v266 v267 v268 v269 v270 v271 v272 v273 v274 v275 v276 v277 v278 v279 v280 v281 v282 v283 v284 v285 v286 v287 v288 v289 v290 v291 v292 v293 v294 v295 v296 v297 v298 v299 v300 v301 v302 v303 v304 v305 v306 v307 v308 v309 v310 v311 v312 v313 v314 v315 v316 v317 v318 v319 v320 v321 v322 v323 v324 v325 v326 v327 v328 v329 v330 v331 v332 v333 v334 v335 v336 v337 v338 v339 v340 v341 v342 v343 v344 v345 v346 v347 v348 v349 v350 v351 v352 v353 v354 v355 v356 v357 v358 v359 v360 v361 v362 v363 v364 v365 v366 v367 v368 v369 v370 v371 v372 v373 v374 v375 v376 v377 v378 : Value) (w' : World) (A' : Option Addr) (n' c' : Nat), SP w0 w' N hb mb half (i + 1) A' n' c' → Q .normal ⟨#[u0, u1, u2, u3, v4, .bool true, .pointer (some ⟨hb, 0, none⟩), u7, .pointer (some ⟨mb, 0, none⟩), (.slice A' n' c'), .int .i64 (i : Nat), v11, v12, v13, v14, v15, v16, v17, v18, v19, v20, v21, v22, v23, v24, v25, v26, v27, v28, v29, v30, v31, v32, v33, v34, v35, v36, u37, u38, u39, u40, u41, u42, u43, u44, u45, u46, u47, u48, u49, u50, u51, u52, u53, u54, u55, u56, u57, u58, u59, u60, u61, u62, u63, u64, u65, u66, u67, u68, u69, u70, u71, u72, u73, u74, u75, u76, u77, u78, u79, u80, v81, v82, v83, v84, v85, v86, v87, v88, v89, v90, v91, v92, v93, v94, v95, v96, v97, v98, v99, v100, v101, v102, v103, v104, v105, v106, v107, v108, v109, v110, v111, v112, v113, v114, v115, v116, v117, v118, v119, v120, v121, v122, v123, v124, v125, v126, v127, v128, v129, v130, v131, v132, v133, v134, v135, v136, v137, v138, v139, v140, v141, v142, v143, v144, v145, v146, v147, v148, v149, v150, v151, v152, v153, v154, v155, v156, v157, v158, v159, v160, v161, v162, v163, v164, v165, v166, v167, v168, v169, v170, v171, v172, v173, v174, v175, v176, v177, v178, v179, v180, v181, v182, v183, v184, v185, v186, v187, v188, v189, v190, v191, v192, v193, v194, v195, v196, v197, v198, v199, v200, v201, v202, v203, v204, v205, v206, v207, v208, v209, v210, v211, v212, v213, v214, v215, v216, v217, v218, v219, v220, v221, v222, v223, v224, v225, v226, v227, v228, v229, v230, v231, v232, v233, v234, v235, v236, v237, v238, v239, v240, v241, v242, v243, v244, v245, v246, v247, v248, v249, v250, v251, v252, v253, v254, v255, v256, v257, v258, v259, v260, v261, v262, v263, v264, v265, v266, v267, v268, v269, v270, v271, v272, v273, v274, v275, v276, v277, v278, v279, v280, v281, v282, v283, v284, v285, v286, v287, v288, v289, v290, v291, v292, v293, v294, v295, v296, v297, v298, v299, v300, v301, v302, v303, v304, v305, v306, v307, v308, v309, v310, v311, v312, v313, v314, v315, v316, v317, v318, v319, v320, v321, v322, v323, v324, v325, v326, v327, v328, v329, v330, v331, v332, v333, v334, v335, v336, v337, v338, v339, v340, v341, v342, v343, v344, v345, v346, v347, v348, v349, v350, v351, v352, v353, v354, v355, v356, v357, v358, v359, v360, v361, v362, v363, v364, v365, v366, v367, v368, v369, v370, v371, v372, v373, v374, v375, v376, v377, v378, u379], []⟩ w') :
    ∀ (j k : Nat), at_ L p = some j → fineB L u = true → d.i = (k : Nat) → k < (ob L j).2.length → Code.wp Try.prog setC Q ⟨#[u0, u1, u2, u3, u4, .bool true, .pointer (some ⟨hb, 0, none⟩), u7, .pointer (some ⟨mb, 0, none⟩), .slice A rs.length c9, .int .i64 (i : Nat), .pointer (some ⟨bx, 0, none⟩), .slice Al l.length c12, .pointer (some ⟨bw, 0, none⟩), .int .i64 p, u15, u16, u17, u18, u19, u20, u21, u22, u23, u24, u25, u26, u27, u28, u29, u30, u31, u32, u33, u34, u35, u36, u37, u38, u39, u40, u41, u42, u43, u44, u45, u46, u47, u48, u49, u50, u51, u52, u53, u54, u55, u56, u57, u58, u59, u60, u61, u62, u63, u64, u65, u66, u67, u68, u69, u70, u71, u72, u73, u74, u75, u76, u77, u78, u79, u80, u81, u82, u83, u84, u85, u86, u87, u88, u89, u90, u91, u92, u93, u94, u95, u96, u97, u98, u99, u100, u101, u102, u103, u104, u105, u106, u107, u108, u109, u110, u111, u112, u113, u114, u115, u116, u117, u118, u119, u120, u121, u122, u123, u124, u125, u126, u127, u128, u129, u130, u131, u132, u133, u134, u135, u136, u137, u138, u139, u140, u141, u142, u143, u144, u145, u146, u147, u148, u149, u150, u151, u152, u153, u154, u155, u156, u157, u158, u159, u160, u161, u162, u163, u164, u165, u166, u167, u168, u169, u170, u171, u172, u173, u174, u175, u176, u177, u178, u179, u180, u181, u182, u183, u184, u185, u186, u187, u188, u189, u190, u191, u192, u193, u194, u195, u196, u197, u198, u199, u200, u201, u202, u203, u204, u205, u206, u207, u208, u209, u210, u211, u212, u213, u214, u215, u216, u217, u218, u219, u220, u221, u222, u223, u224, u225, u226, u227, u228, u229, u230, u231, u232, u233, u234, u235, u236, u237, u238, u239, u240, u241, u242, u243, u244, u245, u246, u247, u248, u249, u250, u251, u252, u253, u254, u255, u256, u257, u258, u259, u260, u261, u262, u263, u264, u265, u266, u267, u268, u269, u270, u271, u272, u273, u274, u275, u276, u277, u278, u279, u280, u281, u282, u283, u284, u285, u286, u287, u288, u289, u290, u291, u292, u293, u294, u295, u296, u297, u298, u299, u300, u301, u302, u303, u304, u305, u306, u307, u308, u309, u310, u311, u312, u313, u314, u315, u316, u317, u318, u319, u320, u321, u322, u323, u324, u325, u326, u327, u328, u329, u330, u331, u332, u333, u334, u335, u336, u337, u338, u339, u340, u341, u342, u343, u344, u345, u346, u347, u348, u349, u350, u351, u352, u353, u354, u355, u356, u357, u358, u359, u360, u361, u362, u363, u364, u365, u366, u367, u368, u369, u370, u371, u372, u373, u374, u375, u376, u377, u378, u379], []⟩ w := by
  intro j k ha hfu hik hkl
  obtain ⟨hs, hll⟩ := hP.small hz
  obtain ⟨hjl, hpj⟩ := at_some.1 ha
  have hfn := (fineB_iff L u).1 hfu
  have HSE := Set_yes hP.ch hP.wf (by omega) hP.le j k u hjl hkl hfn
  rw [hpj, ← hik] at HSE
  have HSE := Lib.hid HSE
  obtain ⟨e0, e1, e2, e3, e4, e5, e6, e7⟩ := cells8 hD.cx
  obtain ⟨t0, t1⟩ := cells2 hD.cw
  have hxl := hP.rh.len
  obtain ⟨y, hy⟩ : ∃ y, xs[j]? = some y := ⟨_, List.getElem?_eq_getElem (by rw [hxl]; exact hjl)⟩
  have hyo : y.o = ob L j := by have h1 := hP.rh.get hy; unfold ob; rw [h1]; rfl
  have hkl2 : k < y.o.2.length := by rw [hyo]; exact hkl
  obtain ⟨q, hq⟩ : ∃ q, y.A = some ⟨q, 0, none⟩ := by
    have hw := hP.rh.ws y (List.mem_of_getElem? hy)
    rcases hw.2 with ⟨e, h0⟩ | ⟨g, cap, cur, e, _⟩
    · omega
    · injection e with e1 _ _
      exact ⟨g, e1⟩
  obtain ⟨Ax, cx, hxx, _⟩ := own_cap hP.rh.row
  have H := Lib.hid (And.intro hP (And.intro hD hc9))
  have HQ := Lib.hid hQ
  have HJ := Lib.hid (And.intro hjl (And.intro hfn (And.intro hy (And.intro hyo (And.intro hkl2 (And.intro hq (And.intro hs hll)))))))
  have HHA := Lib.hid (atI_some ha)
  have HFU := Lib.hid hfu
  have HXX := Lib.hid hxx
  have HAS := Lib.hid (fun W : World => as_any u.ptr u.v W)
  have j0 : (0 : Int) ≤ (j : Int) := by omega
  have j1 : (j : Int) < (xs.length : Int) := by omega
  have k0 : (0 : Int) ≤ (k : Int) := by omega
  have k1 : (k : Int) < (y.o.2.length : Int) := by omega
  obtain ⟨yn, hyn⟩ : ∃ yn, y.o.2.length = yn := ⟨_, rfl⟩
  rw [hyn] at k1
  have HYN := Lib.hid hyn
  rw [hik] at e3
  have HIK := Lib.hid hik
  clear hP hD hi hz hI hc9 hQ ha hfu hkl hs hll hjl hpj hfn e0 e1 e2 e4 e5 e6 e7 hxl hy hyo hkl2 hq hxx hyn
  rw [HIK.out] at HSE
  clear hik
  conv => arg 2; whnf
  go_wp2_with fail
  refine HSE.out.mono ?_
  rintro e w1 ⟨rfl, hch, htr, hbl⟩
  have H1 := Lib.hid (And.intro hch (And.intro htr hbl))
  have HDS := Lib.hid (H.out.2.1.keep (P' := fun b => Nh hb V G V' G' b ∧ Nr mb x xs b) (fun b hp hl => ⟨⟨(htr b hp.1 hl).1, hp.2⟩, (htr b hp.1 hl).2⟩) hbl.size)
  have HRH := Lib.hid (H.out.1.rh.beside H.out.1.dj htr)
  have HAT := Lib.hid (fun (W : World) (h : Below w1.heap.size w1 W) => At_any (HRH.out.below h) (by have := HJ.out.2.2.2.2.2.2.2; omega) p)
  rw [HHA.out] at HAT
  have HFI := Lib.hid (fun (W : World) (h : Below w1.heap.size w1 W) (A4 : Option Addr) (c4 : Nat) (hr : Rd W 2 A4 1 (wcells [u])) => (show Calls Try.prog 17 #[.pointer (some ⟨mb, 0, none⟩), .slice A4 1 c4] W fun e w' => e = .returned (.bool (fineB L u)) ∧ W = w' from by have q := RFine_any (HRH.out.below h) (by have := HJ.out.2.2.2.2.2.2.2; omega) A4 c4 [u] hr (by simp); simpa using q))
  rw [HFU.out] at HFI
  obtain ⟨c0, cx1, c2⟩ := cells3 HRH.out.hd
  have hat := HRH.out
  rw [HXX.out] at hat cx1
  obtain ⟨b9, o9, hA9, _, _, f11⟩ := hat.at rfl HJ.out.2.2.1
  rw [HJ.out.2.2.2.2.2.1, HYN.out] at f11
  obtain ⟨s0, s1, s2, s3, s4, s5, s6, s7⟩ := cells8 HDS.out.cx
  obtain ⟨r0, r1⟩ := cells2 HDS.out.cw
  obtain ⟨z, hz⟩ : ∃ z, y.o.2[k]? = some z := ⟨_, List.getElem?_eq_getElem HJ.out.2.2.2.2.1⟩
  have hws := HRH.out.ws y (List.mem_of_getElem? HJ.out.2.2.1)
  rw [HJ.out.2.2.2.2.2.1] at hws
  obtain ⟨b', o', eA, _, g0, g1⟩ := (Rd.of_own hws).word hz
  cases eA
  rw [Nat.zero_add] at g0 g1
  have hfz : ∀ i, w1.frozen? ⟨q, i, none⟩ = false := by
    rcases hws.2 with ⟨e, _⟩ | ⟨g, cap, cur, e, _, hh, _⟩
    · cases e
    · injection e with e1 _ _
      injection e1 with e1
      injection e1 with e1
      subst e1
      exact fun i => Lib.frozen_of_heap hh i
  have hfzB : ∀ (W : World), Below w1.heap.size w1 W → ∀ i, W.frozen? ⟨q, i, none⟩ = false := fun W h i => by
    have hql := (hws.lt q rfl).2
    rw [World.frozen?_of_block (a := ⟨q, i, none⟩) (h.block q hql)]
    exact hfz i
  rw [HXX.out] at HRH
  have HS := Lib.hid (fun (W : World) (h : Below w1.heap.size w1 W) => And.intro (cell_below h cx1) (And.intro (cell_below h f11) (And.intro (HIK.out ▸ cell_below h s3) (And.intro (cell_below h r0) (cell_below h r1)))))
  have HG := Lib.hid (fun (W : World) (h : Below w1.heap.size w1 W) => And.intro (cell_below h g0) (And.intro (cell_below h g1) (And.intro (hfzB W h (k * 2)) (hfzB W h (k * 2 + 1)))))
  have hRS := fun (W : World) (h : Below w1.heap.size w1 W) => rh_setw (u := u) (hat.below h) HJ.out.2.2.1 HJ.out.2.2.2.2.1 HJ.out.2.2.2.2.2.1
  have hNr : Nr mb x xs bx ∧ Nr mb x xs bw := ⟨HDS.out.pb.2, HDS.out.pw.2⟩
  have HNE := Lib.hid (show mb ≠ q ∧ b9 ≠ q ∧ bx ≠ q ∧ bw ≠ q from ⟨fun e => (hRS w1 (Below.refl _ _)).2.2.2.1 e.symm, fun e => (hRS w1 (Below.refl _ _)).2.2.2.2 (by rw [hA9, ← e]; rfl), fun e => hNr.1.2.2 y (List.mem_of_getElem? HJ.out.2.2.1) _ HJ.out.2.2.2.2.2.1 e.symm, fun e => hNr.2.2.2 y (List.mem_of_getElem? HJ.out.2.2.1) _ HJ.out.2.2.2.2.2.1 e.symm⟩)
  have HRS := Lib.hid hRS
  subst hA9
  clear hch htr hbl c0 cx1 c2 f11 s0 s1 s2 s3 s4 s5 s6 s7 r0 r1 hz g0 g1 hws hfz hfzB hRS hNr hat e3 t0 t1
  have e3 := (HS.out w1 (Below.refl _ _)).2.2.1
  have t0 := (HS.out w1 (Below.refl _ _)).2.2.2.1
  have t1 := (HS.out w1 (Below.refl _ _)).2.2.2.2
  dsimp only
  go_upto_region 48 with (first
    | (go_at_call 16; (with_reducible refine (HAT.out _ (Below.refl _ _)).mono ?_); rintro e w2 ⟨rfl, rfl⟩; dsimp only)
    | (go_at_call 18; (with_reducible refine (HAS.out _).mono ?_); rintro e w3 ⟨rfl, hb3⟩; have HB3 := Lib.hid hb3; have HB4 := Lib.hid (HB3.out.alloc HB3.out.size (.cells #[.bool u.ptr, .int .i64 u.v] DTy)); have HR4 := Lib.hid (rd_oneR w3 u); clear hb3; dsimp only)
    | (go_at_call 17; (with_reducible refine (HFI.out _ HB4.out _ _ HR4.out).mono ?_); rintro e w5 ⟨rfl, rfl⟩; dsimp only))
  clear e3 t0 t1
  obtain ⟨cx1, f11, e3, t0, t1⟩ := HS.out _ HB4.out
  generalize w3.alloc (.cells #[.bool u.ptr, .int .i64 u.v] DTy) = w4 at *
  go_upto_region 50 with fail
  go_quiet (fail)
  have HB5 := Lib.hid (below_drewN HB4.out nq)
  clear cx1 f11 e3 t0 t1
  generalize w4.drewN nq = w5 at *
  obtain ⟨cx1, f11, e3, t0, t1⟩ := HS.out _ HB5.out
  have HSB := Lib.hid (fun (W : World) (h : Below w5.heap.size w5 W) => HS.out W (HB5.out.trans (h.mono HB5.out.size)))
  go_upto_region 54 with fail
  go_region_held3 (fun W => W.cell? ⟨mb, 1, none⟩ = some (.slice (some ⟨b9, o9, none⟩) xs.length cx) ∧ W.cell? ⟨b9, o9 + j * 3 + 2, none⟩ = some (.slice (some ⟨q, 0, none⟩) yn y.c) ∧ W.cell? ⟨bx, 3, none⟩ = some (.int .i64 (k : Nat)) ∧ W.cell? ⟨bw, 0, none⟩ = some (.bool u.ptr) ∧ W.cell? ⟨bw, 1, none⟩ = some (.int .i64 u.v))
    (first | (with_reducible exact HSW.out) | (with_reducible exact HSB.out _ HB6.out) | (with_reducible exact HSB.out _ (below_drew1 _)) | go_keep | fail)
    (first
      | (go_simp; go_at_call 18; (with_reducible refine (HAS.out _).mono ?_); rintro e w6 ⟨rfl, hb6⟩; have HB6 := Lib.hid (below_then (below_drew1 w5) hb6); have HB7 := Lib.hid (HB5.out.trans (HB6.out.mono HB5.out.size)); obtain ⟨g0, g1, z0, z1⟩ := HG.out w6 HB7.out; have HC6 := Lib.hid (HSB.out _ HB6.out); have HSW := Lib.hid (show ((w6.setCell ⟨q, k * 2, none⟩ (.bool u.ptr)).setCell ⟨q, k * 2 + 1, none⟩ (.int .i64 u.v)).cell? ⟨mb, 1, none⟩ = some (.slice (some ⟨b9, o9, none⟩) xs.length cx) ∧ ((w6.setCell ⟨q, k * 2, none⟩ (.bool u.ptr)).setCell ⟨q, k * 2 + 1, none⟩ (.int .i64 u.v)).cell? ⟨b9, o9 + j * 3 + 2, none⟩ = some (.slice (some ⟨q, 0, none⟩) yn y.c) ∧ ((w6.setCell ⟨q, k * 2, none⟩ (.bool u.ptr)).setCell ⟨q, k * 2 + 1, none⟩ (.int .i64 u.v)).cell? ⟨bx, 3, none⟩ = some (.int .i64 (k : Nat)) ∧ ((w6.setCell ⟨q, k * 2, none⟩ (.bool u.ptr)).setCell ⟨q, k * 2 + 1, none⟩ (.int .i64 u.v)).cell? ⟨bw, 0, none⟩ = some (.bool u.ptr) ∧ ((w6.setCell ⟨q, k * 2, none⟩ (.bool u.ptr)).setCell ⟨q, k * 2 + 1, none⟩ (.int .i64 u.v)).cell? ⟨bw, 1, none⟩ = some (.int .i64 u.v) from ⟨two_other HNE.out.1 HC6.out.1, two_other HNE.out.2.1 HC6.out.2.1, two_other HNE.out.2.2.1 HC6.out.2.2.1, two_other HNE.out.2.2.2 HC6.out.2.2.2.1, two_other HNE.out.2.2.2 HC6.out.2.2.2.2⟩); clear hb6; dsimp only)
      | fail)
  have hrs := HRS.out w6 HB7.out
  rw [← HXX.out] at hrs
  have hym := List.mem_of_getElem? HJ.out.2.2.1
  have hqn : ∀ b, Nr mb x xs b → b ≠ q := fun b nr e => nr.2.2 y hym _ HJ.out.2.2.2.2.2.1 e.symm
  have hd1 : ∀ b, Nh hb V G V' G' b ∨ Nr mb x xs b := dj_two H.out.1.rh H.out.1.dj H1.out.2.1 H1.out.1 (Nat.le_refl _) (Tr.refl w1 _)
  have hqh : Nh hb V G V' G' q := (hd1 q).resolve_right (fun nr => hqn q nr rfl)
  have hs1 := H1.out.2.2.size
  have hs7 := HB7.out.size
  have ho : ∀ b, b ≠ q → ((w6.setCell ⟨q, k * 2, none⟩ (.bool u.ptr)).setCell ⟨q, k * 2 + 1, none⟩ (.int .i64 u.v)).heap[b]? = w6.heap[b]? := fun b hb => by rw [set_other _ _ _ _ hb, set_other _ _ _ _ hb]
  have hob := ob_get HJ.out.1
  have hsz : ((w6.setCell ⟨q, k * 2, none⟩ (.bool u.ptr)).setCell ⟨q, k * 2 + 1, none⟩ (.int .i64 u.v)).heap.size = w6.heap.size := by rw [World.size_setCell, World.size_setCell]
  refine HQ.out _ _ _ _ _ _ _ _ _ _ _ _ _ _ _ _ _ _ _ _ _ _ _ _ _ _ _ _ _ _ _ _ _ _ _ _ _ _ _ _ _ _ _ _ _ _ _ _ _ _ _ _ _ _ _ _ _ _ _ _ _ _ _ _ _ _ _ _ _ _ _ _ _ _ _ _ _ _ _ _ _ _ _ _ _ _ _ _ _ _ _ _ _ _ _ _ _ _ _ _ _ _ _ _ _ _ _ _ _ _ _ _ _ _ _ _ _ _ _ _ _ _ _ _ _ _ _ _ _ _ _ _ _ _ _ _ _ _ _ _ _ _ _ _ _ _ _ _ _ _ _ _ _ _ _ _ _ _ _ _ _ _ _ _ _ _ _ _ _ _ _ _ _ _ _ _ _ _ _ _ _ _ _ _ _ _ _ _ _ _ _ _ _ _ _ _ _ _ _ _ _ _ _ _ _ _ _ _ _ _ _ _ _ _ _ _ _ _ _ _ _ _ _ _ _ _ _ _ _ _ _ _ _ _ _ _ _ _ _ _ _ _ _ _ _ _ _ _ _ _ _ _ _ _ _ _ _ _ _ _ _ _ _ _ _ _ _ _ _ _ _ _ _ _ _ _ _ _ _ _ _ _ _ _ _ _ _ _ _ _ _ _ _ _ _ _ _ _ _ _ _ _ _ _ _ _ _ _ _ _ _ _ _ _ _ _ _ _ _ _ _ _ _ _ _ _ _ _ _ ⟨L.set j ((ob L j).1, (ob L j).2.set k u), runs, rs, V, G, V', G', x, _, rfl, H.out.2.2, ⟨(H1.out.1.below HB7.out).keep (fun b hn hl => ho b (fun e => hn (e ▸ hqh))), hrs.1, H.out.1.wf.setw hob HJ.out.2.1, by rw [sizes_setw hob (by simp)]; exact H.out.1.sz, ⟨H.out.1.ru.1, by have := H.out.1.ru.2; omega⟩, by have := H.out.1.ln; omega, fun b _ => (hd1 b).imp id (hrs.2.1 b), H.out.1.rt.keepB (fun a ha _ hl => (ho _ (hqn _ (H.out.1.ra a ha).2.2)).trans ((HB7.out.block _ (by omega)).trans (H1.out.2.1 _ (H.out.1.ra a ha).2.1 hl).2)), fun a ha => ⟨by have := (H.out.1.ra a ha).1; omega, (H1.out.2.1 _ (H.out.1.ra a ha).2.1 (H.out.1.ra a ha).1).1, hrs.2.1 _ (H.out.1.ra a ha).2.2⟩, fun v hv => fine_setw hob (by simp) (H.out.1.fn v hv), ((H.out.1.bl.trans (H1.out.2.2.trans (HB7.out.mono (Nat.le_trans H.out.1.le hs1)))).setCell (p := ⟨q, k * 2, none⟩) hrs.2.2.1 _).setCell (p := ⟨q, k * 2 + 1, none⟩) hrs.2.2.1 _, by have := H.out.1.le; omega⟩⟩
theorem case_set {u0 u1 u2 u3 u4 u7 u15 u16 u17 u18 u19 u20 u21 u22 u23 u24 u25 u26 u27 u28 u29 u30 u31 u32 u33 u34 u35 u36 u37 u38 u39 u40 u41 u42 u43 u44 u45 u46 u47 u48 u49 u50 u51 u52 u53 u54 u55 u56 u57 u58 u59 u60 u61 u62 u63 u64 u65 u66 u67 u68 u69 u70 u71 u72 u73 u74 u75 u76 u77 u78 u79 u80 u81 u82 u83 u84 u85 u86 u87 u88 u89 u90 u91 u92 u93 u94 u95 u96 u97 u98 u99 u100 u101 u102 u103 u104 u105 u106 u107 u108 u109 u110 u111 u112 u113 u114 u115 u116 u117 u118 u119 u120 u121 u122 u123 u124 u125 u126 u127 u128 u129 u130 u131 u132 u133 u134 u135 u136 u137 u138 u139 u140 u141 u142 u143 u144 u145 u146 u147 u148 u149 u150 u151 u152 u153 u154 u155 u156 u157 u158 u159 u160 u161 u162 u163 u164 u165 u166 u167 u168 u169 u170 u171 u172 u173 u174 u175 u176 u177 u178 u179 u180 u181 u182 u183 u184 u185 u186 u187 u188 u189 u190 u191 u192 u193 u194 u195 u196 u197 u198 u199 u200 u201 u202 u203 u204 u205 u206 u207 u208 u209 u210 u211 u212 u213 u214 u215 u216 u217 u218 u219 u220 u221 u222 u223 u224 u225 u226 u227 u228 u229 u230 u231 u232 u233 u234 u235 u236 u237 u238 u239 u240 u241 u242 u243 u244 u245 u246 u247 u248 u249 u250 u251 u252 u253 u254 u255 u256 u257 u258 u259 u260 u261 u262 u263 u264 u265 u266 u267 u268 u269 u270 u271 u272 u273 u274 u275 u276 u277 u278 u279 u280 u281 u282 u283 u284 u285 u286 u287 u288 u289 u290 u291 u292 u293 u294 u295 u296 u297 u298 u299 u300 u301 u302 u303 u304 u305 u306 u307 u308 u309 u310 u311 u312 u313 u314 u315 u316 u317 u318 u319 u320 u321 u322 u323 u324 u325 u326 u327 u328 u329 u330 u331 u332 u333 u334 u335 u336 u337 u338 u339 u340 u341 u342 u343 u344 u345 u346 u347 u348 u349 u350 u351 u352 u353 u354 u355 u356 u357 u358 u359 u360 u361 u362 u363 u364 u365 u366 u367 u368 u369 u370 u371 u372 u373 u374 u375 u376 u377 u378 u379 : Value} {Q : Exit → Act → World → Prop} (w0 w : World) (N hb mb i bx bw : Nat) (half runs p : Int) (L : List Ob) (rs l : List Wd) (V G V' G' x : Value) (xs : List RO) (A Al : Option Addr) (c9 c12 : Nat) (d : Dd) (u : Wd) (hP : HP w0 w N hb mb half i L runs rs V G V' G' x xs A) (hD : DS w (fun b => Nh hb V G V' G' b ∧ Nr mb x xs b) bx bw d Al l u) (hi : i ≤ 60) (hz : 1 ≤ half ∧ half ≤ 5000) (hI : I64 d.i) (hc9 : rs.length ≤ c9)
    (hQ : ∀ (v4 v11 v12 v13 v14 v15 v16 v17 v18 v19 v20 v21 v22 v23 v24 v25 v26 v27 v28 v29 v30 v31 v32 v33 v34 v35 v36 v81 v82 v83 v84 v85 v86 v87 v88 v89 v90 v91 v92 v93 v94 v95 v96 v97 v98 v99 v100 v101 v102 v103 v104 v105 v106 v107 v108 v109 v110 v111 v112 v113 v114 v115 v116 v117 v118 v119 v120 v121 v122 v123 v124 v125 v126 v127 v128 v129 v130 v131 v132 v133 v134 v135 v136 v137 v138 v139 v140 v141 v142 v143 v144 v145 v146 v147 v148 v149 v150 v151 v152 v153 v154 v155 v156 v157 v158 v159 v160 v161 v162 v163 v164 v165 v166 v167 v168 v169 v170 v171 v172 v173 v174 v175 v176 v177 v178 v179 v180 v181 v182 v183 v184 v185 v186 v187 v188 v189 v190 v191 v192 v193 v194 v195 v196 v197 v198 v199 v200 v201 v202 v203 v204 v205 v206 v207 v208 v209 v210 v211 v212 v213 v214 v215 v216 v217 v218 v219 v220 v221 v222 v223 v224 v225 v226 v227 v228 v229 v230 v231 v232 v233 v234 v235 v236 v237 v238 v239 v240 v241 v242 v243 v244 v245 v246 v247 v248 v249 v250 v251 v252 v253 v254 v255 v256 v257 v258 v259 v260 v261 v262 v263 v264 v265 v266 v267 v268 v269 v270 v271 v272 v273 v274 v275 v276 v277 v278 v279 v280 v281 v282 v283 v284 v285 v286 v287 v288 v289 v290 v291 v292 v293 v294 v295 v296 v297 v298 v299 v300 v301 v302 v303 v304 v305 v306 v307 v308 v309 v310 v311 v312 v313 v314 v315 v316 v317 v318 v319 v320 v321 v322 v323 v324 v325 v326 v327 v328 v329 v330 v331 v332 v333 v334 v335 v336 v337 v338 v339 v340 v341 v342 v343 v344 v345 v346 v347 v348 v349 v350 v351 v352 v353 v354 v355 v356 v357 v358 v359 v360 v361 v362 v363 v364 v365 v366 v367 v368 v369 v370 v371 v372 v373 v374 v375 v376 v377 v378 : Value) (w' : World) (A' : Option Addr) (n' c' : Nat), SP w0 w' N hb mb half (i + 1) A' n' c' → Q .normal ⟨#[u0, u1, u2, u3, v4, .bool true, .pointer (some ⟨hb, 0, none⟩), u7, .pointer (some ⟨mb, 0, none⟩), (.slice A' n' c'), .int .i64 (i : Nat), v11, v12, v13, v14, v15, v16, v17, v18, v19, v20, v21, v22, v23, v24, v25, v26, v27, v28, v29, v30, v31, v32, v33, v34, v35, v36, u37, u38, u39, u40, u41, u42, u43, u44, u45, u46, u47, u48, u49, u50, u51, u52, u53, u54, u55, u56, u57, u58, u59, u60, u61, u62, u63, u64, u65, u66, u67, u68, u69, u70, u71, u72, u73, u74, u75, u76, u77, u78, u79, u80, v81, v82, v83, v84, v85, v86, v87, v88, v89, v90, v91, v92, v93, v94, v95, v96, v97, v98, v99, v100, v101, v102, v103, v104, v105, v106, v107, v108, v109, v110, v111, v112, v113, v114, v115, v116, v117, v118, v119, v120, v121, v122, v123, v124, v125, v126, v127, v128, v129, v130, v131, v132, v133, v134, v135, v136, v137, v138, v139, v140, v141, v142, v143, v144, v145, v146, v147, v148, v149, v150, v151, v152, v153, v154, v155, v156, v157, v158, v159, v160, v161, v162, v163, v164, v165, v166, v167, v168, v169, v170, v171, v172, v173, v174, v175, v176, v177, v178, v179, v180, v181, v182, v183, v184, v185, v186, v187, v188, v189, v190, v191, v192, v193, v194, v195, v196, v197, v198, v199, v200, v201, v202, v203, v204, v205, v206, v207, v208, v209, v210, v211, v212, v213, v214, v215, v216, v217, v218, v219, v220, v221, v222, v223, v224, v225, v226, v227, v228, v229, v230, v231, v232, v233, v234, v235, v236, v237, v238, v239, v240, v241, v242, v243, v244, v245, v246, v247, v248, v249, v250, v251, v252, v253, v254, v255, v256, v257, v258, v259, v260, v261, v262, v263, v264, v265, v266, v267, v268, v269, v270, v271, v272, v273, v274, v275, v276, v277, v278, v279, v280, v281, v282, v283, v284, v285, v286, v287, v288, v289, v290, v291, v292, v293, v294, v295, v296, v297, v298, v299, v300, v301, v302, v303, v304, v305, v306, v307, v308, v309, v310, v311, v312, v313, v314, v315, v316, v317, v318, v319, v320, v321, v322, v323, v324, v325, v326, v327, v328, v329, v330, v331, v332, v333, v334, v335, v336, v337, v338, v339, v340, v341, v342, v343, v344, v345, v346, v347, v348, v349, v350, v351, v352, v353, v354, v355, v356, v357, v358, v359, v360, v361, v362, v363, v364, v365, v366, v367, v368, v369, v370, v371, v372, v373, v374, v375, v376, v377, v378, u379], []⟩ w') :
    Code.wp Try.prog setC Q ⟨#[u0, u1, u2, u3, u4, .bool true, .pointer (some ⟨hb, 0, none⟩), u7, .pointer (some ⟨mb, 0, none⟩), .slice A rs.length c9, .int .i64 (i : Nat), .pointer (some ⟨bx, 0, none⟩), .slice Al l.length c12, .pointer (some ⟨bw, 0, none⟩), .int .i64 p, u15, u16, u17, u18, u19, u20, u21, u22, u23, u24, u25, u26, u27, u28, u29, u30, u31, u32, u33, u34, u35, u36, u37, u38, u39, u40, u41, u42, u43, u44, u45, u46, u47, u48, u49, u50, u51, u52, u53, u54, u55, u56, u57, u58, u59, u60, u61, u62, u63, u64, u65, u66, u67, u68, u69, u70, u71, u72, u73, u74, u75, u76, u77, u78, u79, u80, u81, u82, u83, u84, u85, u86, u87, u88, u89, u90, u91, u92, u93, u94, u95, u96, u97, u98, u99, u100, u101, u102, u103, u104, u105, u106, u107, u108, u109, u110, u111, u112, u113, u114, u115, u116, u117, u118, u119, u120, u121, u122, u123, u124, u125, u126, u127, u128, u129, u130, u131, u132, u133, u134, u135, u136, u137, u138, u139, u140, u141, u142, u143, u144, u145, u146, u147, u148, u149, u150, u151, u152, u153, u154, u155, u156, u157, u158, u159, u160, u161, u162, u163, u164, u165, u166, u167, u168, u169, u170, u171, u172, u173, u174, u175, u176, u177, u178, u179, u180, u181, u182, u183, u184, u185, u186, u187, u188, u189, u190, u191, u192, u193, u194, u195, u196, u197, u198, u199, u200, u201, u202, u203, u204, u205, u206, u207, u208, u209, u210, u211, u212, u213, u214, u215, u216, u217, u218, u219, u220, u221, u222, u223, u224, u225, u226, u227, u228, u229, u230, u231, u232, u233, u234, u235, u236, u237, u238, u239, u240, u241, u242, u243, u244, u245, u246, u247, u248, u249, u250, u251, u252, u253, u254, u255, u256, u257, u258, u259, u260, u261, u262, u263, u264, u265, u266, u267, u268, u269, u270, u271, u272, u273, u274, u275, u276, u277, u278, u279, u280, u281, u282, u283, u284, u285, u286, u287, u288, u289, u290, u291, u292, u293, u294, u295, u296, u297, u298, u299, u300, u301, u302, u303, u304, u305, u306, u307, u308, u309, u310, u311, u312, u313, u314, u315, u316, u317, u318, u319, u320, u321, u322, u323, u324, u325, u326, u327, u328, u329, u330, u331, u332, u333, u334, u335, u336, u337, u338, u339, u340, u341, u342, u343, u344, u345, u346, u347, u348, u349, u350, u351, u352, u353, u354, u355, u356, u357, u358, u359, u360, u361, u362, u363, u364, u365, u366, u367, u368, u369, u370, u371, u372, u373, u374, u375, u376, u377, u378, u379], []⟩ w := by
  cases ha : at_ L p with
  | none => exact set_none w0 w N hb mb i bx bw half runs p L rs l V G V' G' x xs A Al c9 c12 d u hP hD hi hz hI hc9 hQ (.inl ha)
  | some j =>
    cases hf : fineB L u with
    | false => exact set_none w0 w N hb mb i bx bw half runs p L rs l V G V' G' x xs A Al c9 c12 d u hP hD hi hz hI hc9 hQ (.inr hf)
    | true =>
      by_cases h : 0 ≤ d.i ∧ d.i < ((ob L j).2.length : Int)
      · obtain ⟨k, hk⟩ : ∃ k : Nat, d.i = k := ⟨d.i.toNat, by omega⟩
        exact set_in w0 w N hb mb i bx bw half runs p L rs l V G V' G' x xs A Al c9 c12 d u hP hD hi hz hI hc9 hQ j k ha hf hk (by omega)
      · exact set_out w0 w N hb mb i bx bw half runs p L rs l V G V' G' x xs A Al c9 c12 d u hP hD hi hz hI hc9 hQ j ha hf h
end Go.Proofs.Ythblcfhflkapmaa
