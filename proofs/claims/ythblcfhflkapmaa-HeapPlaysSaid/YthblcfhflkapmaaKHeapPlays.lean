/-
  HeapPlays holds: for every input the law returns true, and each argument reads afterwards as it read before. No condition.
  The law HeapPlays, walked.
-/
import Derived.Test.YthblcfhflkapmaaK07
import Derived.Test.YthblcfhflkapmaaShell
namespace Go.Proofs.Ythblcfhflkapmaa
open Go Go.ChangeShapes Go.WideShapes Go.ChangeAt Go.RowKit Go.Sort
set_option linter.unusedVariables false
set_option linter.unusedSimpArgs false

set_option maxRecDepth 100000 in
set_option maxHeartbeats 4000000 in
theorem plays_big (w : World) (half : Int) (A1 : Option Addr) (n1 c1 : Nat) (h : 5000 < half) :
    Calls Try.prog 3 #[.int .i64 half, .slice A1 n1 c1] w fun e w' => e = .returned (.bool true) ∧ Below w.heap.size w w' := by
  have HU := Lib.hid (up_any w)
  have q1 : decide (5000 < half) = true := decide_eq_true h
  clear h
  go_enter Try.func3, Try.ntmps3
  go_wp2_with (go_at_call 5; (with_reducible refine HU.out.mono ?_); rintro e w1 ⟨rfl, hb1⟩; have HB := Lib.hid hb1; clear hb1)
  go_returns
  exact ⟨rfl, HB.out⟩
set_option maxRecDepth 100000 in
set_option maxHeartbeats 4000000 in
theorem plays_none (w : World) (half : Int) (A1 : Option Addr) (n1 c1 : Nat) (hh : half < 1) :
    Calls Try.prog 3 #[.int .i64 half, .slice A1 n1 c1] w fun e w' => e = .returned (.bool true) ∧ Below w.heap.size w w' := by
  have HU := Lib.hid (up_any w)
  have HN := Lib.hid (fun w1 : World => New_no half hh w1)
  have q1 : decide (5000 < half) = false := decide_eq_false (by omega)
  have q2 : decide (half < 1) = true := decide_eq_true hh
  clear hh
  go_enter Try.func3, Try.ntmps3
  go_wp2_with (first
    | (go_at_call 5; (with_reducible refine HU.out.mono ?_); rintro e w1 ⟨rfl, hb1⟩; have HB := Lib.hid hb1; clear hb1)
    | (go_at_call 6; (with_reducible refine (HN.out _).mono ?_); rintro e w2 ⟨rfl, rfl⟩))
  go_returns
  exact ⟨rfl, HB.out⟩
set_option maxRecDepth 100000 in
set_option maxHeartbeats 4000000 in
theorem plays_long (w : World) (half : Int) (A1 : Option Addr) (n1 c1 : Nat) (hh : 1 ≤ half ∧ half ≤ 5000) (hn : 60 < n1) :
    Calls Try.prog 3 #[.int .i64 half, .slice A1 n1 c1] w fun e w' => e = .returned (.bool true) ∧ Below w.heap.size w w' := by
  have HU := Lib.hid (up_any w)
  have HN := Lib.hid (fun w1 : World => New_yes half hh.1 (by omega) w1)
  have q1 : decide (5000 < half) = false := decide_eq_false (by omega)
  have q2 : decide (half < 1) = false := decide_eq_false (by omega)
  have q3 : decide (60 < (n1 : Int)) = true := decide_eq_true (by omega)
  clear hh hn
  go_enter Try.func3, Try.ntmps3
  go_wp2_with (first
    | (go_at_call 5; (with_reducible refine HU.out.mono ?_); rintro e w1 ⟨rfl, hb1⟩; have HB := Lib.hid hb1; clear hb1)
    | (go_at_call 6; (with_reducible refine (HN.out _).mono ?_); rintro e w2 ⟨rfl, hc2, hb2⟩; have H2 := Lib.hid (below_then HB.out hb2); clear hc2 hb2))
  go_returns
  exact ⟨rfl, H2.out⟩
section
variable {w : World} {N hb mb : Nat} {half runs : Int} {L : List Ob} {V G V' G' x : Value} {xs : List RO}
theorem CH.low (h : CH w N hb half runs L V G V' G') {b : Nat} (hb' : b < N) : Nh hb V G V' G' b := by
  obtain ⟨n1, x1, s1⟩ := h.sw
  obtain ⟨n2, x2, s2⟩ := h.sg
  refine ⟨fun e => by have := h.ge; omega, fun e => by have := (h.fw.lt b e.symm).1; omega, fun e => by have := (h.fg.lt b e.symm).1; omega, fun e => by have := (s1.lt b e.symm).1; omega, fun e => by have := (s2.lt b e.symm).1; omega⟩
theorem RH.low (h : RH w N mb half runs L x xs) {b : Nat} (hb' : b < N) : Nr mb x xs b :=
  ⟨fun e => by have := h.ge; omega, fun e => by have := (h.row.lt b e).1; omega, fun y hy a ha e => by have := ((h.ws y hy).lt a.block (by rw [ha]; rfl)).1; omega⟩
theorem RH.start (w : World) (half : Int) (h : N ≤ w.heap.size) : RH (w.alloc (.cells #[.int .i64 half, .slice none 0 0, .int .i64 0] RTyp)) N w.heap.size half 0 [] (.slice none 0 0) [] :=
  ⟨heap_new rfl, World.ownsRow_nil _ _ _ _, rfl, (fun j y h => by simp at h), (fun y h => nomatch h), (fun i j y z a b h => by simp at h), (fun y h => nomatch h), (fun e => nomatch e), h⟩
end
set_option maxRecDepth 100000 in
set_option maxHeartbeats 8000000 in
theorem plays_main (w : World) (half : Int) (A1 : Option Addr) (c1 : Nat) (ds : List Dd) (hh : 1 ≤ half ∧ half ≤ 5000) (h1 : ds.length ≤ 60) (hd : DR w A1 ds) (hok : ∀ d ∈ ds, d.Ok) :
    Calls Try.prog 3 #[.int .i64 half, .slice A1 ds.length c1] w fun e w' => e = .returned (.bool true) ∧ Below w.heap.size w w' := by
  have HU := Lib.hid (up_any w)
  have HN := Lib.hid (fun w1 : World => New_yes half hh.1 (by omega) w1)
  have q1 : decide (5000 < half) = false := decide_eq_false (by omega)
  have q2 : decide (half < 1) = false := decide_eq_false (by omega)
  have q3 : decide (60 < (ds.length : Int)) = false := decide_eq_false (by omega)
  have HI := Lib.hid (And.intro hh (And.intro h1 (And.intro hd hok)))
  clear hh h1 hd hok
  go_enter Try.func3, Try.ntmps3
  go_upto_region 10 with (first
    | (go_at_call 5; (with_reducible refine HU.out.mono ?_); rintro e w1 ⟨rfl, hb1⟩; have HB := Lib.hid hb1; clear hb1)
    | (go_at_call 6; (with_reducible refine (HN.out _).mono ?_); rintro e w2 ⟨rfl, hc2, hb2⟩; have H2 := Lib.hid (And.intro hc2 hb2); clear hc2 hb2))
  have HSP := Lib.hid (show SP w1 (w2.alloc (.cells #[.int .i64 half, .slice none 0 0, .int .i64 0] RTyp)) w1.heap.size w1.heap.size w2.heap.size half 0 none 0 0 from by
    have hba : Below w2.heap.size w2 (w2.alloc (.cells #[.int .i64 half, .slice none 0 0, .int .i64 0] RTyp)) := (Below.refl _ _).alloc (Nat.le_refl _) _
    refine ⟨[], 0, [], _, _, _, _, .slice none 0 0, [], rfl, Nat.le_refl _, ⟨H2.out.1.below hba, RH.start w2 half H2.out.2.size, Wf.nil, by simp [sizes]; have := HI.out.1.1; omega, by simp, by simp, fun b hl => ?_, Rd.nil _ _ _, (fun a ha => nomatch ha), (fun u hu => nomatch hu), H2.out.2.trans (hba.mono H2.out.2.size), Nat.le_trans H2.out.2.size hba.size⟩⟩
    by_cases hbm : b = w2.heap.size
    · exact .inl (H2.out.1.fresh (by omega))
    · exact .inr ⟨hbm, (fun e => nomatch e), (fun y hy => nomatch hy)⟩)
  obtain ⟨mb, hmb⟩ : ∃ mb, w2.heap.size = mb := ⟨_, rfl⟩
  rw [hmb] at HSP ⊢
  clear hmb q1 q2 q3
  generalize w2.alloc (.cells #[.int .i64 half, .slice none 0 0, .int .i64 0] RTyp) = w3 at *
  go_wp2_with fail
  go_loopw [9, 10] (fun y i' wr => ∃ (k : Nat) (A' : Option Addr) (n' c' : Nat), i' = .int .i64 k ∧ k ≤ ds.length ∧ y = .slice A' n' c' ∧ SP w1 wr w1.heap.size w1.heap.size mb half k A' n' c') (fun _ i' _ => ds.length - (intOf i').toNat)
  case atStart => exact ⟨0, none, 0, 0, rfl, Nat.zero_le _, rfl, HSP.out⟩
  case round =>
    obtain ⟨k, A', n', c', rfl, hk, rfl, hsp⟩ := hrel
    obtain ⟨L, runs, rs, V, G, V', G', x, xs, rfl, hcn, hP⟩ := hsp
    have HP1 := Lib.hid hP
    have HCN := Lib.hid hcn
    clear hP hcn
    have n0 : (0 : Int) ≤ (k : Int) := by omega
    have hbw : Below w.heap.size w wr := HB.out.trans (HP1.out.bl.mono HB.out.size)
    by_cases hlt : k < ds.length
    · have n1 : (k : Int) < (ds.length : Int) := by omega
      have n2 : (k : Int) < 60 := by have := HI.out.2.1; omega
      obtain ⟨d, hdk⟩ : ∃ d, ds[k]? = some d := ⟨_, List.getElem?_eq_getElem hlt⟩
      have hdm := List.mem_of_getElem? hdk
      obtain ⟨b0, o0, hA, _, hc⟩ := (HI.out.2.2.1.below hbw).all hdk
      subst hA
      have e0 := hc 0 _ rfl
      have e1 := hc 1 _ rfl
      have e2 := hc 2 _ rfl
      have e3 := hc 3 _ rfl
      have e4 := hc 4 _ rfl
      have e5 := hc 5 _ rfl
      have e6 := hc 6 _ rfl
      have e7 := hc 7 _ rfl
      rw [Nat.add_zero] at e0
      have HOK := Lib.hid (HI.out.2.2.2 d hdm)
      have HRL := Lib.hid (And.intro (HI.out.2.2.1.ws d hdm) (And.intro (HI.out.2.2.1.rg d hdm) hbw))
      clear hc hdk hdm hbw hk
      go_upto_region 15 with fail
      have hx3 := heap_new (w := wr) (o := .cells #[.int .i64 d.what, .int .i64 d.kind, .int .i64 d.place, .int .i64 d.i, .bool d.near, .bool d.u.ptr, .int .i64 d.u.v, .slice d.A d.l.length d.c] DeTy) rfl
      have hb3 : Below wr.heap.size wr (wr.alloc (.cells #[.int .i64 d.what, .int .i64 d.kind, .int .i64 d.place, .int .i64 d.i, .bool d.near, .bool d.u.ptr, .int .i64 d.u.v, .slice d.A d.l.length d.c] DeTy)) := (Below.refl _ _).alloc (Nat.le_refl _) _
      have HS3 : Hid ((wr.alloc (.cells #[.int .i64 d.what, .int .i64 d.kind, .int .i64 d.place, .int .i64 d.i, .bool d.near, .bool d.u.ptr, .int .i64 d.u.v, .slice d.A d.l.length d.c] DeTy)).heap.size = wr.heap.size + 1) := World.size_alloc _ _
      clear e0 e1 e2 e3 e4 e5 e6 e7
      generalize wr.alloc (.cells #[.int .i64 d.what, .int .i64 d.kind, .int .i64 d.place, .int .i64 d.i, .bool d.near, .bool d.u.ptr, .int .i64 d.u.v, .slice d.A d.l.length d.c] DeTy) = w4 at *
      obtain ⟨e0, e1, e2, e3, e4, e5, e6, e7⟩ := cells8 hx3
      have H4 := Lib.hid (And.intro hx3 hb3)
      clear hx3 hb3
      by_cases hll : 60 < (d.l.length : Int)
      · go_wp2_with fail
        go_returns
        exact ⟨rfl, HRL.out.2.2.trans (H4.out.2.mono HRL.out.2.2.size)⟩
      · go_upto_region 19 with fail
        have hx5 := heap_new (w := w4) (o := .cells #[.bool d.u.ptr, .int .i64 d.u.v] WTy) rfl
        have hb5 : Below w4.heap.size w4 (w4.alloc (.cells #[.bool d.u.ptr, .int .i64 d.u.v] WTy)) := (Below.refl _ _).alloc (Nat.le_refl _) _
        clear e0 e1 e2 e3 e4 e5 e6 e7
        generalize w4.alloc (.cells #[.bool d.u.ptr, .int .i64 d.u.v] WTy) = w5 at *
        have hx4 := (hb5.block _ (lt_of_heap H4.out.1)).trans H4.out.1
        obtain ⟨e0, e1, e2, e3, e4, e5, e6, e7⟩ := cells8 hx4
        have H5 := Lib.hid (And.intro hx4 (And.intro hx5 (And.intro (H4.out.2.trans (hb5.mono H4.out.2.size)) (show d.l.length ≤ 60 by omega))))
        clear hx4 hx5 hb5 hll
        rename_i hKC
        have HKC := Lib.hid hKC
        clear hKC
        go_wp2_with fail
        refine HKC.out _ _ ?_
        have hP5 := HP1.out.below H5.out.2.2.1
        have hs4 := HS3.out
        have hD5 : DS w5 (fun b => Nh w1.heap.size V G V' G' b ∧ Nr mb x xs b) wr.heap.size w4.heap.size d d.A d.l d.u := by
          refine ⟨H5.out.1, ⟨HP1.out.ch.fresh (Nat.le_refl _), HP1.out.rh.fresh (Nat.le_refl _)⟩, H5.out.2.1, ⟨HP1.out.ch.fresh (by omega), HP1.out.rh.fresh (by omega)⟩, HRL.out.1.below (HRL.out.2.2.trans (H5.out.2.2.1.mono HRL.out.2.2.size)), H5.out.2.2.2, fun h0 a ha => ?_⟩
          obtain ⟨b, o, e, hb, _⟩ := HRL.out.1.base (by rw [wcells_len]; omega)
          rw [e] at ha
          cases ha
          have hlo : b < w1.heap.size := Nat.lt_of_lt_of_le hb HB.out.size
          exact ⟨Nat.lt_of_lt_of_le hlo hP5.le, HP1.out.ch.low hlo, HP1.out.rh.low hlo⟩
        refine deed_near w1 w5 w1.heap.size w1.heap.size mb k wr.heap.size w4.heap.size half runs d.place L rs d.l V G V' G' x xs A' d.A c' d.c d d.u hP5 hD5 (by omega) HI.out.1 HOK.out.what HOK.out.i HCN.out (fun v4 v11 v12 v13 v14 v15 v16 v17 v18 v19 v20 v21 v22 v23 v24 v25 v26 v27 v28 v29 v30 v31 v32 v33 v34 v35 v36 v81 v82 v83 v84 v85 v86 v87 v88 v89 v90 v91 v92 v93 v94 v95 v96 v97 v98 v99 v100 v101 v102 v103 v104 v105 v106 v107 v108 v109 v110 v111 v112 v113 v114 v115 v116 v117 v118 v119 v120 v121 v122 v123 v124 v125 v126 v127 v128 v129 v130 v131 v132 v133 v134 v135 v136 v137 v138 v139 v140 v141 v142 v143 v144 v145 v146 v147 v148 v149 v150 v151 v152 v153 v154 v155 v156 v157 v158 v159 v160 v161 v162 v163 v164 v165 v166 v167 v168 v169 v170 v171 v172 v173 v174 v175 v176 v177 v178 v179 v180 v181 v182 v183 v184 v185 v186 v187 v188 v189 v190 v191 v192 v193 v194 v195 v196 v197 v198 v199 v200 v201 v202 v203 v204 v205 v206 v207 v208 v209 v210 v211 v212 v213 v214 v215 v216 v217 v218 v219 v220 v221 v222 v223 v224 v225 v226 v227 v228 v229 v230 v231 v232 v233 v234 v235 v236 v237 v238 v239 v240 v241 v242 v243 v244 v245 v246 v247 v248 v249 v250 v251 v252 v253 v254 v255 v256 v257 v258 v259 v260 v261 v262 v263 v264 v265 v266 v267 v268 v269 v270 v271 v272 v273 v274 v275 v276 v277 v278 v279 v280 v281 v282 v283 v284 v285 v286 v287 v288 v289 v290 v291 v292 v293 v294 v295 v296 v297 v298 v299 v300 v301 v302 v303 v304 v305 v306 v307 v308 v309 v310 v311 v312 v313 v314 v315 v316 v317 v318 v319 v320 v321 v322 v323 v324 v325 v326 v327 v328 v329 v330 v331 v332 v333 v334 v335 v336 v337 v338 v339 v340 v341 v342 v343 v344 v345 v346 v347 v348 v349 v350 v351 v352 v353 v354 v355 v356 v357 v358 v359 v360 v361 v362 v363 v364 v365 v366 v367 v368 v369 v370 v371 v372 v373 v374 v375 v376 v377 v378 w' A'' n'' c'' hSP => ?_) (fun a ha => by have := (HP1.out.ra a ha).1; omega) (by omega) (Nat.le_trans HP1.out.le (by omega)) HOK.out.place HOK.out.v HRL.out.2.1
        clear e0 e1 e2 e3 e4 e5 e6 e7
        have HSP' := Lib.hid hSP
        clear hSP
        go_wp2_with fail
        go_roundw
        case rel => exact ⟨k + 1, A'', n'', c'', by go_num, by omega, rfl, HSP'.out⟩
        case measure => simp [intOf] <;> omega
    · go_wp2_with fail
      go_returns
      exact ⟨rfl, hbw⟩
end Go.Proofs.Ythblcfhflkapmaa

namespace Go.Proofs.Ythblcfhflkapmaa
open Go.ChangeShapes Go.WideShapes Go.ChangeAt Go.RowKit
set_option linter.unusedVariables false

set_option maxRecDepth 100000 in
theorem heapPlays_walk : LawWalk 3 [3, 22] := by
  intro H enc W base args ds p hval hA hlt
  obtain ⟨v0, vs0, d0, ds0, p0, q0, hargs, rfl, rfl, h0, r0⟩ := trodAll_cons hA
  obtain ⟨v1, vs1, d1, ds1, p1, q1, rfl, rfl, rfl, h1, r1⟩ := trodAll_cons r0
  obtain ⟨rfl, rfl, rfl⟩ := trodAll_nil r1
  obtain rfl : args = #[v0, v1] := by cases args; simp_all
  obtain ⟨f0, k0⟩ := h0
  obtain ⟨f1, k1⟩ := h1
  have s1 := hval 1 _ v1 rfl rfl
  have s0 := hval 0 _ v0 rfl rfl
  obtain ⟨half, rfl⟩ := okWide_int Try.underlying3 s0
  obtain ⟨A1, n1, c1, rfl⟩ := okWide_slice Try.underlying22 s1
  obtain ⟨A1', c1', ds, e1, hd, hok⟩ := open_deeds k1
  simp [Value.cells] at e1
  obtain ⟨rfl, rfl, rfl⟩ := e1
  by_cases hbig : 5000 < half
  · exact plays_big W half A1 ds.length c1 hbig
  · by_cases hh : half < 1
    · exact plays_none W half A1 ds.length c1 hh
    · by_cases hl : 60 < ds.length
      · exact plays_long W half A1 ds.length c1 ⟨by omega, by omega⟩ hl
      · exact plays_main W half A1 c1 ds ⟨by omega, by omega⟩ (by omega) hd hok
set_option maxRecDepth 100000 in
theorem heapPlays_holds : Rows.HeapPlaysSaid :=
  OpenClaim.holds_of_wide 3 Try.f3 rfl rfl rfl rfl rfl rfl rfl ⟨rfl, rfl, rfl, rfl, rfl⟩ rfl rfl rfl rfl rfl (by kernel_rfl) Try.func3 (by kernel_rfl)
    (of_decide_eq_true (by kernel_rfl)) (by unfold Func.isWrapper; first | (rw [if_pos (by decide +kernel)]; kernel_rfl) | (rw [if_neg (by decide +kernel)]; exact ⟨rfl, rfl⟩))
    (fun os started H enc _ => law_lifted (f := Try.f3) (s := Rows.heapPlaysSpec) started Try.func3 (by kernel_rfl) (by rw [Try.params3]) rfl rfl
      (fun H ds h => by match ds, h with | [_, _], _ => rfl) (by kernel_rfl)
      (ChangeSpec.witness6 (enc := enc) (C := Try.checked) false ⟨#[], #[.int .i64 0, .slice none 0 0], []⟩ 8 (by kernel_rfl) (by kernel_rfl) (by kernel_rfl) (by kernel_rfl)) heapPlays_walk)
#print axioms heapPlays_holds
end Go.Proofs.Ythblcfhflkapmaa
