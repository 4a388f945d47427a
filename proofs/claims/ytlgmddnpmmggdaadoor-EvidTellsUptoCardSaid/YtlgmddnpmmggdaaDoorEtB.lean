/-
  A label's offset in a row, held against the document's.
-/
import Derived.Test.YtlgmddnpmmggdaaDoorEtC
import Derived.Test.YtlgmddnpmmggdaaDoorOfB
import Derived.Test.YtlgmddnpmmggdaaDoorTyH
import Derived.Deep.RegionHeld3
namespace Go.Proofs.YtlgmddnpmmggdaaDoor
open Go.ChangeShapes Go.WideShapes Go.ChangeAt Go.RowKit Go.Sort Go.Maps
set_option linter.unusedVariables false
set_option linter.unusedSimpArgs false
attribute [local irreducible] Go.wpQuiet

theorem str_empty {s : Str} (hs : s ≠ []) : (bstr s).toList.isEmpty = false := by
  rw [bstr_toList]; cases s with
  | nil => exact absurd rfl hs
  | cons a r => rfl
/-- Three cells of a block, and that they may be written. -/
structure Three (w : World) (B : Nat) (a0 a1 a2 : Value) : Prop where
  r0 : w.cell? ⟨B, 0, none⟩ = some a0
  r1 : w.cell? ⟨B, 1, none⟩ = some a1
  r2 : w.cell? ⟨B, 2, none⟩ = some a2
  fr : ∀ j, w.frozen? ⟨B, j, none⟩ = false
theorem Three.of {w : World} {B : Nat} {a0 a1 a2 : Value} {t : TypeId} (h : w.heap[B]? = some (.cells #[a0, a1, a2] t)) : Three w B a0 a1 a2 := by
  refine ⟨?_, ?_, ?_, fun j => ?_⟩
  all_goals first | (unfold World.cell?; rw [show (⟨B, _, none⟩ : Addr).block = B from rfl, h]; rfl) | (unfold World.frozen?; rw [show (⟨B, j, none⟩ : Addr).block = B from rfl, h]; simp)
theorem Three.below {w w1 : World} {B : Nat} {a0 a1 a2 : Value} (h : Three w B a0 a1 a2) (hb : Below w.heap.size w w1) : Three w1 B a0 a1 a2 :=
  ⟨cell_below hb h.r0, cell_below hb h.r1, cell_below hb h.r2, fun j => (hb.frozen (p := ⟨B, j, none⟩) (show B < w.heap.size from World.block_lt_of_cell? w _ h.r0)).trans (h.fr j)⟩
theorem Three.new (w : World) (a0 a1 a2 : Value) (t : TypeId) : Three (w.alloc (.cells #[a0, a1, a2] t)) w.heap.size a0 a1 a2 := Three.of (heap_alloc_new w _)
theorem three_sets {w : World} {B N : Nat} {a0 a1 a2 : Value} (x0 x1 x2 : Value) (h : Three w B a0 a1 a2) (hN : N ≤ B) {W : World}
    (hW : W = ((w.setCell ⟨B, 0, none⟩ x0).setCell ⟨B, 1, none⟩ x1).setCell ⟨B, 2, none⟩ x2) : Three W B x0 x1 x2 ∧ Below N w W := by
  subst hW
  refine ⟨⟨?_, ?_, ?_, fun j => by simp only [World.frozen?_setCell]; exact h.fr j⟩, ((((Below.refl _ _).setCell hN _).setCell hN _).setCell hN _)⟩
  · iterate 2 (rw [World.cell?_setCell_other _ _ _ _ (by simp)])
    exact World.cell?_setCell_same _ _ _ h.r0
  · iterate 1 (rw [World.cell?_setCell_other _ _ _ _ (by simp)])
    exact World.cell?_setCell_same _ _ _ (by (iterate 1 (rw [World.cell?_setCell_other _ _ _ _ (by simp)])); exact h.r1)
  · exact World.cell?_setCell_same _ _ _ (by (iterate 2 (rw [World.cell?_setCell_other _ _ _ _ (by simp)])); exact h.r2)

theorem three_set {w : World} {B G i : Nat} {a0 a1 a2 v : Value} (h : Three w G a0 a1 a2) (hne : B ≠ G) : Three (w.setCell ⟨B, i, none⟩ v) G a0 a1 a2 := by
  have k : ∀ j, (w.setCell ⟨B, i, none⟩ v).cell? ⟨G, j, none⟩ = w.cell? ⟨G, j, none⟩ := fun j => World.cell?_setCell_other _ _ _ _ (fun e => hne (congrArg Addr.block e))
  exact ⟨(k 0).trans h.r0, (k 1).trans h.r1, (k 2).trans h.r2, fun j => by rw [World.frozen?_setCell]; exact h.fr j⟩
theorem three_last {w : World} {B : Nat} {a0 a1 a2 v : Value} (h : Three w B a0 a1 a2) : Three (w.setCell ⟨B, 2, none⟩ v) B a0 a1 v := by
  refine ⟨?_, ?_, World.cell?_setCell_same _ _ _ h.r2, fun j => by rw [World.frozen?_setCell]; exact h.fr j⟩
  · rw [World.cell?_setCell_other _ _ _ _ (by simp)]; exact h.r0
  · rw [World.cell?_setCell_other _ _ _ _ (by simp)]; exact h.r1

theorem may_tail {t : Ty} (h : (mayF t 0).isSome = true) (hk : t.d.kind = 4 ∨ t.d.kind = 5) : t.d.tail = -1 ∨ 0 ≤ t.d.tail := by
  cases t with
  | mk d l =>
    unfold mayF at h
    rw [if_neg (by omega)] at h
    split at h
    · rename_i hf
      unfold TyD.fieldsB at hf
      have hk' : d.kind = 4 ∨ d.kind = 5 := hk
      rw [if_pos hk'] at hf
      simp only [Bool.and_eq_true, decide_eq_true_eq] at hf
      have h1 : -1 ≤ d.tail := by have := hf; simp_all
      show d.tail = -1 ∨ 0 ≤ d.tail
      omega
    · cases h
theorem of_bad (t : Ty) (s : Str) (w : World) (hIn : t.In w) (hbad : ¬ ((t.d.kind = 4 ∨ t.d.kind = 5) ∧ s ≠ [] ∧ (mayF t 0).isSome = true)) :
    Calls Tryd.prog 7 #[.agg t.d.arr, .string (bstr s)] w fun e w' => e = .returned (.tuple #[.agg #[.int .i64 0, .int .i64 0, .string ⟨#[]⟩], .iface 38 (.int .i64 1)]) ∧ Below w.heap.size w w' := by
  by_cases h4 : t.d.kind = 4
  · by_cases hs : s = []
    · exact of_none4 t s w hIn h4 hs
    · exact of_may4 t s w hIn h4 hs (by cases hm : (mayF t 0).isSome with
        | false => rfl
        | true => exact absurd ⟨.inl h4, hs, hm⟩ hbad)
  · by_cases h5 : t.d.kind = 5
    · by_cases hs : s = []
      · exact of_none5 t s w hIn h5 hs
      · exact of_may5 t s w hIn h5 hs (by cases hm : (mayF t 0).isSome with
          | false => rfl
          | true => exact absurd ⟨.inr h5, hs, hm⟩ hbad)
    · exact of_kind t s w hIn h4 h5

set_option maxRecDepth 100000 in
set_option maxHeartbeats 1000000 in
theorem et_of_a {u0 u2 u5 u7 u9 u10 u14 u15 u16 u17 u18 u19 u20 u21 u22 u23 u24 u25 u26 u27 u28 u29 u30 u31 u32 u33 u34 u35 u36 u37 u38 u39 u40 u41 u42 u43 u44 u45 u46 u47 u48 u49 u50 u51 u52 u53 u54 u55 u56 u57 u58 u59 u60 u61 u62 u63 u64 u65 u66 u67 u68 u69 u70 u71 u72 u73 u74 u75 u76 u77 u78 u79 u80 u81 u82 u83 u84 u85 u86 u87 u88 u89 u90 u91 u92 u93 u94 u95 u96 u97 u98 u99 u100 u101 u102 u103 u104 u105 u106 u107 u108 u109 u110 u111 u112 u113 u114 u115 u116 u117 u118 u119 u120 u121 u122 u123 u124 u125 u126 u127 u128 u129 u130 u131 u132 u133 u134 u135 u136 u137 u138 u139 u140 u141 u142 u143 u144 u145 u146 u147 u148 u149 u150 u151 u152 u153 u154 u155 u156 u157 u158 u159 u160 u161 u162 u163 u164 u165 u166 u167 u168 u169 u170 u171 u172 u173 u174 u175 u176 u177 u178 u179 u180 u181 u182 u183 u184 u185 u186 u187 u188 u189 u190 u191 u192 u193 u194 u195 u196 u197 u198 u199 u200 u201 u202 u203 u204 u205 u206 u207 u208 u209 u210 u211 u212 u213 u214 u215 u216 u217 u218 u219 u220 u221 u222 u223 u224 u225 u226 u227 u228 u229 u230 u231 u232 u233 u234 u235 u236 u237 u238 u239 u240 u241 u242 u243 u244 u245 u246 u247 u248 u249 u250 u251 u252 u253 u254 u255 u256 u257 u258 u259 u260 u261 u262 u263 u264 u265 u266 u267 u268 u269 u270 u271 u272 u273 u274 u275 u276 u277 u278 u279 u280 u281 u282 u283 u284 u285 u286 u287 u288 u289 u290 u291 u292 u293 u294 u295 u296 u297 u298 u299 u300 u301 u302 u303 u304 u305 u306 u307 u308 u309 u310 u311 u312 u313 u314 u315 u316 u317 u318 u319 u320 u321 u322 u323 u324 u325 u326 u327 u328 u329 u330 u331 u332 u333 u334 u335 u336 u337 u338 u339 u340 u341 u342 u343 u344 u345 u346 u347 u348 u349 u350 u351 u352 u353 u354 u355 u356 u357 u358 u359 u360 u361 u362 u363 u364 : Value} (b : Nat) (s : Str) (n row : Int) (lab : Str) (t : Ty) (LA : Option Addr) (lc : Nat) (L : List Lk) (w0 w : World) (hI : t.In w0) (hG : t.Rg) (hb : Below w0.heap.size w0 w) (hE : EB w b t.d n row lab LA L.length lc)
    (hr : Rd w 1 LA L.length (L.map Lk.val)) (hL : L.length ≤ 4000000) (hLI : ∀ k ∈ L, k.In w) (hm : (mayF t 0).isSome = false)
    (KA VA : Option Addr) (kc vc : Nat) (ks : List (Int × Str)) (vs : List Int) (hKA : Rd w 2 KA ks.length (nds ks)) (hVA : Rd w 1 VA vs.length (i64s vs)) (hlen : ks.length ≤ vs.length) (h50 : ks.length ≤ 50)
    (hks : ∀ x ∈ ks, (Lit.int .i64 x.1).wf = true ∧ x.2.length ≤ maxLen) (hvs : ∀ v ∈ vs, (Lit.int .i64 v).wf = true) (hrw : (Lit.int .i64 row).wf = true) (hlb : lab.length ≤ maxLen) (hlab : lab.length ≤ 1000000) (hL2 : Lay w) (hnod : t.nodes ≤ 4000000)
    {K : Act → World → Prop} (hK : ∀ a w, Code.wp Tryd.prog (tl 4) (bodyPost Tryd.prog Tryd.f3 (Fin3 w0)) a w → K a w) : Code.wp Tryd.prog (hd 3) (Exit.then K (bodyPost Tryd.prog Tryd.f3 (Fin3 w0))) ⟨#[u0, .string (bstr s), u2, .slice KA ks.length kc, .slice VA vs.length vc, u5, .pointer (some ⟨b, 0, Option.none⟩), u7, .pointer (some ⟨b + 1, 0, Option.none⟩), u9, u10, .pointer (some ⟨b + 1 + 1, 0, Option.none⟩), .bool false, .bool true, u14, u15, u16, u17, u18, u19, u20, u21, u22, u23, u24, u25, u26, u27, u28, u29, u30, u31, u32, u33, u34, u35, u36, u37, u38, u39, u40, u41, u42, u43, u44, u45, u46, u47, u48, u49, u50, u51, u52, u53, u54, u55, u56, u57, u58, u59, u60, u61, u62, u63, u64, u65, u66, u67, u68, u69, u70, u71, u72, u73, u74, u75, u76, u77, u78, u79, u80, u81, u82, u83, u84, u85, u86, u87, u88, u89, u90, u91, u92, u93, u94, u95, u96, u97, u98, u99, u100, u101, u102, u103, u104, u105, u106, u107, u108, u109, u110, u111, u112, u113, u114, u115, u116, u117, u118, u119, u120, u121, u122, u123, u124, u125, u126, u127, u128, u129, u130, u131, u132, u133, u134, u135, u136, u137, u138, u139, u140, u141, u142, u143, u144, u145, u146, u147, u148, u149, u150, u151, u152, u153, u154, u155, u156, u157, u158, u159, u160, u161, u162, u163, u164, u165, u166, u167, u168, u169, u170, u171, u172, u173, u174, u175, u176, u177, u178, u179, u180, u181, u182, u183, u184, u185, u186, u187, u188, u189, u190, u191, u192, u193, u194, u195, u196, u197, u198, u199, u200, u201, u202, u203, u204, u205, u206, u207, u208, u209, u210, u211, u212, u213, u214, u215, u216, u217, u218, u219, u220, u221, u222, u223, u224, u225, u226, u227, u228, u229, u230, u231, u232, u233, u234, u235, u236, u237, u238, u239, u240, u241, u242, u243, u244, u245, u246, u247, u248, u249, u250, u251, u252, u253, u254, u255, u256, u257, u258, u259, u260, u261, u262, u263, u264, u265, u266, u267, u268, u269, u270, u271, u272, u273, u274, u275, u276, u277, u278, u279, u280, u281, u282, u283, u284, u285, u286, u287, u288, u289, u290, u291, u292, u293, u294, u295, u296, u297, u298, u299, u300, u301, u302, u303, u304, u305, u306, u307, u308, u309, u310, u311, u312, u313, u314, u315, u316, u317, u318, u319, u320, u321, u322, u323, u324, u325, u326, u327, u328, u329, u330, u331, u332, u333, u334, u335, u336, u337, u338, u339, u340, u341, u342, u343, u344, u345, u346, u347, u348, u349, u350, u351, u352, u353, u354, u355, u356, u357, u358, u359, u360, u361, u362, u363, u364], []⟩ w := by
  conv at hK => enter [a, w, 1, 2]; whnf
  conv => arg 2; whnf
  have HT := Lib.hid (And.intro hI (And.intro hG (And.intro hL hm)))
  have HB := Lib.hid hb
  have HE := Lib.hid hE
  have HLL := Lib.hid (And.intro hr hLI)
  have HKV := Lib.hid (And.intro hKA (And.intro hVA (And.intro hlen (And.intro h50 (And.intro hks (And.intro hvs (And.intro hrw hlb)))))))
  have HLB := Lib.hid hlab
  have HLAY := Lib.hid hL2
  have HOF := Lib.hid (of_bad t s w (hI.lower hb) (by rintro ⟨_, _, h⟩; rw [hm] at h; cases h))
  have HMAY := Lib.hid (fun W (hW : Below w.heap.size w W) => refMay_any t W (hI.lower (below_then hb hW)) hnod)
  rw [hm] at HMAY
  clear hI hG hL hm hb hE hr hLI hKA hVA hks hvs hrw hlb hlen h50 hlab hL2 hnod
  obtain ⟨a0, a1, a2, a3, a4⟩ := HE.out.ty
  go_wp2_with fail
  refine HOF.out.mono ?_
  rintro e w2 ⟨rfl, hb2⟩
  have HB2 := Lib.hid hb2
  clear a0 a1 a2 a3 a4 hb2 HOF
  go_upto_region 5 with fail
  have hb3 : Below w2.heap.size w2 (w2.alloc (.cells #[.int .i64 0, .int .i64 0, .string ⟨#[]⟩] 27)) := (Below.refl _ _).alloc (Nat.le_refl _) _
  have HTH := Lib.hid (Three.new w2 (.int .i64 0) (.int .i64 0) (.string ⟨#[]⟩) 27)
  have HB3 := Lib.hid (below_then HB2.out hb3)
  clear hb3 HB2
  generalize w2.alloc (.cells #[.int .i64 0, .int .i64 0, .string ⟨#[]⟩] 27) = w3 at *
  generalize w2.heap.size = X at *
  have HE3 := Lib.hid (HE.out.below HB3.out)
  obtain ⟨a0, a1, a2, a3, a4⟩ := HE3.out.ty
  go_wp2_with fail
  refine (HMAY.out w3 HB3.out).mono ?_
  rintro e w4 ⟨rfl, hb4⟩
  have HB4 := Lib.hid (below_then HB3.out hb4)
  have HTH4 := Lib.hid (HTH.out.below hb4)
  clear a0 a1 a2 a3 a4 hb4 HB3 HE3 HTH HMAY
  have HE4 := Lib.hid (HE.out.below HB4.out)
  obtain ⟨a0, a1, a2, a3, a4⟩ := HE4.out.ty
  obtain ⟨y0, y1, y2, _⟩ := HTH4.out
  have hb9 := HB4.out
  have HB9 := Lib.hid (below_then HB.out hb9)
  have HE9 := Lib.hid (HE.out.below hb9)
  have HL9 := Lib.hid (And.intro (HLL.out.1.below hb9) (fun k hk => (HLL.out.2 k hk).below hb9))
  have HK9 := Lib.hid (And.intro (HKV.out.1.below hb9) (HKV.out.2.1.below hb9))
  have HLY9 := Lib.hid (HLAY.out.below hb9)
  clear hb9
  go_upto_region 14 with fail
  exact et_name b n row lab t LA lc L w0 w4 HT.out.1 HT.out.2.1 HB9.out HE9.out HL9.out.1 HT.out.2.2.1 HL9.out.2 HT.out.2.2.2 KA VA kc vc ks vs HK9.out.1 HK9.out.2 HKV.out.2.2.1 HKV.out.2.2.2.1 HKV.out.2.2.2.2.1 HKV.out.2.2.2.2.2.1 HKV.out.2.2.2.2.2.2.1 HKV.out.2.2.2.2.2.2.2 HLB.out HLY9.out (by assumption)

set_option maxRecDepth 100000 in
set_option maxHeartbeats 1000000 in
theorem et_of_b {u0 u2 u5 u7 u9 u10 u14 u15 u16 u17 u18 u19 u20 u21 u22 u23 u24 u25 u26 u27 u28 u29 u30 u31 u32 u33 u34 u35 u36 u37 u38 u39 u40 u41 u42 u43 u44 u45 u46 u47 u48 u49 u50 u51 u52 u53 u54 u55 u56 u57 u58 u59 u60 u61 u62 u63 u64 u65 u66 u67 u68 u69 u70 u71 u72 u73 u74 u75 u76 u77 u78 u79 u80 u81 u82 u83 u84 u85 u86 u87 u88 u89 u90 u91 u92 u93 u94 u95 u96 u97 u98 u99 u100 u101 u102 u103 u104 u105 u106 u107 u108 u109 u110 u111 u112 u113 u114 u115 u116 u117 u118 u119 u120 u121 u122 u123 u124 u125 u126 u127 u128 u129 u130 u131 u132 u133 u134 u135 u136 u137 u138 u139 u140 u141 u142 u143 u144 u145 u146 u147 u148 u149 u150 u151 u152 u153 u154 u155 u156 u157 u158 u159 u160 u161 u162 u163 u164 u165 u166 u167 u168 u169 u170 u171 u172 u173 u174 u175 u176 u177 u178 u179 u180 u181 u182 u183 u184 u185 u186 u187 u188 u189 u190 u191 u192 u193 u194 u195 u196 u197 u198 u199 u200 u201 u202 u203 u204 u205 u206 u207 u208 u209 u210 u211 u212 u213 u214 u215 u216 u217 u218 u219 u220 u221 u222 u223 u224 u225 u226 u227 u228 u229 u230 u231 u232 u233 u234 u235 u236 u237 u238 u239 u240 u241 u242 u243 u244 u245 u246 u247 u248 u249 u250 u251 u252 u253 u254 u255 u256 u257 u258 u259 u260 u261 u262 u263 u264 u265 u266 u267 u268 u269 u270 u271 u272 u273 u274 u275 u276 u277 u278 u279 u280 u281 u282 u283 u284 u285 u286 u287 u288 u289 u290 u291 u292 u293 u294 u295 u296 u297 u298 u299 u300 u301 u302 u303 u304 u305 u306 u307 u308 u309 u310 u311 u312 u313 u314 u315 u316 u317 u318 u319 u320 u321 u322 u323 u324 u325 u326 u327 u328 u329 u330 u331 u332 u333 u334 u335 u336 u337 u338 u339 u340 u341 u342 u343 u344 u345 u346 u347 u348 u349 u350 u351 u352 u353 u354 u355 u356 u357 u358 u359 u360 u361 u362 u363 u364 : Value} (b : Nat) (s : Str) (n row : Int) (lab : Str) (t : Ty) (LA : Option Addr) (lc : Nat) (L : List Lk) (w0 w : World) (hI : t.In w0) (hG : t.Rg) (hb : Below w0.heap.size w0 w) (hE : EB w b t.d n row lab LA L.length lc)
    (hr : Rd w 1 LA L.length (L.map Lk.val)) (hL : L.length ≤ 4000000) (hLI : ∀ k ∈ L, k.In w) (hm : (mayF t 0).isSome = true)
    (KA VA : Option Addr) (kc vc : Nat) (ks : List (Int × Str)) (vs : List Int) (hKA : Rd w 2 KA ks.length (nds ks)) (hVA : Rd w 1 VA vs.length (i64s vs)) (hlen : ks.length ≤ vs.length) (h50 : ks.length ≤ 50)
    (hks : ∀ x ∈ ks, (Lit.int .i64 x.1).wf = true ∧ x.2.length ≤ maxLen) (hvs : ∀ v ∈ vs, (Lit.int .i64 v).wf = true) (hrw : (Lit.int .i64 row).wf = true) (hlb : lab.length ≤ maxLen) (hlab : lab.length ≤ 1000000) (hL2 : Lay w) (hnod : t.nodes ≤ 4000000) (h4 : ¬ t.d.kind = 4) (h5 : ¬ t.d.kind = 5)
    {K : Act → World → Prop} (hK : ∀ a w, Code.wp Tryd.prog (tl 4) (bodyPost Tryd.prog Tryd.f3 (Fin3 w0)) a w → K a w) : Code.wp Tryd.prog (hd 3) (Exit.then K (bodyPost Tryd.prog Tryd.f3 (Fin3 w0))) ⟨#[u0, .string (bstr s), u2, .slice KA ks.length kc, .slice VA vs.length vc, u5, .pointer (some ⟨b, 0, Option.none⟩), u7, .pointer (some ⟨b + 1, 0, Option.none⟩), u9, u10, .pointer (some ⟨b + 1 + 1, 0, Option.none⟩), .bool false, .bool true, u14, u15, u16, u17, u18, u19, u20, u21, u22, u23, u24, u25, u26, u27, u28, u29, u30, u31, u32, u33, u34, u35, u36, u37, u38, u39, u40, u41, u42, u43, u44, u45, u46, u47, u48, u49, u50, u51, u52, u53, u54, u55, u56, u57, u58, u59, u60, u61, u62, u63, u64, u65, u66, u67, u68, u69, u70, u71, u72, u73, u74, u75, u76, u77, u78, u79, u80, u81, u82, u83, u84, u85, u86, u87, u88, u89, u90, u91, u92, u93, u94, u95, u96, u97, u98, u99, u100, u101, u102, u103, u104, u105, u106, u107, u108, u109, u110, u111, u112, u113, u114, u115, u116, u117, u118, u119, u120, u121, u122, u123, u124, u125, u126, u127, u128, u129, u130, u131, u132, u133, u134, u135, u136, u137, u138, u139, u140, u141, u142, u143, u144, u145, u146, u147, u148, u149, u150, u151, u152, u153, u154, u155, u156, u157, u158, u159, u160, u161, u162, u163, u164, u165, u166, u167, u168, u169, u170, u171, u172, u173, u174, u175, u176, u177, u178, u179, u180, u181, u182, u183, u184, u185, u186, u187, u188, u189, u190, u191, u192, u193, u194, u195, u196, u197, u198, u199, u200, u201, u202, u203, u204, u205, u206, u207, u208, u209, u210, u211, u212, u213, u214, u215, u216, u217, u218, u219, u220, u221, u222, u223, u224, u225, u226, u227, u228, u229, u230, u231, u232, u233, u234, u235, u236, u237, u238, u239, u240, u241, u242, u243, u244, u245, u246, u247, u248, u249, u250, u251, u252, u253, u254, u255, u256, u257, u258, u259, u260, u261, u262, u263, u264, u265, u266, u267, u268, u269, u270, u271, u272, u273, u274, u275, u276, u277, u278, u279, u280, u281, u282, u283, u284, u285, u286, u287, u288, u289, u290, u291, u292, u293, u294, u295, u296, u297, u298, u299, u300, u301, u302, u303, u304, u305, u306, u307, u308, u309, u310, u311, u312, u313, u314, u315, u316, u317, u318, u319, u320, u321, u322, u323, u324, u325, u326, u327, u328, u329, u330, u331, u332, u333, u334, u335, u336, u337, u338, u339, u340, u341, u342, u343, u344, u345, u346, u347, u348, u349, u350, u351, u352, u353, u354, u355, u356, u357, u358, u359, u360, u361, u362, u363, u364], []⟩ w := by
  conv at hK => enter [a, w, 1, 2]; whnf
  conv => arg 2; whnf
  have q1 : (t.d.kind != 4) = true := by simpa using h4
  have q2 : (t.d.kind != 5) = true := by simpa using h5
  have HT := Lib.hid (And.intro hI (And.intro hG (And.intro hL hm)))
  have HB := Lib.hid hb
  have HE := Lib.hid hE
  have HLL := Lib.hid (And.intro hr hLI)
  have HKV := Lib.hid (And.intro hKA (And.intro hVA (And.intro hlen (And.intro h50 (And.intro hks (And.intro hvs (And.intro hrw hlb)))))))
  have HLB := Lib.hid hlab
  have HLAY := Lib.hid hL2
  have HOF := Lib.hid (of_bad t s w (hI.lower hb) (by rintro ⟨h, _⟩; rcases h with h | h; exact h4 h; exact h5 h))
  have HMAY := Lib.hid (fun W (hW : Below w.heap.size w W) => refMay_any t W (hI.lower (below_then hb hW)) hnod)
  rw [hm] at HMAY
  clear hI hG hL hm hb hE hr hLI hKA hVA hks hvs hrw hlb hlen h50 hlab hL2 hnod h4 h5
  obtain ⟨a0, a1, a2, a3, a4⟩ := HE.out.ty
  go_wp2_with fail
  refine HOF.out.mono ?_
  rintro e w2 ⟨rfl, hb2⟩
  have HB2 := Lib.hid hb2
  clear a0 a1 a2 a3 a4 hb2 HOF
  go_upto_region 5 with fail
  have hb3 : Below w2.heap.size w2 (w2.alloc (.cells #[.int .i64 0, .int .i64 0, .string ⟨#[]⟩] 27)) := (Below.refl _ _).alloc (Nat.le_refl _) _
  have HTH := Lib.hid (Three.new w2 (.int .i64 0) (.int .i64 0) (.string ⟨#[]⟩) 27)
  have HB3 := Lib.hid (below_then HB2.out hb3)
  clear hb3 HB2
  generalize w2.alloc (.cells #[.int .i64 0, .int .i64 0, .string ⟨#[]⟩] 27) = w3 at *
  generalize w2.heap.size = X at *
  have HE3 := Lib.hid (HE.out.below HB3.out)
  obtain ⟨a0, a1, a2, a3, a4⟩ := HE3.out.ty
  go_wp2_with fail
  refine (HMAY.out w3 HB3.out).mono ?_
  rintro e w4 ⟨rfl, hb4⟩
  have HB4 := Lib.hid (below_then HB3.out hb4)
  have HTH4 := Lib.hid (HTH.out.below hb4)
  clear a0 a1 a2 a3 a4 hb4 HB3 HE3 HTH HMAY
  have HE4 := Lib.hid (HE.out.below HB4.out)
  obtain ⟨a0, a1, a2, a3, a4⟩ := HE4.out.ty
  obtain ⟨y0, y1, y2, _⟩ := HTH4.out
  have hb9 := HB4.out
  have HB9 := Lib.hid (below_then HB.out hb9)
  have HE9 := Lib.hid (HE.out.below hb9)
  have HL9 := Lib.hid (And.intro (HLL.out.1.below hb9) (fun k hk => (HLL.out.2 k hk).below hb9))
  have HK9 := Lib.hid (And.intro (HKV.out.1.below hb9) (HKV.out.2.1.below hb9))
  have HLY9 := Lib.hid (HLAY.out.below hb9)
  clear hb9
  go_upto_region 14 with fail
  exact et_name b n row lab t LA lc L w0 w4 HT.out.1 HT.out.2.1 HB9.out HE9.out HL9.out.1 HT.out.2.2.1 HL9.out.2 HT.out.2.2.2 KA VA kc vc ks vs HK9.out.1 HK9.out.2 HKV.out.2.2.1 HKV.out.2.2.2.1 HKV.out.2.2.2.2.1 HKV.out.2.2.2.2.2.1 HKV.out.2.2.2.2.2.2.1 HKV.out.2.2.2.2.2.2.2 HLB.out HLY9.out (by assumption)

set_option maxRecDepth 100000 in
set_option maxHeartbeats 1000000 in
theorem et_of_c4 {u0 u2 u5 u7 u9 u10 u14 u15 u16 u17 u18 u19 u20 u21 u22 u23 u24 u25 u26 u27 u28 u29 u30 u31 u32 u33 u34 u35 u36 u37 u38 u39 u40 u41 u42 u43 u44 u45 u46 u47 u48 u49 u50 u51 u52 u53 u54 u55 u56 u57 u58 u59 u60 u61 u62 u63 u64 u65 u66 u67 u68 u69 u70 u71 u72 u73 u74 u75 u76 u77 u78 u79 u80 u81 u82 u83 u84 u85 u86 u87 u88 u89 u90 u91 u92 u93 u94 u95 u96 u97 u98 u99 u100 u101 u102 u103 u104 u105 u106 u107 u108 u109 u110 u111 u112 u113 u114 u115 u116 u117 u118 u119 u120 u121 u122 u123 u124 u125 u126 u127 u128 u129 u130 u131 u132 u133 u134 u135 u136 u137 u138 u139 u140 u141 u142 u143 u144 u145 u146 u147 u148 u149 u150 u151 u152 u153 u154 u155 u156 u157 u158 u159 u160 u161 u162 u163 u164 u165 u166 u167 u168 u169 u170 u171 u172 u173 u174 u175 u176 u177 u178 u179 u180 u181 u182 u183 u184 u185 u186 u187 u188 u189 u190 u191 u192 u193 u194 u195 u196 u197 u198 u199 u200 u201 u202 u203 u204 u205 u206 u207 u208 u209 u210 u211 u212 u213 u214 u215 u216 u217 u218 u219 u220 u221 u222 u223 u224 u225 u226 u227 u228 u229 u230 u231 u232 u233 u234 u235 u236 u237 u238 u239 u240 u241 u242 u243 u244 u245 u246 u247 u248 u249 u250 u251 u252 u253 u254 u255 u256 u257 u258 u259 u260 u261 u262 u263 u264 u265 u266 u267 u268 u269 u270 u271 u272 u273 u274 u275 u276 u277 u278 u279 u280 u281 u282 u283 u284 u285 u286 u287 u288 u289 u290 u291 u292 u293 u294 u295 u296 u297 u298 u299 u300 u301 u302 u303 u304 u305 u306 u307 u308 u309 u310 u311 u312 u313 u314 u315 u316 u317 u318 u319 u320 u321 u322 u323 u324 u325 u326 u327 u328 u329 u330 u331 u332 u333 u334 u335 u336 u337 u338 u339 u340 u341 u342 u343 u344 u345 u346 u347 u348 u349 u350 u351 u352 u353 u354 u355 u356 u357 u358 u359 u360 u361 u362 u363 u364 : Value} (b : Nat) (s : Str) (n row : Int) (lab : Str) (t : Ty) (LA : Option Addr) (lc : Nat) (L : List Lk) (w0 w : World) (hI : t.In w0) (hG : t.Rg) (hb : Below w0.heap.size w0 w) (hE : EB w b t.d n row lab LA L.length lc)
    (hr : Rd w 1 LA L.length (L.map Lk.val)) (hL : L.length ≤ 4000000) (hLI : ∀ k ∈ L, k.In w) (hm : (mayF t 0).isSome = true)
    (KA VA : Option Addr) (kc vc : Nat) (ks : List (Int × Str)) (vs : List Int) (hKA : Rd w 2 KA ks.length (nds ks)) (hVA : Rd w 1 VA vs.length (i64s vs)) (hlen : ks.length ≤ vs.length) (h50 : ks.length ≤ 50)
    (hks : ∀ x ∈ ks, (Lit.int .i64 x.1).wf = true ∧ x.2.length ≤ maxLen) (hvs : ∀ v ∈ vs, (Lit.int .i64 v).wf = true) (hrw : (Lit.int .i64 row).wf = true) (hlb : lab.length ≤ maxLen) (hlab : lab.length ≤ 1000000) (hL2 : Lay w) (hnod : t.nodes ≤ 4000000) (h4 : t.d.kind = 4) (hs : s = [])
    {K : Act → World → Prop} (hK : ∀ a w, Code.wp Tryd.prog (tl 4) (bodyPost Tryd.prog Tryd.f3 (Fin3 w0)) a w → K a w) : Code.wp Tryd.prog (hd 3) (Exit.then K (bodyPost Tryd.prog Tryd.f3 (Fin3 w0))) ⟨#[u0, .string (bstr s), u2, .slice KA ks.length kc, .slice VA vs.length vc, u5, .pointer (some ⟨b, 0, Option.none⟩), u7, .pointer (some ⟨b + 1, 0, Option.none⟩), u9, u10, .pointer (some ⟨b + 1 + 1, 0, Option.none⟩), .bool false, .bool true, u14, u15, u16, u17, u18, u19, u20, u21, u22, u23, u24, u25, u26, u27, u28, u29, u30, u31, u32, u33, u34, u35, u36, u37, u38, u39, u40, u41, u42, u43, u44, u45, u46, u47, u48, u49, u50, u51, u52, u53, u54, u55, u56, u57, u58, u59, u60, u61, u62, u63, u64, u65, u66, u67, u68, u69, u70, u71, u72, u73, u74, u75, u76, u77, u78, u79, u80, u81, u82, u83, u84, u85, u86, u87, u88, u89, u90, u91, u92, u93, u94, u95, u96, u97, u98, u99, u100, u101, u102, u103, u104, u105, u106, u107, u108, u109, u110, u111, u112, u113, u114, u115, u116, u117, u118, u119, u120, u121, u122, u123, u124, u125, u126, u127, u128, u129, u130, u131, u132, u133, u134, u135, u136, u137, u138, u139, u140, u141, u142, u143, u144, u145, u146, u147, u148, u149, u150, u151, u152, u153, u154, u155, u156, u157, u158, u159, u160, u161, u162, u163, u164, u165, u166, u167, u168, u169, u170, u171, u172, u173, u174, u175, u176, u177, u178, u179, u180, u181, u182, u183, u184, u185, u186, u187, u188, u189, u190, u191, u192, u193, u194, u195, u196, u197, u198, u199, u200, u201, u202, u203, u204, u205, u206, u207, u208, u209, u210, u211, u212, u213, u214, u215, u216, u217, u218, u219, u220, u221, u222, u223, u224, u225, u226, u227, u228, u229, u230, u231, u232, u233, u234, u235, u236, u237, u238, u239, u240, u241, u242, u243, u244, u245, u246, u247, u248, u249, u250, u251, u252, u253, u254, u255, u256, u257, u258, u259, u260, u261, u262, u263, u264, u265, u266, u267, u268, u269, u270, u271, u272, u273, u274, u275, u276, u277, u278, u279, u280, u281, u282, u283, u284, u285, u286, u287, u288, u289, u290, u291, u292, u293, u294, u295, u296, u297, u298, u299, u300, u301, u302, u303, u304, u305, u306, u307, u308, u309, u310, u311, u312, u313, u314, u315, u316, u317, u318, u319, u320, u321, u322, u323, u324, u325, u326, u327, u328, u329, u330, u331, u332, u333, u334, u335, u336, u337, u338, u339, u340, u341, u342, u343, u344, u345, u346, u347, u348, u349, u350, u351, u352, u353, u354, u355, u356, u357, u358, u359, u360, u361, u362, u363, u364], []⟩ w := by
  conv at hK => enter [a, w, 1, 2]; whnf
  conv => arg 2; whnf
  have q1 : (t.d.kind != 4) = false := by simpa using h4
  have q2 : (bstr s).toList.isEmpty = true := by rw [hs, bstr_toList]; rfl
  have HT := Lib.hid (And.intro hI (And.intro hG (And.intro hL hm)))
  have HB := Lib.hid hb
  have HE := Lib.hid hE
  have HLL := Lib.hid (And.intro hr hLI)
  have HKV := Lib.hid (And.intro hKA (And.intro hVA (And.intro hlen (And.intro h50 (And.intro hks (And.intro hvs (And.intro hrw hlb)))))))
  have HLB := Lib.hid hlab
  have HLAY := Lib.hid hL2
  have HOF := Lib.hid (of_bad t s w (hI.lower hb) (by rintro ⟨_, h, _⟩; exact h hs))
  have HMAY := Lib.hid (fun W (hW : Below w.heap.size w W) => refMay_any t W (hI.lower (below_then hb hW)) hnod)
  rw [hm] at HMAY
  clear hI hG hL hm hb hE hr hLI hKA hVA hks hvs hrw hlb hlen h50 hlab hL2 hnod h4 hs
  obtain ⟨a0, a1, a2, a3, a4⟩ := HE.out.ty
  go_wp2_with fail
  refine HOF.out.mono ?_
  rintro e w2 ⟨rfl, hb2⟩
  have HB2 := Lib.hid hb2
  clear a0 a1 a2 a3 a4 hb2 HOF
  go_upto_region 5 with fail
  have hb3 : Below w2.heap.size w2 (w2.alloc (.cells #[.int .i64 0, .int .i64 0, .string ⟨#[]⟩] 27)) := (Below.refl _ _).alloc (Nat.le_refl _) _
  have HTH := Lib.hid (Three.new w2 (.int .i64 0) (.int .i64 0) (.string ⟨#[]⟩) 27)
  have HB3 := Lib.hid (below_then HB2.out hb3)
  clear hb3 HB2
  generalize w2.alloc (.cells #[.int .i64 0, .int .i64 0, .string ⟨#[]⟩] 27) = w3 at *
  generalize w2.heap.size = X at *
  have HE3 := Lib.hid (HE.out.below HB3.out)
  obtain ⟨a0, a1, a2, a3, a4⟩ := HE3.out.ty
  go_wp2_with fail
  refine (HMAY.out w3 HB3.out).mono ?_
  rintro e w4 ⟨rfl, hb4⟩
  have HB4 := Lib.hid (below_then HB3.out hb4)
  have HTH4 := Lib.hid (HTH.out.below hb4)
  clear a0 a1 a2 a3 a4 hb4 HB3 HE3 HTH HMAY
  have HE4 := Lib.hid (HE.out.below HB4.out)
  obtain ⟨a0, a1, a2, a3, a4⟩ := HE4.out.ty
  obtain ⟨y0, y1, y2, _⟩ := HTH4.out
  have hb9 := HB4.out
  have HB9 := Lib.hid (below_then HB.out hb9)
  have HE9 := Lib.hid (HE.out.below hb9)
  have HL9 := Lib.hid (And.intro (HLL.out.1.below hb9) (fun k hk => (HLL.out.2 k hk).below hb9))
  have HK9 := Lib.hid (And.intro (HKV.out.1.below hb9) (HKV.out.2.1.below hb9))
  have HLY9 := Lib.hid (HLAY.out.below hb9)
  clear hb9
  go_upto_region 14 with fail
  exact et_name b n row lab t LA lc L w0 w4 HT.out.1 HT.out.2.1 HB9.out HE9.out HL9.out.1 HT.out.2.2.1 HL9.out.2 HT.out.2.2.2 KA VA kc vc ks vs HK9.out.1 HK9.out.2 HKV.out.2.2.1 HKV.out.2.2.2.1 HKV.out.2.2.2.2.1 HKV.out.2.2.2.2.2.1 HKV.out.2.2.2.2.2.2.1 HKV.out.2.2.2.2.2.2.2 HLB.out HLY9.out (by assumption)

set_option maxRecDepth 100000 in
set_option maxHeartbeats 1000000 in
theorem et_of_c5 {u0 u2 u5 u7 u9 u10 u14 u15 u16 u17 u18 u19 u20 u21 u22 u23 u24 u25 u26 u27 u28 u29 u30 u31 u32 u33 u34 u35 u36 u37 u38 u39 u40 u41 u42 u43 u44 u45 u46 u47 u48 u49 u50 u51 u52 u53 u54 u55 u56 u57 u58 u59 u60 u61 u62 u63 u64 u65 u66 u67 u68 u69 u70 u71 u72 u73 u74 u75 u76 u77 u78 u79 u80 u81 u82 u83 u84 u85 u86 u87 u88 u89 u90 u91 u92 u93 u94 u95 u96 u97 u98 u99 u100 u101 u102 u103 u104 u105 u106 u107 u108 u109 u110 u111 u112 u113 u114 u115 u116 u117 u118 u119 u120 u121 u122 u123 u124 u125 u126 u127 u128 u129 u130 u131 u132 u133 u134 u135 u136 u137 u138 u139 u140 u141 u142 u143 u144 u145 u146 u147 u148 u149 u150 u151 u152 u153 u154 u155 u156 u157 u158 u159 u160 u161 u162 u163 u164 u165 u166 u167 u168 u169 u170 u171 u172 u173 u174 u175 u176 u177 u178 u179 u180 u181 u182 u183 u184 u185 u186 u187 u188 u189 u190 u191 u192 u193 u194 u195 u196 u197 u198 u199 u200 u201 u202 u203 u204 u205 u206 u207 u208 u209 u210 u211 u212 u213 u214 u215 u216 u217 u218 u219 u220 u221 u222 u223 u224 u225 u226 u227 u228 u229 u230 u231 u232 u233 u234 u235 u236 u237 u238 u239 u240 u241 u242 u243 u244 u245 u246 u247 u248 u249 u250 u251 u252 u253 u254 u255 u256 u257 u258 u259 u260 u261 u262 u263 u264 u265 u266 u267 u268 u269 u270 u271 u272 u273 u274 u275 u276 u277 u278 u279 u280 u281 u282 u283 u284 u285 u286 u287 u288 u289 u290 u291 u292 u293 u294 u295 u296 u297 u298 u299 u300 u301 u302 u303 u304 u305 u306 u307 u308 u309 u310 u311 u312 u313 u314 u315 u316 u317 u318 u319 u320 u321 u322 u323 u324 u325 u326 u327 u328 u329 u330 u331 u332 u333 u334 u335 u336 u337 u338 u339 u340 u341 u342 u343 u344 u345 u346 u347 u348 u349 u350 u351 u352 u353 u354 u355 u356 u357 u358 u359 u360 u361 u362 u363 u364 : Value} (b : Nat) (s : Str) (n row : Int) (lab : Str) (t : Ty) (LA : Option Addr) (lc : Nat) (L : List Lk) (w0 w : World) (hI : t.In w0) (hG : t.Rg) (hb : Below w0.heap.size w0 w) (hE : EB w b t.d n row lab LA L.length lc)
    (hr : Rd w 1 LA L.length (L.map Lk.val)) (hL : L.length ≤ 4000000) (hLI : ∀ k ∈ L, k.In w) (hm : (mayF t 0).isSome = true)
    (KA VA : Option Addr) (kc vc : Nat) (ks : List (Int × Str)) (vs : List Int) (hKA : Rd w 2 KA ks.length (nds ks)) (hVA : Rd w 1 VA vs.length (i64s vs)) (hlen : ks.length ≤ vs.length) (h50 : ks.length ≤ 50)
    (hks : ∀ x ∈ ks, (Lit.int .i64 x.1).wf = true ∧ x.2.length ≤ maxLen) (hvs : ∀ v ∈ vs, (Lit.int .i64 v).wf = true) (hrw : (Lit.int .i64 row).wf = true) (hlb : lab.length ≤ maxLen) (hlab : lab.length ≤ 1000000) (hL2 : Lay w) (hnod : t.nodes ≤ 4000000) (h5 : t.d.kind = 5) (hs : s = [])
    {K : Act → World → Prop} (hK : ∀ a w, Code.wp Tryd.prog (tl 4) (bodyPost Tryd.prog Tryd.f3 (Fin3 w0)) a w → K a w) : Code.wp Tryd.prog (hd 3) (Exit.then K (bodyPost Tryd.prog Tryd.f3 (Fin3 w0))) ⟨#[u0, .string (bstr s), u2, .slice KA ks.length kc, .slice VA vs.length vc, u5, .pointer (some ⟨b, 0, Option.none⟩), u7, .pointer (some ⟨b + 1, 0, Option.none⟩), u9, u10, .pointer (some ⟨b + 1 + 1, 0, Option.none⟩), .bool false, .bool true, u14, u15, u16, u17, u18, u19, u20, u21, u22, u23, u24, u25, u26, u27, u28, u29, u30, u31, u32, u33, u34, u35, u36, u37, u38, u39, u40, u41, u42, u43, u44, u45, u46, u47, u48, u49, u50, u51, u52, u53, u54, u55, u56, u57, u58, u59, u60, u61, u62, u63, u64, u65, u66, u67, u68, u69, u70, u71, u72, u73, u74, u75, u76, u77, u78, u79, u80, u81, u82, u83, u84, u85, u86, u87, u88, u89, u90, u91, u92, u93, u94, u95, u96, u97, u98, u99, u100, u101, u102, u103, u104, u105, u106, u107, u108, u109, u110, u111, u112, u113, u114, u115, u116, u117, u118, u119, u120, u121, u122, u123, u124, u125, u126, u127, u128, u129, u130, u131, u132, u133, u134, u135, u136, u137, u138, u139, u140, u141, u142, u143, u144, u145, u146, u147, u148, u149, u150, u151, u152, u153, u154, u155, u156, u157, u158, u159, u160, u161, u162, u163, u164, u165, u166, u167, u168, u169, u170, u171, u172, u173, u174, u175, u176, u177, u178, u179, u180, u181, u182, u183, u184, u185, u186, u187, u188, u189, u190, u191, u192, u193, u194, u195, u196, u197, u198, u199, u200, u201, u202, u203, u204, u205, u206, u207, u208, u209, u210, u211, u212, u213, u214, u215, u216, u217, u218, u219, u220, u221, u222, u223, u224, u225, u226, u227, u228, u229, u230, u231, u232, u233, u234, u235, u236, u237, u238, u239, u240, u241, u242, u243, u244, u245, u246, u247, u248, u249, u250, u251, u252, u253, u254, u255, u256, u257, u258, u259, u260, u261, u262, u263, u264, u265, u266, u267, u268, u269, u270, u271, u272, u273, u274, u275, u276, u277, u278, u279, u280, u281, u282, u283, u284, u285, u286, u287, u288, u289, u290, u291, u292, u293, u294, u295, u296, u297, u298, u299, u300, u301, u302, u303, u304, u305, u306, u307, u308, u309, u310, u311, u312, u313, u314, u315, u316, u317, u318, u319, u320, u321, u322, u323, u324, u325, u326, u327, u328, u329, u330, u331, u332, u333, u334, u335, u336, u337, u338, u339, u340, u341, u342, u343, u344, u345, u346, u347, u348, u349, u350, u351, u352, u353, u354, u355, u356, u357, u358, u359, u360, u361, u362, u363, u364], []⟩ w := by
  conv at hK => enter [a, w, 1, 2]; whnf
  conv => arg 2; whnf
  have q1 : (t.d.kind != 4) = true := by rw [h5]; rfl
  have q3 : (t.d.kind != 5) = false := by simpa using h5
  have q2 : (bstr s).toList.isEmpty = true := by rw [hs, bstr_toList]; rfl
  have HT := Lib.hid (And.intro hI (And.intro hG (And.intro hL hm)))
  have HB := Lib.hid hb
  have HE := Lib.hid hE
  have HLL := Lib.hid (And.intro hr hLI)
  have HKV := Lib.hid (And.intro hKA (And.intro hVA (And.intro hlen (And.intro h50 (And.intro hks (And.intro hvs (And.intro hrw hlb)))))))
  have HLB := Lib.hid hlab
  have HLAY := Lib.hid hL2
  have HOF := Lib.hid (of_bad t s w (hI.lower hb) (by rintro ⟨_, h, _⟩; exact h hs))
  have HMAY := Lib.hid (fun W (hW : Below w.heap.size w W) => refMay_any t W (hI.lower (below_then hb hW)) hnod)
  rw [hm] at HMAY
  clear hI hG hL hm hb hE hr hLI hKA hVA hks hvs hrw hlb hlen h50 hlab hL2 hnod h5 hs
  obtain ⟨a0, a1, a2, a3, a4⟩ := HE.out.ty
  go_wp2_with fail
  refine HOF.out.mono ?_
  rintro e w2 ⟨rfl, hb2⟩
  have HB2 := Lib.hid hb2
  clear a0 a1 a2 a3 a4 hb2 HOF
  go_upto_region 5 with fail
  have hb3 : Below w2.heap.size w2 (w2.alloc (.cells #[.int .i64 0, .int .i64 0, .string ⟨#[]⟩] 27)) := (Below.refl _ _).alloc (Nat.le_refl _) _
  have HTH := Lib.hid (Three.new w2 (.int .i64 0) (.int .i64 0) (.string ⟨#[]⟩) 27)
  have HB3 := Lib.hid (below_then HB2.out hb3)
  clear hb3 HB2
  generalize w2.alloc (.cells #[.int .i64 0, .int .i64 0, .string ⟨#[]⟩] 27) = w3 at *
  generalize w2.heap.size = X at *
  have HE3 := Lib.hid (HE.out.below HB3.out)
  obtain ⟨a0, a1, a2, a3, a4⟩ := HE3.out.ty
  go_wp2_with fail
  refine (HMAY.out w3 HB3.out).mono ?_
  rintro e w4 ⟨rfl, hb4⟩
  have HB4 := Lib.hid (below_then HB3.out hb4)
  have HTH4 := Lib.hid (HTH.out.below hb4)
  clear a0 a1 a2 a3 a4 hb4 HB3 HE3 HTH HMAY
  have HE4 := Lib.hid (HE.out.below HB4.out)
  obtain ⟨a0, a1, a2, a3, a4⟩ := HE4.out.ty
  obtain ⟨y0, y1, y2, _⟩ := HTH4.out
  have hb9 := HB4.out
  have HB9 := Lib.hid (below_then HB.out hb9)
  have HE9 := Lib.hid (HE.out.below hb9)
  have HL9 := Lib.hid (And.intro (HLL.out.1.below hb9) (fun k hk => (HLL.out.2 k hk).below hb9))
  have HK9 := Lib.hid (And.intro (HKV.out.1.below hb9) (HKV.out.2.1.below hb9))
  have HLY9 := Lib.hid (HLAY.out.below hb9)
  clear hb9
  go_upto_region 14 with fail
  exact et_name b n row lab t LA lc L w0 w4 HT.out.1 HT.out.2.1 HB9.out HE9.out HL9.out.1 HT.out.2.2.1 HL9.out.2 HT.out.2.2.2 KA VA kc vc ks vs HK9.out.1 HK9.out.2 HKV.out.2.2.1 HKV.out.2.2.2.1 HKV.out.2.2.2.2.1 HKV.out.2.2.2.2.2.1 HKV.out.2.2.2.2.2.2.1 HKV.out.2.2.2.2.2.2.2 HLB.out HLY9.out (by assumption)

set_option maxRecDepth 100000 in
set_option maxHeartbeats 1000000 in
theorem et_of_g4 {u0 u2 u5 u7 u9 u10 u14 u15 u16 u17 u18 u19 u20 u21 u22 u23 u24 u25 u26 u27 u28 u29 u30 u31 u32 u33 u34 u35 u36 u37 u38 u39 u40 u41 u42 u43 u44 u45 u46 u47 u48 u49 u50 u51 u52 u53 u54 u55 u56 u57 u58 u59 u60 u61 u62 u63 u64 u65 u66 u67 u68 u69 u70 u71 u72 u73 u74 u75 u76 u77 u78 u79 u80 u81 u82 u83 u84 u85 u86 u87 u88 u89 u90 u91 u92 u93 u94 u95 u96 u97 u98 u99 u100 u101 u102 u103 u104 u105 u106 u107 u108 u109 u110 u111 u112 u113 u114 u115 u116 u117 u118 u119 u120 u121 u122 u123 u124 u125 u126 u127 u128 u129 u130 u131 u132 u133 u134 u135 u136 u137 u138 u139 u140 u141 u142 u143 u144 u145 u146 u147 u148 u149 u150 u151 u152 u153 u154 u155 u156 u157 u158 u159 u160 u161 u162 u163 u164 u165 u166 u167 u168 u169 u170 u171 u172 u173 u174 u175 u176 u177 u178 u179 u180 u181 u182 u183 u184 u185 u186 u187 u188 u189 u190 u191 u192 u193 u194 u195 u196 u197 u198 u199 u200 u201 u202 u203 u204 u205 u206 u207 u208 u209 u210 u211 u212 u213 u214 u215 u216 u217 u218 u219 u220 u221 u222 u223 u224 u225 u226 u227 u228 u229 u230 u231 u232 u233 u234 u235 u236 u237 u238 u239 u240 u241 u242 u243 u244 u245 u246 u247 u248 u249 u250 u251 u252 u253 u254 u255 u256 u257 u258 u259 u260 u261 u262 u263 u264 u265 u266 u267 u268 u269 u270 u271 u272 u273 u274 u275 u276 u277 u278 u279 u280 u281 u282 u283 u284 u285 u286 u287 u288 u289 u290 u291 u292 u293 u294 u295 u296 u297 u298 u299 u300 u301 u302 u303 u304 u305 u306 u307 u308 u309 u310 u311 u312 u313 u314 u315 u316 u317 u318 u319 u320 u321 u322 u323 u324 u325 u326 u327 u328 u329 u330 u331 u332 u333 u334 u335 u336 u337 u338 u339 u340 u341 u342 u343 u344 u345 u346 u347 u348 u349 u350 u351 u352 u353 u354 u355 u356 u357 u358 u359 u360 u361 u362 u363 u364 : Value} (b : Nat) (s : Str) (n row : Int) (lab : Str) (t : Ty) (LA : Option Addr) (lc : Nat) (L : List Lk) (w0 w : World) (hI : t.In w0) (hG : t.Rg) (hb : Below w0.heap.size w0 w) (hE : EB w b t.d n row lab LA L.length lc)
    (hr : Rd w 1 LA L.length (L.map Lk.val)) (hL : L.length ≤ 4000000) (hLI : ∀ k ∈ L, k.In w) (hm : (mayF t 0).isSome = true)
    (KA VA : Option Addr) (kc vc : Nat) (ks : List (Int × Str)) (vs : List Int) (hKA : Rd w 2 KA ks.length (nds ks)) (hVA : Rd w 1 VA vs.length (i64s vs)) (hlen : ks.length ≤ vs.length) (h50 : ks.length ≤ 50)
    (hks : ∀ x ∈ ks, (Lit.int .i64 x.1).wf = true ∧ x.2.length ≤ maxLen) (hvs : ∀ v ∈ vs, (Lit.int .i64 v).wf = true) (hrw : (Lit.int .i64 row).wf = true) (hlb : lab.length ≤ maxLen) (hlab : lab.length ≤ 1000000) (hL2 : Lay w) (hnod : t.nodes ≤ 4000000) (hk : t.d.kind = 4) (hs : s ≠ []) (htl : 0 ≤ t.d.tail)
    {K : Act → World → Prop} (hK : ∀ a w, Code.wp Tryd.prog (tl 4) (bodyPost Tryd.prog Tryd.f3 (Fin3 w0)) a w → K a w) : Code.wp Tryd.prog (hd 3) (Exit.then K (bodyPost Tryd.prog Tryd.f3 (Fin3 w0))) ⟨#[u0, .string (bstr s), u2, .slice KA ks.length kc, .slice VA vs.length vc, u5, .pointer (some ⟨b, 0, Option.none⟩), u7, .pointer (some ⟨b + 1, 0, Option.none⟩), u9, u10, .pointer (some ⟨b + 1 + 1, 0, Option.none⟩), .bool false, .bool true, u14, u15, u16, u17, u18, u19, u20, u21, u22, u23, u24, u25, u26, u27, u28, u29, u30, u31, u32, u33, u34, u35, u36, u37, u38, u39, u40, u41, u42, u43, u44, u45, u46, u47, u48, u49, u50, u51, u52, u53, u54, u55, u56, u57, u58, u59, u60, u61, u62, u63, u64, u65, u66, u67, u68, u69, u70, u71, u72, u73, u74, u75, u76, u77, u78, u79, u80, u81, u82, u83, u84, u85, u86, u87, u88, u89, u90, u91, u92, u93, u94, u95, u96, u97, u98, u99, u100, u101, u102, u103, u104, u105, u106, u107, u108, u109, u110, u111, u112, u113, u114, u115, u116, u117, u118, u119, u120, u121, u122, u123, u124, u125, u126, u127, u128, u129, u130, u131, u132, u133, u134, u135, u136, u137, u138, u139, u140, u141, u142, u143, u144, u145, u146, u147, u148, u149, u150, u151, u152, u153, u154, u155, u156, u157, u158, u159, u160, u161, u162, u163, u164, u165, u166, u167, u168, u169, u170, u171, u172, u173, u174, u175, u176, u177, u178, u179, u180, u181, u182, u183, u184, u185, u186, u187, u188, u189, u190, u191, u192, u193, u194, u195, u196, u197, u198, u199, u200, u201, u202, u203, u204, u205, u206, u207, u208, u209, u210, u211, u212, u213, u214, u215, u216, u217, u218, u219, u220, u221, u222, u223, u224, u225, u226, u227, u228, u229, u230, u231, u232, u233, u234, u235, u236, u237, u238, u239, u240, u241, u242, u243, u244, u245, u246, u247, u248, u249, u250, u251, u252, u253, u254, u255, u256, u257, u258, u259, u260, u261, u262, u263, u264, u265, u266, u267, u268, u269, u270, u271, u272, u273, u274, u275, u276, u277, u278, u279, u280, u281, u282, u283, u284, u285, u286, u287, u288, u289, u290, u291, u292, u293, u294, u295, u296, u297, u298, u299, u300, u301, u302, u303, u304, u305, u306, u307, u308, u309, u310, u311, u312, u313, u314, u315, u316, u317, u318, u319, u320, u321, u322, u323, u324, u325, u326, u327, u328, u329, u330, u331, u332, u333, u334, u335, u336, u337, u338, u339, u340, u341, u342, u343, u344, u345, u346, u347, u348, u349, u350, u351, u352, u353, u354, u355, u356, u357, u358, u359, u360, u361, u362, u363, u364], []⟩ w := by
  conv at hK => enter [a, w, 1, 2]; whnf
  conv => arg 2; whnf
  have HLBL := Lib.hid (And.intro ((hI.lower hb).lab) (show t.d.ln ≤ maxLen by have := hI.cap; unfold maxLen; omega))
  have q1 : (t.d.kind != 4) = false := by simpa using hk
  have q2 := str_empty hs
  have HTL := Lib.hid htl
  have HT := Lib.hid (And.intro hI (And.intro hG (And.intro hL hm)))
  have HB := Lib.hid hb
  have HE := Lib.hid hE
  have HLL := Lib.hid (And.intro hr hLI)
  have HKV := Lib.hid (And.intro hKA (And.intro hVA (And.intro hlen (And.intro h50 (And.intro hks (And.intro hvs (And.intro hrw hlb)))))))
  have HLB := Lib.hid hlab
  have HLAY := Lib.hid hL2
  have HOF := Lib.hid (of_row t s w (hI.lower hb) hk hs hm htl)
  have HMAY := Lib.hid (fun W (hW : Below w.heap.size w W) => refMay_any t W (hI.lower (below_then hb hW)) hnod)
  rw [hm] at HMAY
  clear hI hG hL hm hb hE hr hLI hKA hVA hks hvs hrw hlb hlen h50 hlab hL2 hnod hk hs htl
  obtain ⟨a0, a1, a2, a3, a4⟩ := HE.out.ty
  go_wp2_with fail
  refine HOF.out.mono ?_
  rintro e w2 ⟨rfl, hb2⟩
  have HB2 := Lib.hid hb2
  clear a0 a1 a2 a3 a4 hb2 HOF
  go_upto_region 5 with fail
  have hb3 : Below w2.heap.size w2 (w2.alloc (.cells #[.int .i64 (offs t.d.labels s : Nat), .int .i64 t.d.tail, .string (bstr s)] 27)) := (Below.refl _ _).alloc (Nat.le_refl _) _
  have HTH := Lib.hid (Three.new w2 (.int .i64 (offs t.d.labels s : Nat)) (.int .i64 t.d.tail) (.string (bstr s)) 27)
  have HB3 := Lib.hid (below_then HB2.out hb3)
  clear hb3 HB2
  generalize w2.alloc (.cells #[.int .i64 (offs t.d.labels s : Nat), .int .i64 t.d.tail, .string (bstr s)] 27) = w3 at *
  generalize w2.heap.size = X at *
  have HE3 := Lib.hid (HE.out.below HB3.out)
  obtain ⟨a0, a1, a2, a3, a4⟩ := HE3.out.ty
  go_wp2_with fail
  refine (HMAY.out w3 HB3.out).mono ?_
  rintro e w4 ⟨rfl, hb4⟩
  have HB4 := Lib.hid (below_then HB3.out hb4)
  have HTH4 := Lib.hid (HTH.out.below hb4)
  clear a0 a1 a2 a3 a4 hb4 HB3 HE3 HTH HMAY
  have HE4 := Lib.hid (HE.out.below HB4.out)
  obtain ⟨a0, a1, a2, a3, a4⟩ := HE4.out.ty
  obtain ⟨y0, y1, y2, _⟩ := HTH4.out
  have HX := Lib.hid (World.block_lt_of_cell? w4 _ y0)
  have hbl : b < w4.heap.size := World.block_lt_of_cell? w4 _ a0
  have hcap := HLBL.out.2
  have HOFF := Lib.hid (fun W (hW : Below w4.heap.size w4 W) => refOffset_any t.d.lA t.d.labels s t.d.ln t.d.lc W (HLBL.out.1.below (below_then HB4.out hW)) HLBL.out.2)
  clear hcap
  go_upto_region 9 with fail
  have a3 : w4.cell? ⟨b, 3, none⟩ = some (.slice t.d.lA t.d.ln t.d.lc) := a3
  have a4 : w4.cell? ⟨b, 4, none⟩ = some (.int .i64 t.d.tail) := a4
  go_cut [17] from 99 to 105 (fun s17 wx => ∃ Y, s17 = .pointer (some ⟨Y, 0, none⟩) ∧ Three wx Y (.int .i64 (offs t.d.labels s : Nat)) (.int .i64 t.d.tail) (.string ⟨#[]⟩) ∧ w.heap.size ≤ Y ∧ Y ≠ X ∧ Below w4.heap.size w4 wx)
  case first =>
    have HS := Lib.hid (fun (W : World) (hW : Below w4.heap.size w4 W) => And.intro (cell_below hW a3) (cell_below hW a4))
    have HD2 := Lib.hid (show Below w4.heap.size w4 (w4.alloc (.cells #[.int .i64 0, .int .i64 0, .string ⟨#[]⟩] 27)).drew from below_drewN ((Below.refl w4.heap.size w4).alloc (Nat.le_refl _) _) 1)
    have HD3 := Lib.hid (fun (w6 : World) (hb60 : Below (w4.alloc (.cells #[.int .i64 0, .int .i64 0, .string ⟨#[]⟩] 27)).drew.heap.size (w4.alloc (.cells #[.int .i64 0, .int .i64 0, .string ⟨#[]⟩] 27)).drew w6) => show Three w6 w4.heap.size (.int .i64 0) (.int .i64 0) (.string ⟨#[]⟩) from ((Three.new w4 (.int .i64 0) (.int .i64 0) (.string ⟨#[]⟩) 27).below (below_drewN (Below.refl _ _) 1)).below hb60)
    have HD4 := Lib.hid (fun (w6 : World) (hb60 : Below (w4.alloc (.cells #[.int .i64 0, .int .i64 0, .string ⟨#[]⟩] 27)).drew.heap.size (w4.alloc (.cells #[.int .i64 0, .int .i64 0, .string ⟨#[]⟩] 27)).drew w6) => (HD2.out).trans (hb60.mono HD2.out.size))
    go_region_held3 (fun w' => w'.cell? ⟨b, 3, none⟩ = some (.slice t.d.lA t.d.ln t.d.lc) ∧ w'.cell? ⟨b, 4, none⟩ = some (.int .i64 t.d.tail))
      (first | exact HS.out _ (show Below w4.heap.size w4 w4.drew from below_drewN (Below.refl _ _) 1) | exact HS.out _ ((show Below w4.heap.size w4 w4.drew from below_drewN (Below.refl _ _) 1).alloc (Nat.le_refl _) _) | exact HS.out _ (show Below w4.heap.size w4 (w4.alloc (.cells #[.int .i64 0, .int .i64 0, .string ⟨#[]⟩] 27)).drew from below_drewN ((Below.refl w4.heap.size w4).alloc (Nat.le_refl _) _) 1) | exact HS.out _ hb6 | exact HS.out _ (hb6.alloc hb6.size _) | exact HS.out _ (below_drewN hb6 1) | exact HS.out _ (((hb6.setCell (Nat.le_refl _) _).setCell (Nat.le_refl _) _).setCell (Nat.le_refl _) _) | exact HS.out _ ((((hb6.alloc hb6.size _).setCell hb6.size _).setCell hb6.size _).setCell hb6.size _) | fail)
      (first
      | (go_at_call 9; (with_reducible refine (HOFF.out w4.drew (show Below w4.heap.size w4 w4.drew from below_drewN (Below.refl _ _) 1)).mono ?_); rintro e w6 ⟨rfl, hb60⟩; have hb6 := ((show Below w4.heap.size w4 w4.drew from below_drewN (Below.refl _ _) 1)).trans hb60; clear hb60)
      | (go_at_call 9; (with_reducible refine (HOFF.out (w4.alloc (.cells #[.int .i64 0, .int .i64 0, .string ⟨#[]⟩] 27)).drew HD2.out).mono ?_); rintro e w6 ⟨rfl, hb60⟩; have HT6 := Lib.hid (HD3.out w6 hb60); obtain ⟨z0, z1, z2, zf⟩ := HT6.out; have g0 := zf 0; have g1 := zf 1; have g2 := zf 2; have hb6 := HD4.out w6 hb60; clear hb60))
    · have hw6 := HB4.out.size
      have h46 := hb6.size
      go_wp2_with fail
      go_meet
      exact ⟨w6.heap.size, rfl, Three.new w6 _ _ _ _, by omega, by have := HX.out; omega, hb6.alloc h46 _⟩
    · have hw6 := HB4.out.size
      go_wp2_with fail
      go_meet
      have h9 := three_sets (.int .i64 (offs t.d.labels s : Nat)) (.int .i64 t.d.tail) (.string ⟨#[]⟩) HT6.out (Nat.le_refl _) rfl
      exact ⟨w4.heap.size, rfl, h9.1, hw6, by have := HX.out; omega, hb6.trans h9.2⟩
  case rest =>
  obtain ⟨Y, rfl, hth, hwY, hYX, hbc⟩ := hcut
  have a4 := cell_below hbc a4
  have HTX := Lib.hid (HTH4.out.below hbc)
  have HTY := Lib.hid hth
  have HBC := Lib.hid (HB4.out.trans (hbc.mono HB4.out.size))
  have HNE := Lib.hid (And.intro hwY hYX)
  clear a0 a1 a2 a3 y0 y1 y2 hth hwY hYX hbc HOFF HLBL HTH4 HB4 HE4 HX hbl
  have qt : decide (0 ≤ t.d.tail) = true := decide_eq_true HTL.out
  obtain ⟨g0, g1, g2, gf⟩ := HTY.out
  have f2 := gf 2
  go_upto_region 12 with fail
  have HTX5 := Lib.hid (three_set (i := 2) (v := .string (bstr s)) HTX.out HNE.out.2)
  have HTY5 := Lib.hid (three_last (v := .string (bstr s)) HTY.out)
  have HB5 := Lib.hid (show Below w.heap.size w (wc.setCell ⟨Y, 2, none⟩ (.string (bstr s))) from HBC.out.setCell HNE.out.1 _)
  clear g0 g1 g2 gf f2 a4 HTX HTY HBC HNE qt
  generalize wc.setCell ⟨Y, 2, none⟩ (.string (bstr s)) = w5 at *
  obtain ⟨y0, y1, y2, _⟩ := HTX5.out
  obtain ⟨g0, g1, g2, _⟩ := HTY5.out
  have hb9 := HB5.out
  have HB9 := Lib.hid (below_then HB.out hb9)
  have HE9 := Lib.hid (HE.out.below hb9)
  have HL9 := Lib.hid (And.intro (HLL.out.1.below hb9) (fun k hk => (HLL.out.2 k hk).below hb9))
  have HK9 := Lib.hid (And.intro (HKV.out.1.below hb9) (HKV.out.2.1.below hb9))
  have HLY9 := Lib.hid (HLAY.out.below hb9)
  clear hb9
  go_upto_region 14 with fail
  exact et_name b n row lab t LA lc L w0 w5 HT.out.1 HT.out.2.1 HB9.out HE9.out HL9.out.1 HT.out.2.2.1 HL9.out.2 HT.out.2.2.2 KA VA kc vc ks vs HK9.out.1 HK9.out.2 HKV.out.2.2.1 HKV.out.2.2.2.1 HKV.out.2.2.2.2.1 HKV.out.2.2.2.2.2.1 HKV.out.2.2.2.2.2.2.1 HKV.out.2.2.2.2.2.2.2 HLB.out HLY9.out (by assumption)

set_option maxRecDepth 100000 in
set_option maxHeartbeats 1000000 in
theorem et_of_n4 {u0 u2 u5 u7 u9 u10 u14 u15 u16 u17 u18 u19 u20 u21 u22 u23 u24 u25 u26 u27 u28 u29 u30 u31 u32 u33 u34 u35 u36 u37 u38 u39 u40 u41 u42 u43 u44 u45 u46 u47 u48 u49 u50 u51 u52 u53 u54 u55 u56 u57 u58 u59 u60 u61 u62 u63 u64 u65 u66 u67 u68 u69 u70 u71 u72 u73 u74 u75 u76 u77 u78 u79 u80 u81 u82 u83 u84 u85 u86 u87 u88 u89 u90 u91 u92 u93 u94 u95 u96 u97 u98 u99 u100 u101 u102 u103 u104 u105 u106 u107 u108 u109 u110 u111 u112 u113 u114 u115 u116 u117 u118 u119 u120 u121 u122 u123 u124 u125 u126 u127 u128 u129 u130 u131 u132 u133 u134 u135 u136 u137 u138 u139 u140 u141 u142 u143 u144 u145 u146 u147 u148 u149 u150 u151 u152 u153 u154 u155 u156 u157 u158 u159 u160 u161 u162 u163 u164 u165 u166 u167 u168 u169 u170 u171 u172 u173 u174 u175 u176 u177 u178 u179 u180 u181 u182 u183 u184 u185 u186 u187 u188 u189 u190 u191 u192 u193 u194 u195 u196 u197 u198 u199 u200 u201 u202 u203 u204 u205 u206 u207 u208 u209 u210 u211 u212 u213 u214 u215 u216 u217 u218 u219 u220 u221 u222 u223 u224 u225 u226 u227 u228 u229 u230 u231 u232 u233 u234 u235 u236 u237 u238 u239 u240 u241 u242 u243 u244 u245 u246 u247 u248 u249 u250 u251 u252 u253 u254 u255 u256 u257 u258 u259 u260 u261 u262 u263 u264 u265 u266 u267 u268 u269 u270 u271 u272 u273 u274 u275 u276 u277 u278 u279 u280 u281 u282 u283 u284 u285 u286 u287 u288 u289 u290 u291 u292 u293 u294 u295 u296 u297 u298 u299 u300 u301 u302 u303 u304 u305 u306 u307 u308 u309 u310 u311 u312 u313 u314 u315 u316 u317 u318 u319 u320 u321 u322 u323 u324 u325 u326 u327 u328 u329 u330 u331 u332 u333 u334 u335 u336 u337 u338 u339 u340 u341 u342 u343 u344 u345 u346 u347 u348 u349 u350 u351 u352 u353 u354 u355 u356 u357 u358 u359 u360 u361 u362 u363 u364 : Value} (b : Nat) (s : Str) (n row : Int) (lab : Str) (t : Ty) (LA : Option Addr) (lc : Nat) (L : List Lk) (w0 w : World) (hI : t.In w0) (hG : t.Rg) (hb : Below w0.heap.size w0 w) (hE : EB w b t.d n row lab LA L.length lc)
    (hr : Rd w 1 LA L.length (L.map Lk.val)) (hL : L.length ≤ 4000000) (hLI : ∀ k ∈ L, k.In w) (hm : (mayF t 0).isSome = true)
    (KA VA : Option Addr) (kc vc : Nat) (ks : List (Int × Str)) (vs : List Int) (hKA : Rd w 2 KA ks.length (nds ks)) (hVA : Rd w 1 VA vs.length (i64s vs)) (hlen : ks.length ≤ vs.length) (h50 : ks.length ≤ 50)
    (hks : ∀ x ∈ ks, (Lit.int .i64 x.1).wf = true ∧ x.2.length ≤ maxLen) (hvs : ∀ v ∈ vs, (Lit.int .i64 v).wf = true) (hrw : (Lit.int .i64 row).wf = true) (hlb : lab.length ≤ maxLen) (hlab : lab.length ≤ 1000000) (hL2 : Lay w) (hnod : t.nodes ≤ 4000000) (hk : t.d.kind = 4) (hs : s ≠ []) (htl : t.d.tail = -1)
    {K : Act → World → Prop} (hK : ∀ a w, Code.wp Tryd.prog (tl 4) (bodyPost Tryd.prog Tryd.f3 (Fin3 w0)) a w → K a w) : Code.wp Tryd.prog (hd 3) (Exit.then K (bodyPost Tryd.prog Tryd.f3 (Fin3 w0))) ⟨#[u0, .string (bstr s), u2, .slice KA ks.length kc, .slice VA vs.length vc, u5, .pointer (some ⟨b, 0, Option.none⟩), u7, .pointer (some ⟨b + 1, 0, Option.none⟩), u9, u10, .pointer (some ⟨b + 1 + 1, 0, Option.none⟩), .bool false, .bool true, u14, u15, u16, u17, u18, u19, u20, u21, u22, u23, u24, u25, u26, u27, u28, u29, u30, u31, u32, u33, u34, u35, u36, u37, u38, u39, u40, u41, u42, u43, u44, u45, u46, u47, u48, u49, u50, u51, u52, u53, u54, u55, u56, u57, u58, u59, u60, u61, u62, u63, u64, u65, u66, u67, u68, u69, u70, u71, u72, u73, u74, u75, u76, u77, u78, u79, u80, u81, u82, u83, u84, u85, u86, u87, u88, u89, u90, u91, u92, u93, u94, u95, u96, u97, u98, u99, u100, u101, u102, u103, u104, u105, u106, u107, u108, u109, u110, u111, u112, u113, u114, u115, u116, u117, u118, u119, u120, u121, u122, u123, u124, u125, u126, u127, u128, u129, u130, u131, u132, u133, u134, u135, u136, u137, u138, u139, u140, u141, u142, u143, u144, u145, u146, u147, u148, u149, u150, u151, u152, u153, u154, u155, u156, u157, u158, u159, u160, u161, u162, u163, u164, u165, u166, u167, u168, u169, u170, u171, u172, u173, u174, u175, u176, u177, u178, u179, u180, u181, u182, u183, u184, u185, u186, u187, u188, u189, u190, u191, u192, u193, u194, u195, u196, u197, u198, u199, u200, u201, u202, u203, u204, u205, u206, u207, u208, u209, u210, u211, u212, u213, u214, u215, u216, u217, u218, u219, u220, u221, u222, u223, u224, u225, u226, u227, u228, u229, u230, u231, u232, u233, u234, u235, u236, u237, u238, u239, u240, u241, u242, u243, u244, u245, u246, u247, u248, u249, u250, u251, u252, u253, u254, u255, u256, u257, u258, u259, u260, u261, u262, u263, u264, u265, u266, u267, u268, u269, u270, u271, u272, u273, u274, u275, u276, u277, u278, u279, u280, u281, u282, u283, u284, u285, u286, u287, u288, u289, u290, u291, u292, u293, u294, u295, u296, u297, u298, u299, u300, u301, u302, u303, u304, u305, u306, u307, u308, u309, u310, u311, u312, u313, u314, u315, u316, u317, u318, u319, u320, u321, u322, u323, u324, u325, u326, u327, u328, u329, u330, u331, u332, u333, u334, u335, u336, u337, u338, u339, u340, u341, u342, u343, u344, u345, u346, u347, u348, u349, u350, u351, u352, u353, u354, u355, u356, u357, u358, u359, u360, u361, u362, u363, u364], []⟩ w := by
  conv at hK => enter [a, w, 1, 2]; whnf
  conv => arg 2; whnf
  have HLBL := Lib.hid (And.intro ((hI.lower hb).lab) (show t.d.ln ≤ maxLen by have := hI.cap; unfold maxLen; omega))
  have q1 : (t.d.kind != 4) = false := by simpa using hk
  have q2 := str_empty hs
  have HTL := Lib.hid htl
  have HT := Lib.hid (And.intro hI (And.intro hG (And.intro hL hm)))
  have HB := Lib.hid hb
  have HE := Lib.hid hE
  have HLL := Lib.hid (And.intro hr hLI)
  have HKV := Lib.hid (And.intro hKA (And.intro hVA (And.intro hlen (And.intro h50 (And.intro hks (And.intro hvs (And.intro hrw hlb)))))))
  have HLB := Lib.hid hlab
  have HLAY := Lib.hid hL2
  have HOF := Lib.hid (show Calls Tryd.prog 7 #[.agg t.d.arr, .string (bstr s)] w fun e w' => e = .returned (.tuple #[.agg #[.int .i64 (offs t.d.labels s : Nat), .int .i64 t.d.tail, .string ⟨#[]⟩], .nilIface]) ∧ Below w.heap.size w w' by have h := of_row4n t s w (hI.lower hb) hk hs hm htl; rw [← htl] at h; exact h)
  have HMAY := Lib.hid (fun W (hW : Below w.heap.size w W) => refMay_any t W (hI.lower (below_then hb hW)) hnod)
  rw [hm] at HMAY
  clear hI hG hL hm hb hE hr hLI hKA hVA hks hvs hrw hlb hlen h50 hlab hL2 hnod hk hs htl
  obtain ⟨a0, a1, a2, a3, a4⟩ := HE.out.ty
  go_wp2_with fail
  refine HOF.out.mono ?_
  rintro e w2 ⟨rfl, hb2⟩
  have HB2 := Lib.hid hb2
  clear a0 a1 a2 a3 a4 hb2 HOF
  go_upto_region 5 with fail
  have hb3 : Below w2.heap.size w2 (w2.alloc (.cells #[.int .i64 (offs t.d.labels s : Nat), .int .i64 t.d.tail, .string ⟨#[]⟩] 27)) := (Below.refl _ _).alloc (Nat.le_refl _) _
  have HTH := Lib.hid (Three.new w2 (.int .i64 (offs t.d.labels s : Nat)) (.int .i64 t.d.tail) (.string ⟨#[]⟩) 27)
  have HB3 := Lib.hid (below_then HB2.out hb3)
  clear hb3 HB2
  generalize w2.alloc (.cells #[.int .i64 (offs t.d.labels s : Nat), .int .i64 t.d.tail, .string ⟨#[]⟩] 27) = w3 at *
  generalize w2.heap.size = X at *
  have HE3 := Lib.hid (HE.out.below HB3.out)
  obtain ⟨a0, a1, a2, a3, a4⟩ := HE3.out.ty
  go_wp2_with fail
  refine (HMAY.out w3 HB3.out).mono ?_
  rintro e w4 ⟨rfl, hb4⟩
  have HB4 := Lib.hid (below_then HB3.out hb4)
  have HTH4 := Lib.hid (HTH.out.below hb4)
  clear a0 a1 a2 a3 a4 hb4 HB3 HE3 HTH HMAY
  have HE4 := Lib.hid (HE.out.below HB4.out)
  obtain ⟨a0, a1, a2, a3, a4⟩ := HE4.out.ty
  obtain ⟨y0, y1, y2, _⟩ := HTH4.out
  have HX := Lib.hid (World.block_lt_of_cell? w4 _ y0)
  have hbl : b < w4.heap.size := World.block_lt_of_cell? w4 _ a0
  have hcap := HLBL.out.2
  have HOFF := Lib.hid (fun W (hW : Below w4.heap.size w4 W) => refOffset_any t.d.lA t.d.labels s t.d.ln t.d.lc W (HLBL.out.1.below (below_then HB4.out hW)) HLBL.out.2)
  clear hcap
  go_upto_region 9 with fail
  have a3 : w4.cell? ⟨b, 3, none⟩ = some (.slice t.d.lA t.d.ln t.d.lc) := a3
  have a4 : w4.cell? ⟨b, 4, none⟩ = some (.int .i64 t.d.tail) := a4
  go_cut [17] from 99 to 105 (fun s17 wx => ∃ Y, s17 = .pointer (some ⟨Y, 0, none⟩) ∧ Three wx Y (.int .i64 (offs t.d.labels s : Nat)) (.int .i64 t.d.tail) (.string ⟨#[]⟩) ∧ w.heap.size ≤ Y ∧ Y ≠ X ∧ Below w4.heap.size w4 wx)
  case first =>
    have HS := Lib.hid (fun (W : World) (hW : Below w4.heap.size w4 W) => And.intro (cell_below hW a3) (cell_below hW a4))
    have HD2 := Lib.hid (show Below w4.heap.size w4 (w4.alloc (.cells #[.int .i64 0, .int .i64 0, .string ⟨#[]⟩] 27)).drew from below_drewN ((Below.refl w4.heap.size w4).alloc (Nat.le_refl _) _) 1)
    have HD3 := Lib.hid (fun (w6 : World) (hb60 : Below (w4.alloc (.cells #[.int .i64 0, .int .i64 0, .string ⟨#[]⟩] 27)).drew.heap.size (w4.alloc (.cells #[.int .i64 0, .int .i64 0, .string ⟨#[]⟩] 27)).drew w6) => show Three w6 w4.heap.size (.int .i64 0) (.int .i64 0) (.string ⟨#[]⟩) from ((Three.new w4 (.int .i64 0) (.int .i64 0) (.string ⟨#[]⟩) 27).below (below_drewN (Below.refl _ _) 1)).below hb60)
    have HD4 := Lib.hid (fun (w6 : World) (hb60 : Below (w4.alloc (.cells #[.int .i64 0, .int .i64 0, .string ⟨#[]⟩] 27)).drew.heap.size (w4.alloc (.cells #[.int .i64 0, .int .i64 0, .string ⟨#[]⟩] 27)).drew w6) => (HD2.out).trans (hb60.mono HD2.out.size))
    go_region_held3 (fun w' => w'.cell? ⟨b, 3, none⟩ = some (.slice t.d.lA t.d.ln t.d.lc) ∧ w'.cell? ⟨b, 4, none⟩ = some (.int .i64 t.d.tail))
      (first | exact HS.out _ (show Below w4.heap.size w4 w4.drew from below_drewN (Below.refl _ _) 1) | exact HS.out _ ((show Below w4.heap.size w4 w4.drew from below_drewN (Below.refl _ _) 1).alloc (Nat.le_refl _) _) | exact HS.out _ (show Below w4.heap.size w4 (w4.alloc (.cells #[.int .i64 0, .int .i64 0, .string ⟨#[]⟩] 27)).drew from below_drewN ((Below.refl w4.heap.size w4).alloc (Nat.le_refl _) _) 1) | exact HS.out _ hb6 | exact HS.out _ (hb6.alloc hb6.size _) | exact HS.out _ (below_drewN hb6 1) | exact HS.out _ (((hb6.setCell (Nat.le_refl _) _).setCell (Nat.le_refl _) _).setCell (Nat.le_refl _) _) | exact HS.out _ ((((hb6.alloc hb6.size _).setCell hb6.size _).setCell hb6.size _).setCell hb6.size _) | fail)
      (first
      | (go_at_call 9; (with_reducible refine (HOFF.out w4.drew (show Below w4.heap.size w4 w4.drew from below_drewN (Below.refl _ _) 1)).mono ?_); rintro e w6 ⟨rfl, hb60⟩; have hb6 := ((show Below w4.heap.size w4 w4.drew from below_drewN (Below.refl _ _) 1)).trans hb60; clear hb60)
      | (go_at_call 9; (with_reducible refine (HOFF.out (w4.alloc (.cells #[.int .i64 0, .int .i64 0, .string ⟨#[]⟩] 27)).drew HD2.out).mono ?_); rintro e w6 ⟨rfl, hb60⟩; have HT6 := Lib.hid (HD3.out w6 hb60); obtain ⟨z0, z1, z2, zf⟩ := HT6.out; have g0 := zf 0; have g1 := zf 1; have g2 := zf 2; have hb6 := HD4.out w6 hb60; clear hb60))
    · have hw6 := HB4.out.size
      have h46 := hb6.size
      go_wp2_with fail
      go_meet
      exact ⟨w6.heap.size, rfl, Three.new w6 _ _ _ _, by omega, by have := HX.out; omega, hb6.alloc h46 _⟩
    · have hw6 := HB4.out.size
      go_wp2_with fail
      go_meet
      have h9 := three_sets (.int .i64 (offs t.d.labels s : Nat)) (.int .i64 t.d.tail) (.string ⟨#[]⟩) HT6.out (Nat.le_refl _) rfl
      exact ⟨w4.heap.size, rfl, h9.1, hw6, by have := HX.out; omega, hb6.trans h9.2⟩
  case rest =>
  obtain ⟨Y, rfl, hth, hwY, hYX, hbc⟩ := hcut
  have a4 := cell_below hbc a4
  have HTX := Lib.hid (HTH4.out.below hbc)
  have HTY := Lib.hid hth
  have HBC := Lib.hid (HB4.out.trans (hbc.mono HB4.out.size))
  have HNE := Lib.hid (And.intro hwY hYX)
  clear a0 a1 a2 a3 y0 y1 y2 hth hwY hYX hbc HOFF HLBL HTH4 HB4 HE4 HX hbl
  have qt : decide (0 ≤ t.d.tail) = false := decide_eq_false (by have := HTL.out; omega)
  obtain ⟨y0, y1, y2, _⟩ := HTX.out
  obtain ⟨g0, g1, g2, _⟩ := HTY.out
  have hb9 := HBC.out
  have HB9 := Lib.hid (below_then HB.out hb9)
  have HE9 := Lib.hid (HE.out.below hb9)
  have HL9 := Lib.hid (And.intro (HLL.out.1.below hb9) (fun k hk => (HLL.out.2 k hk).below hb9))
  have HK9 := Lib.hid (And.intro (HKV.out.1.below hb9) (HKV.out.2.1.below hb9))
  have HLY9 := Lib.hid (HLAY.out.below hb9)
  clear hb9
  go_upto_region 14 with fail
  exact et_name b n row lab t LA lc L w0 wc HT.out.1 HT.out.2.1 HB9.out HE9.out HL9.out.1 HT.out.2.2.1 HL9.out.2 HT.out.2.2.2 KA VA kc vc ks vs HK9.out.1 HK9.out.2 HKV.out.2.2.1 HKV.out.2.2.2.1 HKV.out.2.2.2.2.1 HKV.out.2.2.2.2.2.1 HKV.out.2.2.2.2.2.2.1 HKV.out.2.2.2.2.2.2.2 HLB.out HLY9.out (by assumption)

set_option maxRecDepth 100000 in
set_option maxHeartbeats 1000000 in
theorem et_of_g5 {u0 u2 u5 u7 u9 u10 u14 u15 u16 u17 u18 u19 u20 u21 u22 u23 u24 u25 u26 u27 u28 u29 u30 u31 u32 u33 u34 u35 u36 u37 u38 u39 u40 u41 u42 u43 u44 u45 u46 u47 u48 u49 u50 u51 u52 u53 u54 u55 u56 u57 u58 u59 u60 u61 u62 u63 u64 u65 u66 u67 u68 u69 u70 u71 u72 u73 u74 u75 u76 u77 u78 u79 u80 u81 u82 u83 u84 u85 u86 u87 u88 u89 u90 u91 u92 u93 u94 u95 u96 u97 u98 u99 u100 u101 u102 u103 u104 u105 u106 u107 u108 u109 u110 u111 u112 u113 u114 u115 u116 u117 u118 u119 u120 u121 u122 u123 u124 u125 u126 u127 u128 u129 u130 u131 u132 u133 u134 u135 u136 u137 u138 u139 u140 u141 u142 u143 u144 u145 u146 u147 u148 u149 u150 u151 u152 u153 u154 u155 u156 u157 u158 u159 u160 u161 u162 u163 u164 u165 u166 u167 u168 u169 u170 u171 u172 u173 u174 u175 u176 u177 u178 u179 u180 u181 u182 u183 u184 u185 u186 u187 u188 u189 u190 u191 u192 u193 u194 u195 u196 u197 u198 u199 u200 u201 u202 u203 u204 u205 u206 u207 u208 u209 u210 u211 u212 u213 u214 u215 u216 u217 u218 u219 u220 u221 u222 u223 u224 u225 u226 u227 u228 u229 u230 u231 u232 u233 u234 u235 u236 u237 u238 u239 u240 u241 u242 u243 u244 u245 u246 u247 u248 u249 u250 u251 u252 u253 u254 u255 u256 u257 u258 u259 u260 u261 u262 u263 u264 u265 u266 u267 u268 u269 u270 u271 u272 u273 u274 u275 u276 u277 u278 u279 u280 u281 u282 u283 u284 u285 u286 u287 u288 u289 u290 u291 u292 u293 u294 u295 u296 u297 u298 u299 u300 u301 u302 u303 u304 u305 u306 u307 u308 u309 u310 u311 u312 u313 u314 u315 u316 u317 u318 u319 u320 u321 u322 u323 u324 u325 u326 u327 u328 u329 u330 u331 u332 u333 u334 u335 u336 u337 u338 u339 u340 u341 u342 u343 u344 u345 u346 u347 u348 u349 u350 u351 u352 u353 u354 u355 u356 u357 u358 u359 u360 u361 u362 u363 u364 : Value} (b : Nat) (s : Str) (n row : Int) (lab : Str) (t : Ty) (LA : Option Addr) (lc : Nat) (L : List Lk) (w0 w : World) (hI : t.In w0) (hG : t.Rg) (hb : Below w0.heap.size w0 w) (hE : EB w b t.d n row lab LA L.length lc)
    (hr : Rd w 1 LA L.length (L.map Lk.val)) (hL : L.length ≤ 4000000) (hLI : ∀ k ∈ L, k.In w) (hm : (mayF t 0).isSome = true)
    (KA VA : Option Addr) (kc vc : Nat) (ks : List (Int × Str)) (vs : List Int) (hKA : Rd w 2 KA ks.length (nds ks)) (hVA : Rd w 1 VA vs.length (i64s vs)) (hlen : ks.length ≤ vs.length) (h50 : ks.length ≤ 50)
    (hks : ∀ x ∈ ks, (Lit.int .i64 x.1).wf = true ∧ x.2.length ≤ maxLen) (hvs : ∀ v ∈ vs, (Lit.int .i64 v).wf = true) (hrw : (Lit.int .i64 row).wf = true) (hlb : lab.length ≤ maxLen) (hlab : lab.length ≤ 1000000) (hL2 : Lay w) (hnod : t.nodes ≤ 4000000) (hk : t.d.kind = 5) (hs : s ≠ []) (htl : 0 ≤ t.d.tail)
    {K : Act → World → Prop} (hK : ∀ a w, Code.wp Tryd.prog (tl 4) (bodyPost Tryd.prog Tryd.f3 (Fin3 w0)) a w → K a w) : Code.wp Tryd.prog (hd 3) (Exit.then K (bodyPost Tryd.prog Tryd.f3 (Fin3 w0))) ⟨#[u0, .string (bstr s), u2, .slice KA ks.length kc, .slice VA vs.length vc, u5, .pointer (some ⟨b, 0, Option.none⟩), u7, .pointer (some ⟨b + 1, 0, Option.none⟩), u9, u10, .pointer (some ⟨b + 1 + 1, 0, Option.none⟩), .bool false, .bool true, u14, u15, u16, u17, u18, u19, u20, u21, u22, u23, u24, u25, u26, u27, u28, u29, u30, u31, u32, u33, u34, u35, u36, u37, u38, u39, u40, u41, u42, u43, u44, u45, u46, u47, u48, u49, u50, u51, u52, u53, u54, u55, u56, u57, u58, u59, u60, u61, u62, u63, u64, u65, u66, u67, u68, u69, u70, u71, u72, u73, u74, u75, u76, u77, u78, u79, u80, u81, u82, u83, u84, u85, u86, u87, u88, u89, u90, u91, u92, u93, u94, u95, u96, u97, u98, u99, u100, u101, u102, u103, u104, u105, u106, u107, u108, u109, u110, u111, u112, u113, u114, u115, u116, u117, u118, u119, u120, u121, u122, u123, u124, u125, u126, u127, u128, u129, u130, u131, u132, u133, u134, u135, u136, u137, u138, u139, u140, u141, u142, u143, u144, u145, u146, u147, u148, u149, u150, u151, u152, u153, u154, u155, u156, u157, u158, u159, u160, u161, u162, u163, u164, u165, u166, u167, u168, u169, u170, u171, u172, u173, u174, u175, u176, u177, u178, u179, u180, u181, u182, u183, u184, u185, u186, u187, u188, u189, u190, u191, u192, u193, u194, u195, u196, u197, u198, u199, u200, u201, u202, u203, u204, u205, u206, u207, u208, u209, u210, u211, u212, u213, u214, u215, u216, u217, u218, u219, u220, u221, u222, u223, u224, u225, u226, u227, u228, u229, u230, u231, u232, u233, u234, u235, u236, u237, u238, u239, u240, u241, u242, u243, u244, u245, u246, u247, u248, u249, u250, u251, u252, u253, u254, u255, u256, u257, u258, u259, u260, u261, u262, u263, u264, u265, u266, u267, u268, u269, u270, u271, u272, u273, u274, u275, u276, u277, u278, u279, u280, u281, u282, u283, u284, u285, u286, u287, u288, u289, u290, u291, u292, u293, u294, u295, u296, u297, u298, u299, u300, u301, u302, u303, u304, u305, u306, u307, u308, u309, u310, u311, u312, u313, u314, u315, u316, u317, u318, u319, u320, u321, u322, u323, u324, u325, u326, u327, u328, u329, u330, u331, u332, u333, u334, u335, u336, u337, u338, u339, u340, u341, u342, u343, u344, u345, u346, u347, u348, u349, u350, u351, u352, u353, u354, u355, u356, u357, u358, u359, u360, u361, u362, u363, u364], []⟩ w := by
  conv at hK => enter [a, w, 1, 2]; whnf
  conv => arg 2; whnf
  have HLBL := Lib.hid (And.intro ((hI.lower hb).lab) (show t.d.ln ≤ maxLen by have := hI.cap; unfold maxLen; omega))
  have q1 : (t.d.kind != 4) = true := by rw [hk]; rfl
  have q3 : (t.d.kind != 5) = false := by simpa using hk
  have q2 := str_empty hs
  have HTL := Lib.hid htl
  have HT := Lib.hid (And.intro hI (And.intro hG (And.intro hL hm)))
  have HB := Lib.hid hb
  have HE := Lib.hid hE
  have HLL := Lib.hid (And.intro hr hLI)
  have HKV := Lib.hid (And.intro hKA (And.intro hVA (And.intro hlen (And.intro h50 (And.intro hks (And.intro hvs (And.intro hrw hlb)))))))
  have HLB := Lib.hid hlab
  have HLAY := Lib.hid hL2
  have HOF := Lib.hid (of_row5 t s w (hI.lower hb) hk hs hm htl)
  have HMAY := Lib.hid (fun W (hW : Below w.heap.size w W) => refMay_any t W (hI.lower (below_then hb hW)) hnod)
  rw [hm] at HMAY
  clear hI hG hL hm hb hE hr hLI hKA hVA hks hvs hrw hlb hlen h50 hlab hL2 hnod hk hs htl
  obtain ⟨a0, a1, a2, a3, a4⟩ := HE.out.ty
  go_wp2_with fail
  refine HOF.out.mono ?_
  rintro e w2 ⟨rfl, hb2⟩
  have HB2 := Lib.hid hb2
  clear a0 a1 a2 a3 a4 hb2 HOF
  go_upto_region 5 with fail
  have hb3 : Below w2.heap.size w2 (w2.alloc (.cells #[.int .i64 (offs t.d.labels s : Nat), .int .i64 t.d.tail, .string (bstr s)] 27)) := (Below.refl _ _).alloc (Nat.le_refl _) _
  have HTH := Lib.hid (Three.new w2 (.int .i64 (offs t.d.labels s : Nat)) (.int .i64 t.d.tail) (.string (bstr s)) 27)
  have HB3 := Lib.hid (below_then HB2.out hb3)
  clear hb3 HB2
  generalize w2.alloc (.cells #[.int .i64 (offs t.d.labels s : Nat), .int .i64 t.d.tail, .string (bstr s)] 27) = w3 at *
  generalize w2.heap.size = X at *
  have HE3 := Lib.hid (HE.out.below HB3.out)
  obtain ⟨a0, a1, a2, a3, a4⟩ := HE3.out.ty
  go_wp2_with fail
  refine (HMAY.out w3 HB3.out).mono ?_
  rintro e w4 ⟨rfl, hb4⟩
  have HB4 := Lib.hid (below_then HB3.out hb4)
  have HTH4 := Lib.hid (HTH.out.below hb4)
  clear a0 a1 a2 a3 a4 hb4 HB3 HE3 HTH HMAY
  have HE4 := Lib.hid (HE.out.below HB4.out)
  obtain ⟨a0, a1, a2, a3, a4⟩ := HE4.out.ty
  obtain ⟨y0, y1, y2, _⟩ := HTH4.out
  have HX := Lib.hid (World.block_lt_of_cell? w4 _ y0)
  have hbl : b < w4.heap.size := World.block_lt_of_cell? w4 _ a0
  have hcap := HLBL.out.2
  have HOFF := Lib.hid (fun W (hW : Below w4.heap.size w4 W) => refOffset_any t.d.lA t.d.labels s t.d.ln t.d.lc W (HLBL.out.1.below (below_then HB4.out hW)) HLBL.out.2)
  clear hcap
  go_upto_region 9 with fail
  have a3 : w4.cell? ⟨b, 3, none⟩ = some (.slice t.d.lA t.d.ln t.d.lc) := a3
  have a4 : w4.cell? ⟨b, 4, none⟩ = some (.int .i64 t.d.tail) := a4
  go_cut [17] from 99 to 105 (fun s17 wx => ∃ Y, s17 = .pointer (some ⟨Y, 0, none⟩) ∧ Three wx Y (.int .i64 (offs t.d.labels s : Nat)) (.int .i64 t.d.tail) (.string ⟨#[]⟩) ∧ w.heap.size ≤ Y ∧ Y ≠ X ∧ Below w4.heap.size w4 wx)
  case first =>
    have HS := Lib.hid (fun (W : World) (hW : Below w4.heap.size w4 W) => And.intro (cell_below hW a3) (cell_below hW a4))
    have HD2 := Lib.hid (show Below w4.heap.size w4 (w4.alloc (.cells #[.int .i64 0, .int .i64 0, .string ⟨#[]⟩] 27)).drew from below_drewN ((Below.refl w4.heap.size w4).alloc (Nat.le_refl _) _) 1)
    have HD3 := Lib.hid (fun (w6 : World) (hb60 : Below (w4.alloc (.cells #[.int .i64 0, .int .i64 0, .string ⟨#[]⟩] 27)).drew.heap.size (w4.alloc (.cells #[.int .i64 0, .int .i64 0, .string ⟨#[]⟩] 27)).drew w6) => show Three w6 w4.heap.size (.int .i64 0) (.int .i64 0) (.string ⟨#[]⟩) from ((Three.new w4 (.int .i64 0) (.int .i64 0) (.string ⟨#[]⟩) 27).below (below_drewN (Below.refl _ _) 1)).below hb60)
    have HD4 := Lib.hid (fun (w6 : World) (hb60 : Below (w4.alloc (.cells #[.int .i64 0, .int .i64 0, .string ⟨#[]⟩] 27)).drew.heap.size (w4.alloc (.cells #[.int .i64 0, .int .i64 0, .string ⟨#[]⟩] 27)).drew w6) => (HD2.out).trans (hb60.mono HD2.out.size))
    go_region_held3 (fun w' => w'.cell? ⟨b, 3, none⟩ = some (.slice t.d.lA t.d.ln t.d.lc) ∧ w'.cell? ⟨b, 4, none⟩ = some (.int .i64 t.d.tail))
      (first | exact HS.out _ (show Below w4.heap.size w4 w4.drew from below_drewN (Below.refl _ _) 1) | exact HS.out _ ((show Below w4.heap.size w4 w4.drew from below_drewN (Below.refl _ _) 1).alloc (Nat.le_refl _) _) | exact HS.out _ (show Below w4.heap.size w4 (w4.alloc (.cells #[.int .i64 0, .int .i64 0, .string ⟨#[]⟩] 27)).drew from below_drewN ((Below.refl w4.heap.size w4).alloc (Nat.le_refl _) _) 1) | exact HS.out _ hb6 | exact HS.out _ (hb6.alloc hb6.size _) | exact HS.out _ (below_drewN hb6 1) | exact HS.out _ (((hb6.setCell (Nat.le_refl _) _).setCell (Nat.le_refl _) _).setCell (Nat.le_refl _) _) | exact HS.out _ ((((hb6.alloc hb6.size _).setCell hb6.size _).setCell hb6.size _).setCell hb6.size _) | fail)
      (first
      | (go_at_call 9; (with_reducible refine (HOFF.out w4.drew (show Below w4.heap.size w4 w4.drew from below_drewN (Below.refl _ _) 1)).mono ?_); rintro e w6 ⟨rfl, hb60⟩; have hb6 := ((show Below w4.heap.size w4 w4.drew from below_drewN (Below.refl _ _) 1)).trans hb60; clear hb60)
      | (go_at_call 9; (with_reducible refine (HOFF.out (w4.alloc (.cells #[.int .i64 0, .int .i64 0, .string ⟨#[]⟩] 27)).drew HD2.out).mono ?_); rintro e w6 ⟨rfl, hb60⟩; have HT6 := Lib.hid (HD3.out w6 hb60); obtain ⟨z0, z1, z2, zf⟩ := HT6.out; have g0 := zf 0; have g1 := zf 1; have g2 := zf 2; have hb6 := HD4.out w6 hb60; clear hb60))
    · have hw6 := HB4.out.size
      have h46 := hb6.size
      go_wp2_with fail
      go_meet
      exact ⟨w6.heap.size, rfl, Three.new w6 _ _ _ _, by omega, by have := HX.out; omega, hb6.alloc h46 _⟩
    · have hw6 := HB4.out.size
      go_wp2_with fail
      go_meet
      have h9 := three_sets (.int .i64 (offs t.d.labels s : Nat)) (.int .i64 t.d.tail) (.string ⟨#[]⟩) HT6.out (Nat.le_refl _) rfl
      exact ⟨w4.heap.size, rfl, h9.1, hw6, by have := HX.out; omega, hb6.trans h9.2⟩
  case rest =>
  obtain ⟨Y, rfl, hth, hwY, hYX, hbc⟩ := hcut
  have a4 := cell_below hbc a4
  have HTX := Lib.hid (HTH4.out.below hbc)
  have HTY := Lib.hid hth
  have HBC := Lib.hid (HB4.out.trans (hbc.mono HB4.out.size))
  have HNE := Lib.hid (And.intro hwY hYX)
  clear a0 a1 a2 a3 y0 y1 y2 hth hwY hYX hbc HOFF HLBL HTH4 HB4 HE4 HX hbl
  have qt : decide (0 ≤ t.d.tail) = true := decide_eq_true HTL.out
  obtain ⟨g0, g1, g2, gf⟩ := HTY.out
  have f2 := gf 2
  go_upto_region 12 with fail
  have HTX5 := Lib.hid (three_set (i := 2) (v := .string (bstr s)) HTX.out HNE.out.2)
  have HTY5 := Lib.hid (three_last (v := .string (bstr s)) HTY.out)
  have HB5 := Lib.hid (show Below w.heap.size w (wc.setCell ⟨Y, 2, none⟩ (.string (bstr s))) from HBC.out.setCell HNE.out.1 _)
  clear g0 g1 g2 gf f2 a4 HTX HTY HBC HNE qt
  generalize wc.setCell ⟨Y, 2, none⟩ (.string (bstr s)) = w5 at *
  obtain ⟨y0, y1, y2, _⟩ := HTX5.out
  obtain ⟨g0, g1, g2, _⟩ := HTY5.out
  have hb9 := HB5.out
  have HB9 := Lib.hid (below_then HB.out hb9)
  have HE9 := Lib.hid (HE.out.below hb9)
  have HL9 := Lib.hid (And.intro (HLL.out.1.below hb9) (fun k hk => (HLL.out.2 k hk).below hb9))
  have HK9 := Lib.hid (And.intro (HKV.out.1.below hb9) (HKV.out.2.1.below hb9))
  have HLY9 := Lib.hid (HLAY.out.below hb9)
  clear hb9
  go_upto_region 14 with fail
  exact et_name b n row lab t LA lc L w0 w5 HT.out.1 HT.out.2.1 HB9.out HE9.out HL9.out.1 HT.out.2.2.1 HL9.out.2 HT.out.2.2.2 KA VA kc vc ks vs HK9.out.1 HK9.out.2 HKV.out.2.2.1 HKV.out.2.2.2.1 HKV.out.2.2.2.2.1 HKV.out.2.2.2.2.2.1 HKV.out.2.2.2.2.2.2.1 HKV.out.2.2.2.2.2.2.2 HLB.out HLY9.out (by assumption)

set_option maxRecDepth 100000 in
set_option maxHeartbeats 1000000 in
theorem et_of_n5 {u0 u2 u5 u7 u9 u10 u14 u15 u16 u17 u18 u19 u20 u21 u22 u23 u24 u25 u26 u27 u28 u29 u30 u31 u32 u33 u34 u35 u36 u37 u38 u39 u40 u41 u42 u43 u44 u45 u46 u47 u48 u49 u50 u51 u52 u53 u54 u55 u56 u57 u58 u59 u60 u61 u62 u63 u64 u65 u66 u67 u68 u69 u70 u71 u72 u73 u74 u75 u76 u77 u78 u79 u80 u81 u82 u83 u84 u85 u86 u87 u88 u89 u90 u91 u92 u93 u94 u95 u96 u97 u98 u99 u100 u101 u102 u103 u104 u105 u106 u107 u108 u109 u110 u111 u112 u113 u114 u115 u116 u117 u118 u119 u120 u121 u122 u123 u124 u125 u126 u127 u128 u129 u130 u131 u132 u133 u134 u135 u136 u137 u138 u139 u140 u141 u142 u143 u144 u145 u146 u147 u148 u149 u150 u151 u152 u153 u154 u155 u156 u157 u158 u159 u160 u161 u162 u163 u164 u165 u166 u167 u168 u169 u170 u171 u172 u173 u174 u175 u176 u177 u178 u179 u180 u181 u182 u183 u184 u185 u186 u187 u188 u189 u190 u191 u192 u193 u194 u195 u196 u197 u198 u199 u200 u201 u202 u203 u204 u205 u206 u207 u208 u209 u210 u211 u212 u213 u214 u215 u216 u217 u218 u219 u220 u221 u222 u223 u224 u225 u226 u227 u228 u229 u230 u231 u232 u233 u234 u235 u236 u237 u238 u239 u240 u241 u242 u243 u244 u245 u246 u247 u248 u249 u250 u251 u252 u253 u254 u255 u256 u257 u258 u259 u260 u261 u262 u263 u264 u265 u266 u267 u268 u269 u270 u271 u272 u273 u274 u275 u276 u277 u278 u279 u280 u281 u282 u283 u284 u285 u286 u287 u288 u289 u290 u291 u292 u293 u294 u295 u296 u297 u298 u299 u300 u301 u302 u303 u304 u305 u306 u307 u308 u309 u310 u311 u312 u313 u314 u315 u316 u317 u318 u319 u320 u321 u322 u323 u324 u325 u326 u327 u328 u329 u330 u331 u332 u333 u334 u335 u336 u337 u338 u339 u340 u341 u342 u343 u344 u345 u346 u347 u348 u349 u350 u351 u352 u353 u354 u355 u356 u357 u358 u359 u360 u361 u362 u363 u364 : Value} (b : Nat) (s : Str) (n row : Int) (lab : Str) (t : Ty) (LA : Option Addr) (lc : Nat) (L : List Lk) (w0 w : World) (hI : t.In w0) (hG : t.Rg) (hb : Below w0.heap.size w0 w) (hE : EB w b t.d n row lab LA L.length lc)
    (hr : Rd w 1 LA L.length (L.map Lk.val)) (hL : L.length ≤ 4000000) (hLI : ∀ k ∈ L, k.In w) (hm : (mayF t 0).isSome = true)
    (KA VA : Option Addr) (kc vc : Nat) (ks : List (Int × Str)) (vs : List Int) (hKA : Rd w 2 KA ks.length (nds ks)) (hVA : Rd w 1 VA vs.length (i64s vs)) (hlen : ks.length ≤ vs.length) (h50 : ks.length ≤ 50)
    (hks : ∀ x ∈ ks, (Lit.int .i64 x.1).wf = true ∧ x.2.length ≤ maxLen) (hvs : ∀ v ∈ vs, (Lit.int .i64 v).wf = true) (hrw : (Lit.int .i64 row).wf = true) (hlb : lab.length ≤ maxLen) (hlab : lab.length ≤ 1000000) (hL2 : Lay w) (hnod : t.nodes ≤ 4000000) (hk : t.d.kind = 5) (hs : s ≠ []) (htl : t.d.tail = -1)
    {K : Act → World → Prop} (hK : ∀ a w, Code.wp Tryd.prog (tl 4) (bodyPost Tryd.prog Tryd.f3 (Fin3 w0)) a w → K a w) : Code.wp Tryd.prog (hd 3) (Exit.then K (bodyPost Tryd.prog Tryd.f3 (Fin3 w0))) ⟨#[u0, .string (bstr s), u2, .slice KA ks.length kc, .slice VA vs.length vc, u5, .pointer (some ⟨b, 0, Option.none⟩), u7, .pointer (some ⟨b + 1, 0, Option.none⟩), u9, u10, .pointer (some ⟨b + 1 + 1, 0, Option.none⟩), .bool false, .bool true, u14, u15, u16, u17, u18, u19, u20, u21, u22, u23, u24, u25, u26, u27, u28, u29, u30, u31, u32, u33, u34, u35, u36, u37, u38, u39, u40, u41, u42, u43, u44, u45, u46, u47, u48, u49, u50, u51, u52, u53, u54, u55, u56, u57, u58, u59, u60, u61, u62, u63, u64, u65, u66, u67, u68, u69, u70, u71, u72, u73, u74, u75, u76, u77, u78, u79, u80, u81, u82, u83, u84, u85, u86, u87, u88, u89, u90, u91, u92, u93, u94, u95, u96, u97, u98, u99, u100, u101, u102, u103, u104, u105, u106, u107, u108, u109, u110, u111, u112, u113, u114, u115, u116, u117, u118, u119, u120, u121, u122, u123, u124, u125, u126, u127, u128, u129, u130, u131, u132, u133, u134, u135, u136, u137, u138, u139, u140, u141, u142, u143, u144, u145, u146, u147, u148, u149, u150, u151, u152, u153, u154, u155, u156, u157, u158, u159, u160, u161, u162, u163, u164, u165, u166, u167, u168, u169, u170, u171, u172, u173, u174, u175, u176, u177, u178, u179, u180, u181, u182, u183, u184, u185, u186, u187, u188, u189, u190, u191, u192, u193, u194, u195, u196, u197, u198, u199, u200, u201, u202, u203, u204, u205, u206, u207, u208, u209, u210, u211, u212, u213, u214, u215, u216, u217, u218, u219, u220, u221, u222, u223, u224, u225, u226, u227, u228, u229, u230, u231, u232, u233, u234, u235, u236, u237, u238, u239, u240, u241, u242, u243, u244, u245, u246, u247, u248, u249, u250, u251, u252, u253, u254, u255, u256, u257, u258, u259, u260, u261, u262, u263, u264, u265, u266, u267, u268, u269, u270, u271, u272, u273, u274, u275, u276, u277, u278, u279, u280, u281, u282, u283, u284, u285, u286, u287, u288, u289, u290, u291, u292, u293, u294, u295, u296, u297, u298, u299, u300, u301, u302, u303, u304, u305, u306, u307, u308, u309, u310, u311, u312, u313, u314, u315, u316, u317, u318, u319, u320, u321, u322, u323, u324, u325, u326, u327, u328, u329, u330, u331, u332, u333, u334, u335, u336, u337, u338, u339, u340, u341, u342, u343, u344, u345, u346, u347, u348, u349, u350, u351, u352, u353, u354, u355, u356, u357, u358, u359, u360, u361, u362, u363, u364], []⟩ w := by
  conv at hK => enter [a, w, 1, 2]; whnf
  conv => arg 2; whnf
  have HLBL := Lib.hid (And.intro ((hI.lower hb).lab) (show t.d.ln ≤ maxLen by have := hI.cap; unfold maxLen; omega))
  have q1 : (t.d.kind != 4) = true := by rw [hk]; rfl
  have q3 : (t.d.kind != 5) = false := by simpa using hk
  have q2 := str_empty hs
  have HTL := Lib.hid htl
  have HT := Lib.hid (And.intro hI (And.intro hG (And.intro hL hm)))
  have HB := Lib.hid hb
  have HE := Lib.hid hE
  have HLL := Lib.hid (And.intro hr hLI)
  have HKV := Lib.hid (And.intro hKA (And.intro hVA (And.intro hlen (And.intro h50 (And.intro hks (And.intro hvs (And.intro hrw hlb)))))))
  have HLB := Lib.hid hlab
  have HLAY := Lib.hid hL2
  have HOF := Lib.hid (show Calls Tryd.prog 7 #[.agg t.d.arr, .string (bstr s)] w fun e w' => e = .returned (.tuple #[.agg #[.int .i64 (offs t.d.labels s : Nat), .int .i64 t.d.tail, .string ⟨#[]⟩], .nilIface]) ∧ Below w.heap.size w w' by have h := of_row5n t s w (hI.lower hb) hk hs hm htl; rw [← htl] at h; exact h)
  have HMAY := Lib.hid (fun W (hW : Below w.heap.size w W) => refMay_any t W (hI.lower (below_then hb hW)) hnod)
  rw [hm] at HMAY
  clear hI hG hL hm hb hE hr hLI hKA hVA hks hvs hrw hlb hlen h50 hlab hL2 hnod hk hs htl
  obtain ⟨a0, a1, a2, a3, a4⟩ := HE.out.ty
  go_wp2_with fail
  refine HOF.out.mono ?_
  rintro e w2 ⟨rfl, hb2⟩
  have HB2 := Lib.hid hb2
  clear a0 a1 a2 a3 a4 hb2 HOF
  go_upto_region 5 with fail
  have hb3 : Below w2.heap.size w2 (w2.alloc (.cells #[.int .i64 (offs t.d.labels s : Nat), .int .i64 t.d.tail, .string ⟨#[]⟩] 27)) := (Below.refl _ _).alloc (Nat.le_refl _) _
  have HTH := Lib.hid (Three.new w2 (.int .i64 (offs t.d.labels s : Nat)) (.int .i64 t.d.tail) (.string ⟨#[]⟩) 27)
  have HB3 := Lib.hid (below_then HB2.out hb3)
  clear hb3 HB2
  generalize w2.alloc (.cells #[.int .i64 (offs t.d.labels s : Nat), .int .i64 t.d.tail, .string ⟨#[]⟩] 27) = w3 at *
  generalize w2.heap.size = X at *
  have HE3 := Lib.hid (HE.out.below HB3.out)
  obtain ⟨a0, a1, a2, a3, a4⟩ := HE3.out.ty
  go_wp2_with fail
  refine (HMAY.out w3 HB3.out).mono ?_
  rintro e w4 ⟨rfl, hb4⟩
  have HB4 := Lib.hid (below_then HB3.out hb4)
  have HTH4 := Lib.hid (HTH.out.below hb4)
  clear a0 a1 a2 a3 a4 hb4 HB3 HE3 HTH HMAY
  have HE4 := Lib.hid (HE.out.below HB4.out)
  obtain ⟨a0, a1, a2, a3, a4⟩ := HE4.out.ty
  obtain ⟨y0, y1, y2, _⟩ := HTH4.out
  have HX := Lib.hid (World.block_lt_of_cell? w4 _ y0)
  have hbl : b < w4.heap.size := World.block_lt_of_cell? w4 _ a0
  have hcap := HLBL.out.2
  have HOFF := Lib.hid (fun W (hW : Below w4.heap.size w4 W) => refOffset_any t.d.lA t.d.labels s t.d.ln t.d.lc W (HLBL.out.1.below (below_then HB4.out hW)) HLBL.out.2)
  clear hcap
  go_upto_region 9 with fail
  have a3 : w4.cell? ⟨b, 3, none⟩ = some (.slice t.d.lA t.d.ln t.d.lc) := a3
  have a4 : w4.cell? ⟨b, 4, none⟩ = some (.int .i64 t.d.tail) := a4
  go_cut [17] from 99 to 105 (fun s17 wx => ∃ Y, s17 = .pointer (some ⟨Y, 0, none⟩) ∧ Three wx Y (.int .i64 (offs t.d.labels s : Nat)) (.int .i64 t.d.tail) (.string ⟨#[]⟩) ∧ w.heap.size ≤ Y ∧ Y ≠ X ∧ Below w4.heap.size w4 wx)
  case first =>
    have HS := Lib.hid (fun (W : World) (hW : Below w4.heap.size w4 W) => And.intro (cell_below hW a3) (cell_below hW a4))
    have HD2 := Lib.hid (show Below w4.heap.size w4 (w4.alloc (.cells #[.int .i64 0, .int .i64 0, .string ⟨#[]⟩] 27)).drew from below_drewN ((Below.refl w4.heap.size w4).alloc (Nat.le_refl _) _) 1)
    have HD3 := Lib.hid (fun (w6 : World) (hb60 : Below (w4.alloc (.cells #[.int .i64 0, .int .i64 0, .string ⟨#[]⟩] 27)).drew.heap.size (w4.alloc (.cells #[.int .i64 0, .int .i64 0, .string ⟨#[]⟩] 27)).drew w6) => show Three w6 w4.heap.size (.int .i64 0) (.int .i64 0) (.string ⟨#[]⟩) from ((Three.new w4 (.int .i64 0) (.int .i64 0) (.string ⟨#[]⟩) 27).below (below_drewN (Below.refl _ _) 1)).below hb60)
    have HD4 := Lib.hid (fun (w6 : World) (hb60 : Below (w4.alloc (.cells #[.int .i64 0, .int .i64 0, .string ⟨#[]⟩] 27)).drew.heap.size (w4.alloc (.cells #[.int .i64 0, .int .i64 0, .string ⟨#[]⟩] 27)).drew w6) => (HD2.out).trans (hb60.mono HD2.out.size))
    go_region_held3 (fun w' => w'.cell? ⟨b, 3, none⟩ = some (.slice t.d.lA t.d.ln t.d.lc) ∧ w'.cell? ⟨b, 4, none⟩ = some (.int .i64 t.d.tail))
      (first | exact HS.out _ (show Below w4.heap.size w4 w4.drew from below_drewN (Below.refl _ _) 1) | exact HS.out _ ((show Below w4.heap.size w4 w4.drew from below_drewN (Below.refl _ _) 1).alloc (Nat.le_refl _) _) | exact HS.out _ (show Below w4.heap.size w4 (w4.alloc (.cells #[.int .i64 0, .int .i64 0, .string ⟨#[]⟩] 27)).drew from below_drewN ((Below.refl w4.heap.size w4).alloc (Nat.le_refl _) _) 1) | exact HS.out _ hb6 | exact HS.out _ (hb6.alloc hb6.size _) | exact HS.out _ (below_drewN hb6 1) | exact HS.out _ (((hb6.setCell (Nat.le_refl _) _).setCell (Nat.le_refl _) _).setCell (Nat.le_refl _) _) | exact HS.out _ ((((hb6.alloc hb6.size _).setCell hb6.size _).setCell hb6.size _).setCell hb6.size _) | fail)
      (first
      | (go_at_call 9; (with_reducible refine (HOFF.out w4.drew (show Below w4.heap.size w4 w4.drew from below_drewN (Below.refl _ _) 1)).mono ?_); rintro e w6 ⟨rfl, hb60⟩; have hb6 := ((show Below w4.heap.size w4 w4.drew from below_drewN (Below.refl _ _) 1)).trans hb60; clear hb60)
      | (go_at_call 9; (with_reducible refine (HOFF.out (w4.alloc (.cells #[.int .i64 0, .int .i64 0, .string ⟨#[]⟩] 27)).drew HD2.out).mono ?_); rintro e w6 ⟨rfl, hb60⟩; have HT6 := Lib.hid (HD3.out w6 hb60); obtain ⟨z0, z1, z2, zf⟩ := HT6.out; have g0 := zf 0; have g1 := zf 1; have g2 := zf 2; have hb6 := HD4.out w6 hb60; clear hb60))
    · have hw6 := HB4.out.size
      have h46 := hb6.size
      go_wp2_with fail
      go_meet
      exact ⟨w6.heap.size, rfl, Three.new w6 _ _ _ _, by omega, by have := HX.out; omega, hb6.alloc h46 _⟩
    · have hw6 := HB4.out.size
      go_wp2_with fail
      go_meet
      have h9 := three_sets (.int .i64 (offs t.d.labels s : Nat)) (.int .i64 t.d.tail) (.string ⟨#[]⟩) HT6.out (Nat.le_refl _) rfl
      exact ⟨w4.heap.size, rfl, h9.1, hw6, by have := HX.out; omega, hb6.trans h9.2⟩
  case rest =>
  obtain ⟨Y, rfl, hth, hwY, hYX, hbc⟩ := hcut
  have a4 := cell_below hbc a4
  have HTX := Lib.hid (HTH4.out.below hbc)
  have HTY := Lib.hid hth
  have HBC := Lib.hid (HB4.out.trans (hbc.mono HB4.out.size))
  have HNE := Lib.hid (And.intro hwY hYX)
  clear a0 a1 a2 a3 y0 y1 y2 hth hwY hYX hbc HOFF HLBL HTH4 HB4 HE4 HX hbl
  have qt : decide (0 ≤ t.d.tail) = false := decide_eq_false (by have := HTL.out; omega)
  obtain ⟨y0, y1, y2, _⟩ := HTX.out
  obtain ⟨g0, g1, g2, _⟩ := HTY.out
  have hb9 := HBC.out
  have HB9 := Lib.hid (below_then HB.out hb9)
  have HE9 := Lib.hid (HE.out.below hb9)
  have HL9 := Lib.hid (And.intro (HLL.out.1.below hb9) (fun k hk => (HLL.out.2 k hk).below hb9))
  have HK9 := Lib.hid (And.intro (HKV.out.1.below hb9) (HKV.out.2.1.below hb9))
  have HLY9 := Lib.hid (HLAY.out.below hb9)
  clear hb9
  go_upto_region 14 with fail
  exact et_name b n row lab t LA lc L w0 wc HT.out.1 HT.out.2.1 HB9.out HE9.out HL9.out.1 HT.out.2.2.1 HL9.out.2 HT.out.2.2.2 KA VA kc vc ks vs HK9.out.1 HK9.out.2 HKV.out.2.2.1 HKV.out.2.2.2.1 HKV.out.2.2.2.2.1 HKV.out.2.2.2.2.2.1 HKV.out.2.2.2.2.2.2.1 HKV.out.2.2.2.2.2.2.2 HLB.out HLY9.out (by assumption)

set_option maxRecDepth 100000 in
set_option maxHeartbeats 1000000 in
theorem et_of {may : Bool} {u0 u2 u5 u7 u9 u10 u14 u15 u16 u17 u18 u19 u20 u21 u22 u23 u24 u25 u26 u27 u28 u29 u30 u31 u32 u33 u34 u35 u36 u37 u38 u39 u40 u41 u42 u43 u44 u45 u46 u47 u48 u49 u50 u51 u52 u53 u54 u55 u56 u57 u58 u59 u60 u61 u62 u63 u64 u65 u66 u67 u68 u69 u70 u71 u72 u73 u74 u75 u76 u77 u78 u79 u80 u81 u82 u83 u84 u85 u86 u87 u88 u89 u90 u91 u92 u93 u94 u95 u96 u97 u98 u99 u100 u101 u102 u103 u104 u105 u106 u107 u108 u109 u110 u111 u112 u113 u114 u115 u116 u117 u118 u119 u120 u121 u122 u123 u124 u125 u126 u127 u128 u129 u130 u131 u132 u133 u134 u135 u136 u137 u138 u139 u140 u141 u142 u143 u144 u145 u146 u147 u148 u149 u150 u151 u152 u153 u154 u155 u156 u157 u158 u159 u160 u161 u162 u163 u164 u165 u166 u167 u168 u169 u170 u171 u172 u173 u174 u175 u176 u177 u178 u179 u180 u181 u182 u183 u184 u185 u186 u187 u188 u189 u190 u191 u192 u193 u194 u195 u196 u197 u198 u199 u200 u201 u202 u203 u204 u205 u206 u207 u208 u209 u210 u211 u212 u213 u214 u215 u216 u217 u218 u219 u220 u221 u222 u223 u224 u225 u226 u227 u228 u229 u230 u231 u232 u233 u234 u235 u236 u237 u238 u239 u240 u241 u242 u243 u244 u245 u246 u247 u248 u249 u250 u251 u252 u253 u254 u255 u256 u257 u258 u259 u260 u261 u262 u263 u264 u265 u266 u267 u268 u269 u270 u271 u272 u273 u274 u275 u276 u277 u278 u279 u280 u281 u282 u283 u284 u285 u286 u287 u288 u289 u290 u291 u292 u293 u294 u295 u296 u297 u298 u299 u300 u301 u302 u303 u304 u305 u306 u307 u308 u309 u310 u311 u312 u313 u314 u315 u316 u317 u318 u319 u320 u321 u322 u323 u324 u325 u326 u327 u328 u329 u330 u331 u332 u333 u334 u335 u336 u337 u338 u339 u340 u341 u342 u343 u344 u345 u346 u347 u348 u349 u350 u351 u352 u353 u354 u355 u356 u357 u358 u359 u360 u361 u362 u363 u364 : Value} (b : Nat) (s : Str) (n row : Int) (lab : Str) (t : Ty) (LA : Option Addr) (lc : Nat) (L : List Lk) (w0 w : World) (hI : t.In w0) (hG : t.Rg) (hb : Below w0.heap.size w0 w) (hE : EB w b t.d n row lab LA L.length lc)
    (hr : Rd w 1 LA L.length (L.map Lk.val)) (hL : L.length ≤ 4000000) (hLI : ∀ k ∈ L, k.In w) (hm : (mayF t 0).isSome = may)
    (KA VA : Option Addr) (kc vc : Nat) (ks : List (Int × Str)) (vs : List Int) (hKA : Rd w 2 KA ks.length (nds ks)) (hVA : Rd w 1 VA vs.length (i64s vs)) (hlen : ks.length ≤ vs.length) (h50 : ks.length ≤ 50)
    (hks : ∀ x ∈ ks, (Lit.int .i64 x.1).wf = true ∧ x.2.length ≤ maxLen) (hvs : ∀ v ∈ vs, (Lit.int .i64 v).wf = true) (hrw : (Lit.int .i64 row).wf = true) (hlb : lab.length ≤ maxLen) (hlab : lab.length ≤ 1000000) (hL2 : Lay w) (hnod : t.nodes ≤ 4000000)
    {K : Act → World → Prop} (hK : ∀ a w, Code.wp Tryd.prog (tl 4) (bodyPost Tryd.prog Tryd.f3 (Fin3 w0)) a w → K a w) : Code.wp Tryd.prog (hd 3) (Exit.then K (bodyPost Tryd.prog Tryd.f3 (Fin3 w0))) ⟨#[u0, .string (bstr s), u2, .slice KA ks.length kc, .slice VA vs.length vc, u5, .pointer (some ⟨b, 0, Option.none⟩), u7, .pointer (some ⟨b + 1, 0, Option.none⟩), u9, u10, .pointer (some ⟨b + 1 + 1, 0, Option.none⟩), .bool false, .bool true, u14, u15, u16, u17, u18, u19, u20, u21, u22, u23, u24, u25, u26, u27, u28, u29, u30, u31, u32, u33, u34, u35, u36, u37, u38, u39, u40, u41, u42, u43, u44, u45, u46, u47, u48, u49, u50, u51, u52, u53, u54, u55, u56, u57, u58, u59, u60, u61, u62, u63, u64, u65, u66, u67, u68, u69, u70, u71, u72, u73, u74, u75, u76, u77, u78, u79, u80, u81, u82, u83, u84, u85, u86, u87, u88, u89, u90, u91, u92, u93, u94, u95, u96, u97, u98, u99, u100, u101, u102, u103, u104, u105, u106, u107, u108, u109, u110, u111, u112, u113, u114, u115, u116, u117, u118, u119, u120, u121, u122, u123, u124, u125, u126, u127, u128, u129, u130, u131, u132, u133, u134, u135, u136, u137, u138, u139, u140, u141, u142, u143, u144, u145, u146, u147, u148, u149, u150, u151, u152, u153, u154, u155, u156, u157, u158, u159, u160, u161, u162, u163, u164, u165, u166, u167, u168, u169, u170, u171, u172, u173, u174, u175, u176, u177, u178, u179, u180, u181, u182, u183, u184, u185, u186, u187, u188, u189, u190, u191, u192, u193, u194, u195, u196, u197, u198, u199, u200, u201, u202, u203, u204, u205, u206, u207, u208, u209, u210, u211, u212, u213, u214, u215, u216, u217, u218, u219, u220, u221, u222, u223, u224, u225, u226, u227, u228, u229, u230, u231, u232, u233, u234, u235, u236, u237, u238, u239, u240, u241, u242, u243, u244, u245, u246, u247, u248, u249, u250, u251, u252, u253, u254, u255, u256, u257, u258, u259, u260, u261, u262, u263, u264, u265, u266, u267, u268, u269, u270, u271, u272, u273, u274, u275, u276, u277, u278, u279, u280, u281, u282, u283, u284, u285, u286, u287, u288, u289, u290, u291, u292, u293, u294, u295, u296, u297, u298, u299, u300, u301, u302, u303, u304, u305, u306, u307, u308, u309, u310, u311, u312, u313, u314, u315, u316, u317, u318, u319, u320, u321, u322, u323, u324, u325, u326, u327, u328, u329, u330, u331, u332, u333, u334, u335, u336, u337, u338, u339, u340, u341, u342, u343, u344, u345, u346, u347, u348, u349, u350, u351, u352, u353, u354, u355, u356, u357, u358, u359, u360, u361, u362, u363, u364], []⟩ w := by
  cases may
  · exact et_of_a b s n row lab t LA lc L w0 w hI hG hb hE hr hL hLI hm KA VA kc vc ks vs hKA hVA hlen h50 hks hvs hrw hlb hlab hL2 hnod hK
  · by_cases h4 : t.d.kind = 4
    · by_cases hs : s = []
      · exact et_of_c4 b s n row lab t LA lc L w0 w hI hG hb hE hr hL hLI hm KA VA kc vc ks vs hKA hVA hlen h50 hks hvs hrw hlb hlab hL2 hnod h4 hs hK
      · rcases may_tail hm (.inl h4) with htl | htl
        · exact et_of_n4 b s n row lab t LA lc L w0 w hI hG hb hE hr hL hLI hm KA VA kc vc ks vs hKA hVA hlen h50 hks hvs hrw hlb hlab hL2 hnod h4 hs htl hK
        · exact et_of_g4 b s n row lab t LA lc L w0 w hI hG hb hE hr hL hLI hm KA VA kc vc ks vs hKA hVA hlen h50 hks hvs hrw hlb hlab hL2 hnod h4 hs htl hK
    · by_cases h5 : t.d.kind = 5
      · by_cases hs : s = []
        · exact et_of_c5 b s n row lab t LA lc L w0 w hI hG hb hE hr hL hLI hm KA VA kc vc ks vs hKA hVA hlen h50 hks hvs hrw hlb hlab hL2 hnod h5 hs hK
        · rcases may_tail hm (.inr h5) with htl | htl
          · exact et_of_n5 b s n row lab t LA lc L w0 w hI hG hb hE hr hL hLI hm KA VA kc vc ks vs hKA hVA hlen h50 hks hvs hrw hlb hlab hL2 hnod h5 hs htl hK
          · exact et_of_g5 b s n row lab t LA lc L w0 w hI hG hb hE hr hL hLI hm KA VA kc vc ks vs hKA hVA hlen h50 hks hvs hrw hlb hlab hL2 hnod h5 hs htl hK
      · exact et_of_b b s n row lab t LA lc L w0 w hI hG hb hE hr hL hLI hm KA VA kc vc ks vs hKA hVA hlen h50 hks hvs hrw hlb hlab hL2 hnod h4 h5 hK
end Go.Proofs.YtlgmddnpmmggdaaDoor
