/-
  What was met, held against what is told: the law's last loops.
-/
import Derived.Test.YtlgmddnpmmggdaaDoorEtA
import Derived.BigQuiet
import Derived.Deep.QuietTactic
namespace Go.Proofs.YtlgmddnpmmggdaaDoor
open Go.ChangeShapes Go.WideShapes Go.ChangeAt Go.RowKit Go.Sort Go.Maps
set_option linter.unusedVariables false
set_option linter.unusedSimpArgs false
attribute [local irreducible] Go.wpQuiet

set_option maxRecDepth 100000 in
set_option maxHeartbeats 1000000 in
theorem et_loops {u0 u1 u2 u3 u4 u5 u6 u7 u8 u9 u10 u11 u14 u15 u16 u17 u18 u19 u20 u21 u22 u23 u24 u25 u26 u27 u28 u29 u30 u31 u35 u36 u37 u38 u39 u40 u41 u42 u43 u44 u45 u46 u47 u48 u49 u50 u51 u52 u53 u54 u55 u56 u57 u58 u59 u60 u61 u62 u63 u64 u65 u66 u67 u68 u69 u70 u71 u72 u73 u74 u75 u76 u77 u78 u79 u80 u81 u82 u83 u84 u85 u86 u87 u88 u89 u90 u91 u92 u93 u94 u95 u96 u97 u98 u99 u100 u101 u102 u103 u104 u105 u106 u107 u108 u109 u110 u111 u112 u113 u114 u115 u116 u117 u118 u119 u120 u121 u122 u123 u124 u125 u126 u127 u128 u129 u130 u131 u132 u133 u134 u135 u136 u137 u138 u139 u140 u141 u142 u143 u144 u145 u146 u147 u148 u149 u150 u151 u152 u153 u154 u155 u156 u157 u158 u159 u160 u161 u162 u163 u164 u165 u166 u167 u168 u169 u170 u171 u172 u173 u174 u175 u176 u177 u178 u179 u180 u181 u182 u183 u184 u185 u186 u187 u188 u189 u190 u191 u192 u193 u194 u195 u196 u197 u198 u199 u200 u201 u202 u203 u204 u205 u206 u207 u208 u209 u210 u211 u212 u213 u214 u215 u216 u217 u218 u219 u220 u221 u222 u223 u224 u225 u226 u227 u228 u229 u230 u231 u232 u233 u234 u235 u236 u237 u238 u239 u240 u241 u242 u243 u244 u245 u246 u247 u248 u249 u250 u251 u252 u253 u254 u255 u256 u257 u258 u259 u260 u261 u262 u263 u264 u265 u266 u267 u268 u269 u270 u271 u272 u273 u274 u275 u276 u277 u278 u279 u280 u281 u282 u283 u284 u285 u286 u287 u288 u289 u290 u291 u292 u293 u294 u295 u296 u297 u298 u299 u300 u301 u302 u303 u304 u305 u306 u307 u308 u309 u310 u311 u312 u313 u314 u315 u316 u317 u318 u319 u320 u321 u322 u323 u324 u325 u326 u327 u328 u329 u330 u331 u332 u333 u334 u335 u336 u337 u338 u339 u340 u341 u342 u343 u344 u345 u346 u347 u348 u349 u350 u351 u352 u353 u354 u355 u356 u357 u358 u359 u360 u361 u362 u363 u364 : Value} (pb N : Nat) (LA RA NA : Option Addr) (lc rc nc : Nat) (L : List Lk) (R : List Int) (w0 w : World) (hb : Below w0.heap.size w0 w)
    (hc : w.cell? ⟨pb, 0, Option.none⟩ = some (.slice LA L.length lc)) (hr : Rd w 1 LA L.length (L.map Lk.val)) (hL : L.length ≤ 4000000) (hLI : ∀ k ∈ L, k.In w)
    (hN : w.cell? ⟨N, 1, Option.none⟩ = some (.slice RA R.length rc)) (hR : Rd w 1 RA R.length (i64s R)) (hR5 : R.length ≤ 5000) (hV : Rd w 2 NA (needsOf L R).length (nds (needsOf L R)))
    {K : Act → World → Prop} (hK : ∀ a w, Code.wp Tryd.prog (tl 28) (bodyPost Tryd.prog Tryd.f3 (Fin3 w0)) a w → K a w) : Code.wp Tryd.prog (hd 27) (Exit.then K (bodyPost Tryd.prog Tryd.f3 (Fin3 w0))) ⟨#[u0, u1, u2, u3, u4, u5, u6, u7, u8, u9, u10, u11, .bool false, .bool true, u14, u15, u16, u17, u18, u19, u20, u21, u22, u23, u24, u25, u26, u27, u28, u29, u30, u31, lackFn pb, .pointer (some ⟨N, 0, Option.none⟩), .slice NA (needsOf L R).length nc, u35, u36, u37, u38, u39, u40, u41, u42, u43, u44, u45, u46, u47, u48, u49, u50, u51, u52, u53, u54, u55, u56, u57, u58, u59, u60, u61, u62, u63, u64, u65, u66, u67, u68, u69, u70, u71, u72, u73, u74, u75, u76, u77, u78, u79, u80, u81, u82, u83, u84, u85, u86, u87, u88, u89, u90, u91, u92, u93, u94, u95, u96, u97, u98, u99, u100, u101, u102, u103, u104, u105, u106, u107, u108, u109, u110, u111, u112, u113, u114, u115, u116, u117, u118, u119, u120, u121, u122, u123, u124, u125, u126, u127, u128, u129, u130, u131, u132, u133, u134, u135, u136, u137, u138, u139, u140, u141, u142, u143, u144, u145, u146, u147, u148, u149, u150, u151, u152, u153, u154, u155, u156, u157, u158, u159, u160, u161, u162, u163, u164, u165, u166, u167, u168, u169, u170, u171, u172, u173, u174, u175, u176, u177, u178, u179, u180, u181, u182, u183, u184, u185, u186, u187, u188, u189, u190, u191, u192, u193, u194, u195, u196, u197, u198, u199, u200, u201, u202, u203, u204, u205, u206, u207, u208, u209, u210, u211, u212, u213, u214, u215, u216, u217, u218, u219, u220, u221, u222, u223, u224, u225, u226, u227, u228, u229, u230, u231, u232, u233, u234, u235, u236, u237, u238, u239, u240, u241, u242, u243, u244, u245, u246, u247, u248, u249, u250, u251, u252, u253, u254, u255, u256, u257, u258, u259, u260, u261, u262, u263, u264, u265, u266, u267, u268, u269, u270, u271, u272, u273, u274, u275, u276, u277, u278, u279, u280, u281, u282, u283, u284, u285, u286, u287, u288, u289, u290, u291, u292, u293, u294, u295, u296, u297, u298, u299, u300, u301, u302, u303, u304, u305, u306, u307, u308, u309, u310, u311, u312, u313, u314, u315, u316, u317, u318, u319, u320, u321, u322, u323, u324, u325, u326, u327, u328, u329, u330, u331, u332, u333, u334, u335, u336, u337, u338, u339, u340, u341, u342, u343, u344, u345, u346, u347, u348, u349, u350, u351, u352, u353, u354, u355, u356, u357, u358, u359, u360, u361, u362, u363, u364], []⟩ w := by
  have HB := Lib.hid hb
  have HLL := Lib.hid (And.intro hc (And.intro hr (And.intro hL hLI)))
  have HN := Lib.hid (And.intro hN (And.intro hR hR5))
  have HV := Lib.hid hV
  have hlen := needs_len L (fun y hy => by rw [(hLI y hy).len]; exact (hLI y hy).few) R
  obtain ⟨n, hn⟩ : ∃ n, (needsOf L R).length = n := ⟨_, rfl⟩
  rw [hn] at hlen HV ⊢
  have hnb : n ≤ 20000000000 := Nat.le_trans hlen (Nat.mul_le_mul_right 4000000 hR5)
  have HE := Lib.hid hn
  have HNB := Lib.hid hnb
  clear hb hc hr hL hLI hN hR hR5 hV hlen hn hnb
  unfold lackFn
  conv at hK => enter [a, w, 1, 2]; whnf
  conv => arg 2; whnf
  go_wp2_with fail
  go_loopw [35, 36] (fun a i wr => ∃ k c : Nat, i = .int .i64 k ∧ a = .int .i64 c ∧ k ≤ R.length ∧ (needsOf L (R.take k)).length = c ∧ Below w.heap.size w wr) (fun _ i _ => R.length - (intOf i).toNat)
  case atStart => exact ⟨0, 0, rfl, rfl, Nat.zero_le _, rfl, Below.refl _ _⟩
  case round =>
    obtain ⟨k, c, rfl, rfl, hk, hcn, hwr⟩ := hrel
    have HW := Lib.hid hwr
    have hcell := cell_below hwr HN.out.1
    have HC := Lib.hid hcn
    by_cases hlt : k < R.length
    · obtain ⟨b, o, hRA, _, hcel⟩ := (HN.out.2.1.below hwr).int (k := k) hlt
      have h1 := hcel k hlt
      obtain ⟨x, hx⟩ : ∃ x, R[k] = x := ⟨_, rfl⟩
      rw [hx] at h1
      rw [hRA] at hcell
      have hki : (k : Int) < (R.length : Int) := by omega
      have hk4 : (k : Int) ≤ 5000 := by have := HN.out.2.2; omega
      have HLK := Lib.hid (lack_any pb LA lc L x wr (cell_below hwr HLL.out.1) (HLL.out.2.1.below hwr) HLL.out.2.2.1)
      have HLI := Lib.hid (lackV_in HLL.out.2.2.2 x)
      have HX := Lib.hid hx
      obtain ⟨lk, hlk⟩ : ∃ lk, lackV L x = lk := ⟨_, rfl⟩
      have HLV := Lib.hid hlk
      rw [hlk] at HLK HLI
      obtain ⟨A, m, cm, l⟩ := lk
      clear hcel hx hlk hcn hwr hRA
      unfold Lk.val at HLK
      have hfew := HLI.out.few
      have hc6 : (c : Int) ≤ 20000000000 := by have h1 := needs_le L R k hk; rw [HC.out, HE.out] at h1; have := HNB.out; omega
      go_wp2_with fail
      refine HLK.out.mono ?_
      rintro e w4 ⟨rfl, rfl⟩
      clear HLK
      go_wp2_with fail
      go_loopw [35, 38] (fun a i wy => ∃ j c2 : Nat, i = .int .i64 j ∧ a = .int .i64 c2 ∧ j ≤ m ∧ c + j = c2 ∧ Below w.heap.size w wy) (fun _ i _ => m - (intOf i).toNat)
      case atStart => exact ⟨0, c, rfl, rfl, Nat.zero_le _, rfl, HW.out⟩
      case round =>
        clear HW h1 hcell
        obtain ⟨j, c2, rfl, rfl, hj, hcj, hwy⟩ := hrel
        have HW := Lib.hid hwy
        by_cases hlt2 : j < m
        · have hjl : j < l.length := by have h2 := HLI.out.len; have h3 : l.length = m := h2; omega
          obtain ⟨b2, o2, hA2, hcel⟩ := (HLI.out.rd.below hwy).str (k := j) hjl
          have h2 := hcel j hjl
          obtain ⟨y, hy⟩ : ∃ y, l[j] = y := ⟨_, rfl⟩
          have h2' : wr.cell? ⟨b2, o2 + j, Option.none⟩ = some (.string (bstr y)) := by rw [← hy]; exact h2
          obtain ⟨b3, o3, hRA, _, hcel3⟩ := (HN.out.2.1.below hwy).int (k := k) hlt
          have h3 := hcel3 k hlt
          rw [HX.out] at h3
          have hcell := cell_below hwy HN.out.1
          rw [hRA] at hcell
          have hx : (needsOf L R)[c2]? = some (x, y) := by
            exact needs_at2 hlt HX.out HLV.out hjl hy (by rw [HC.out]; exact hcj)
          obtain ⟨b4, o4, hNA, h4, h5⟩ := nds_cells (HV.out.below hwy) hx
          have hcn : c2 < n := by have h6 := (List.getElem?_eq_some_iff.1 hx).1; rw [HE.out] at h6; exact h6
          have hA2' : A = some ⟨b2, o2, Option.none⟩ := hA2
          have HCJ := Lib.hid hcj
          rw [hNA, hA2']
          have q1 : decide ((n : Int) ≤ (c2 : Int)) = false := decide_eq_false (by omega)
          have i1 : (c2 : Int) < (n : Int) := by omega
          have i2 : (k : Int) < (R.length : Int) := by omega
          have i3 : (j : Int) < (m : Int) := by omega
          have i4 : (c2 : Int) ≤ 20000000000 := by have := HNB.out; omega
          clear h2 hcel hcel3 hA2 hA2' hRA hNA hx hy hcj hwy hcn
          go_wp2_with fail
          have w1 : IntKind.i64.wrap (c2 : Int) = (c2 : Int) := by rw [IntKind.wrap_i64]; omega
          have w2 : IntKind.i64.wrap (k : Int) = (k : Int) := by rw [IntKind.wrap_i64]; omega
          have w3 : IntKind.i64.wrap (j : Int) = (j : Int) := by rw [IntKind.wrap_i64]; omega
          go_quiet (fail)
          clear w1 w2 w3 h2' h3 hcell h4 h5 q1
          go_wp2_with fail
          go_roundw
          case rel => exact ⟨j + 1, c2 + 1, by go_num, by go_num, hlt2, by have := HCJ.out; omega, below_drewN HW.out _⟩
          case measure => simp [intOf] <;> omega
        · have hmi : ¬ (j : Int) < (m : Int) := by omega
          have HZ := Lib.hid (needs_succ2 hlt HX.out HLV.out HLI.out.len (c := c2) (by rw [HC.out]; show c + m = c2; omega))
          clear hcj hwy
          go_wp2_with fail
          go_roundw
          case rel => exact ⟨k + 1, c2, by go_num, rfl, hlt, HZ.out, HW.out⟩
          case measure => simp [intOf] <;> omega
    · have hki : ¬ (k : Int) < (R.length : Int) := by omega
      have hcz : c = n := by
        have h6 := HC.out
        rw [List.take_of_length_le (by omega), HE.out] at h6
        exact h6.symm
      have HF := Lib.hid (below_then HB.out hwr)
      subst hcz
      clear hcn hwr hcell
      have hcell := cell_below HW.out HN.out.1
      go_wp2_with fail
      go_returns
      exact ⟨rfl, HF.out⟩
end Go.Proofs.YtlgmddnpmmggdaaDoor
