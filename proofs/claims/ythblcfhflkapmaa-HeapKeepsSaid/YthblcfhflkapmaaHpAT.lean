/-
  The law HeapKeeps: its text cut into pieces; the comparison behind the collection, and the second collection.
-/
import Derived.Test.YthblcfhflkapmaaHpAR
import Derived.Test.YthblcfhflkapmaaCodes
namespace Go.Proofs.Ythblcfhflkapmaa
open Go Go.ChangeShapes Go.WideShapes Go.ChangeAt Go.RowKit Go.Sort
set_option linter.unusedVariables false
set_option linter.unusedSimpArgs false

def dropSeq : Nat → Code → Code
  | 0, c => c
  | n + 1, .seq _ b => dropSeq n b
  | _ + 1, c => c
/-- The law's text from its n-th statement on. -/
noncomputable def tl (n : Nat) : Code := dropSeq n (Try.f4.body.getD .skip)
/-- What was told of one root. -/
structure Ro where
  A : Option Addr
  c : Nat
  l : List Int
def Ro.cell (r : Ro) : Value := .slice r.A r.l.length r.c
structure HDR (w : World) (A : Option Addr) (rs : List Ro) : Prop where
  row : Rd w 1 A rs.length (rs.map Ro.cell)
  ws : ∀ r ∈ rs, Rd w 1 r.A r.l.length (icells r.l)
theorem HDR.below {w w' : World} {A : Option Addr} {rs : List Ro} (h : HDR w A rs) (hb : Below w.heap.size w w') : HDR w' A rs := ⟨h.row.below hb, fun r hr => (h.ws r hr).below hb⟩
theorem HDR.at {w : World} {A : Option Addr} {rs : List Ro} (h : HDR w A rs) {k : Nat} {r : Ro} (hk : rs[k]? = some r) : ∃ b o, A = some ⟨b, o, none⟩ ∧ w.cell? ⟨b, o + k, none⟩ = some (.slice r.A r.l.length r.c) := by
  have hkl := (List.getElem?_eq_some_iff.1 hk).1
  obtain ⟨b, o, rfl, hb, hh⟩ := h.row.base (by rw [List.length_map]; omega)
  exact ⟨b, o, rfl, hh _ _ (by rw [List.getElem?_map, hk]; rfl)⟩
theorem Rd.num {w : World} {A : Option Addr} {l : List Int} {n : Nat} (h : Rd w 1 A n (icells l)) {k : Nat} {x : Int} (hk : l[k]? = some x) : ∃ b o, A = some ⟨b, o, none⟩ ∧ w.cell? ⟨b, o + k, none⟩ = some (.int .i64 x) := by
  have hkl := (List.getElem?_eq_some_iff.1 hk).1
  obtain ⟨b, o, rfl, hb, hh⟩ := h.base (by rw [icells_len]; omega)
  exact ⟨b, o, rfl, hh _ _ (icells_at hk)⟩
abbrev KeepsR (W0 : World) : Ending → World → Prop := fun e w' => e = .returned (.bool true) ∧ Below W0.heap.size W0 w'
set_option maxRecDepth 100000 in
set_option maxHeartbeats 8000000 in
theorem keeps_end {u0 u1 u2 u3 u4 u5 u6 u9 u10 u11 u12 u13 u14 u15 u16 u17 u18 u20 u22 u23 u25 u26 u27 u28 u29 u30 u31 u32 u33 u34 u35 u36 u37 u38 u39 u40 u41 u42 u43 u44 u45 u46 u47 u48 u49 u50 u51 u52 u53 u54 u55 u56 u57 u58 u59 u60 u61 u62 u63 u64 u65 u66 u67 u68 u69 u70 u71 u72 u73 u74 u75 u76 u77 u78 u79 u80 u81 u82 u83 u84 u85 u86 u87 u88 u89 u90 u91 u92 u93 u94 u95 u96 u97 u98 u99 u100 u101 u102 u103 u104 u105 u106 u107 u108 u109 u110 u111 u112 u113 u114 u115 u116 u117 u118 u119 u120 u121 u122 u123 u124 u125 u126 u127 u128 u129 u130 u131 u132 u133 u134 u135 u136 u137 u138 u139 u140 u141 u142 u143 u144 u145 u146 u147 u148 u149 u150 u151 u152 u153 u154 u155 u156 u157 u158 u159 u160 u161 u162 u163 u164 u165 u166 u167 u168 u169 u170 u171 u172 u173 u174 u175 u176 u177 u178 u179 u180 u181 u182 u183 u184 u185 u186 u187 u188 u189 u190 u191 u192 u193 u194 u195 u196 u197 u198 u199 u200 u201 u202 u203 u204 u205 u206 u207 u208 u209 u210 u211 u212 u213 u214 u215 u216 u217 u218 u219 u220 u221 u222 u223 u224 u225 u226 u227 u228 u229 u230 u231 u232 u233 u234 u235 u236 u237 u238 u239 u240 u241 u242 u243 u244 u245 u246 u247 u248 u249 u250 u251 u252 u253 u254 u255 u256 u257 u258 u259 u260 u261 u262 u263 u264 u265 u266 u267 u268 u269 u270 u271 u272 u273 u274 u275 u276 u277 u278 u279 u280 u281 : Value} (W0 w : World) (N hb : Nat) (size runs : Int) (L : List Ob) (roots : List Wd) (rs : List Ro) (V G V' G' : Value) (A19 A21 A24 : Option Addr) (c19 c21 c24 : Nat)
    (hC : CH w N hb size runs (collO L roots) V G V' G') (hW : Wf L) (hs : sizes (collO L roots) ≤ 4000000) (hBw : N ≤ w.heap.size) (hru : 0 ≤ runs ∧ runs ≤ 4000000)
    (hr : Rd w 2 A24 roots.length (wcells (collR L roots))) (hf : ∀ u ∈ roots, Fine L u) (hm : roots.length ≤ 10) (had : HDR w A21 rs) (hrs : rs.map Ro.l = roots.map (walkP L 4)) (h0 : W0.heap.size ≤ N) (hB0 : Below W0.heap.size W0 w) :
    Code.wp Try.prog (tl 14) (bodyPost Try.prog Try.f4 (KeepsR W0)) ⟨#[u0, u1, u2, u3, u4, u5, u6, .bool true, .pointer (some ⟨hb, 0, none⟩), u9, u10, u11, u12, u13, u14, u15, u16, u17, u18, .slice A19 roots.length c19, u20, .slice A21 roots.length c21, u22, u23, .slice A24 roots.length c24, u25, u26, u27, u28, u29, u30, u31, u32, u33, u34, u35, u36, u37, u38, u39, u40, u41, u42, u43, u44, u45, u46, u47, u48, u49, u50, u51, u52, u53, u54, u55, u56, u57, u58, u59, u60, u61, u62, u63, u64, u65, u66, u67, u68, u69, u70, u71, u72, u73, u74, u75, u76, u77, u78, u79, u80, u81, u82, u83, u84, u85, u86, u87, u88, u89, u90, u91, u92, u93, u94, u95, u96, u97, u98, u99, u100, u101, u102, u103, u104, u105, u106, u107, u108, u109, u110, u111, u112, u113, u114, u115, u116, u117, u118, u119, u120, u121, u122, u123, u124, u125, u126, u127, u128, u129, u130, u131, u132, u133, u134, u135, u136, u137, u138, u139, u140, u141, u142, u143, u144, u145, u146, u147, u148, u149, u150, u151, u152, u153, u154, u155, u156, u157, u158, u159, u160, u161, u162, u163, u164, u165, u166, u167, u168, u169, u170, u171, u172, u173, u174, u175, u176, u177, u178, u179, u180, u181, u182, u183, u184, u185, u186, u187, u188, u189, u190, u191, u192, u193, u194, u195, u196, u197, u198, u199, u200, u201, u202, u203, u204, u205, u206, u207, u208, u209, u210, u211, u212, u213, u214, u215, u216, u217, u218, u219, u220, u221, u222, u223, u224, u225, u226, u227, u228, u229, u230, u231, u232, u233, u234, u235, u236, u237, u238, u239, u240, u241, u242, u243, u244, u245, u246, u247, u248, u249, u250, u251, u252, u253, u254, u255, u256, u257, u258, u259, u260, u261, u262, u263, u264, u265, u266, u267, u268, u269, u270, u271, u272, u273, u274, u275, u276, u277, u278, u279, u280, u281], []⟩ w := by
  have hWC := hW.coll roots
  have hcl : (collR L roots).length = roots.length := by simp [collR]
  have hrl : rs.length = roots.length := by have := congrArg List.length hrs; simpa using this
  have HWK := Lib.hid (show ∀ (W : World) (_ : Below w.heap.size w W) (u : Wd), Calls Try.prog 25 #[.pointer (some ⟨hb, 0, none⟩), .agg #[.bool u.ptr, .int .i64 u.v], .int .i64 4] W _ from fun W h u => walk_any hWC hs 4 (by omega) W (hC.below h) u)
  have HUS := Lib.hid (fun (W : World) (h : Below w.heap.size w W) => used_any (hC.below h))
  have HCO := Lib.hid (fun (W : World) (h : Below w.heap.size w W) => Collect_any (hC.below h) hWC hs (Nat.le_trans hBw h.size) hru A24 c24 (by rw [hcl]; exact hr.below h) (collR_fine hf) (by rw [hcl]; omega))
  rw [hcl] at HCO
  have HAG := Lib.hid (again_law hW hf)
  have HNO := Lib.hid (show roots.length = 0 → sizes (collO L roots) = 0 from fun h => by rw [List.eq_nil_of_length_eq_zero h]; exact coll_none L)
  have HI := Lib.hid (And.intro hW (And.intro hf (And.intro had (And.intro hrs (And.intro hr (And.intro hrl hcl))))))
  have HM := Lib.hid hm
  have H0 := Lib.hid (And.intro h0 hB0)
  have h10 : (roots.length : Int) ≤ 10 := by omega
  clear hC hW hs hBw hru hr hf hm had hrs hWC hcl hrl h0 hB0
  conv => arg 2; whnf
  go_wp2_with fail
  go_loopw [26] (fun i' wr => ∃ k : Nat, i' = .int .i64 k ∧ k ≤ roots.length ∧ Below w.heap.size w wr) (fun i' _ => roots.length - (intOf i').toNat)
  case atStart => exact ⟨0, rfl, Nat.zero_le _, Below.refl _ _⟩
  case round =>
    obtain ⟨k, rfl, hk, hb⟩ := hrel
    have HB := Lib.hid hb
    have k0 : (0 : Int) ≤ (k : Int) := by omega
    by_cases hlt : k < roots.length
    · have q1 : decide ((k : Int) < (roots.length : Int)) = true := decide_eq_true (by omega)
      have k1 : (k : Int) < (roots.length : Int) := by omega
      have k2 : (k : Int) < 10 := by omega
      obtain ⟨r, hr⟩ : ∃ r, rs[k]? = some r := ⟨_, List.getElem?_eq_getElem (by have := HI.out.2.2.2.2.2.1; omega)⟩
      obtain ⟨v, hv⟩ : ∃ v, (collR L roots)[k]? = some v := ⟨_, List.getElem?_eq_getElem (by have := HI.out.2.2.2.2.2.2; omega)⟩
      obtain ⟨u, hu, hwk⟩ := keeps_at HI.out.1 HI.out.2.1 hv 4
      have hrl : r.l = walkP (collO L roots) 4 v := by
        have h := congrArg (fun l => l[k]?) HI.out.2.2.2.1
        simp only [List.getElem?_map, hr, hu, Option.map_some, Option.some.injEq] at h
        rw [h, hwk]
      have hw := HWK.out wr hb v
      rw [← hrl] at hw
      have HW := Lib.hid hw
      obtain ⟨b24, o24, hA24, _, f0, f1⟩ := (HI.out.2.2.2.2.1.below hb).word hv
      subst hA24
      have HR := Lib.hid (And.intro hr hrl)
      clear hk hlt hr hv hu hwk hrl hw hb
      go_upto_region 46 with (go_at_call 25; (with_reducible refine HW.out.mono ?_); rintro e w1 ⟨x, rfl, hown, hb1⟩; have H1 := Lib.hid (And.intro hown hb1); clear hown hb1)
      obtain ⟨Ax, cx, rfl, _⟩ := own_cap H1.out.1
      have HB1 := Lib.hid (HB.out.trans (H1.out.2.mono HB.out.size))
      obtain ⟨b21, o21, hA21, g0⟩ := (HI.out.2.2.1.below HB1.out).at HR.out.1
      subst hA21
      have HMX := Lib.hid (show r.l.length ≤ 4000000 by rw [HR.out.2]; exact Nat.le_trans (walkP_len _ 4 _) (by decide))
      obtain ⟨nl, hnl⟩ : ∃ nl, r.l.length = nl := ⟨_, rfl⟩
      rw [hnl] at g0 H1 HMX
      rw [hnl]
      have HNL := Lib.hid hnl
      clear f0 f1 hnl
      go_wp2_with fail
      go_loopw [28] (fun j' wz => ∃ j : Nat, j' = .int .i64 j ∧ j ≤ nl ∧ Below w1.heap.size w1 wz) (fun j' _ => nl - (intOf j').toNat)
      case atStart => exact ⟨0, rfl, Nat.zero_le _, Below.refl _ _⟩
      case round =>
        obtain ⟨j, rfl, hj, hbz⟩ := hrel
        have HBZ := Lib.hid hbz
        have j0 : (0 : Int) ≤ (j : Int) := by omega
        by_cases hjl : j < nl
        · have p1 : decide ((j : Int) < (nl : Int)) = true := decide_eq_true (by omega)
          have j1 : (j : Int) < (nl : Int) := by omega
          have j2 : (j : Int) < 4000000 := by have := HMX.out; omega
          obtain ⟨n, hn⟩ : ∃ n, r.l[j]? = some n := ⟨_, List.getElem?_eq_getElem (by rw [HNL.out]; exact hjl)⟩
          have hb2 := HB1.out.trans (hbz.mono HB1.out.size)
          obtain ⟨b2, o2, hA2, g2⟩ := ((Rd.of_own H1.out.1).below hbz).num hn
          obtain ⟨b3, o3, hA3, g3⟩ := (HI.out.2.2.1.ws r (List.mem_of_getElem? HR.out.1) |>.below hb2).num hn
          obtain ⟨b4, o4, hA4, g4⟩ := (HI.out.2.2.1.below hb2).at HR.out.1
          cases hA4
          subst hA2
          rw [hA3, HNL.out] at g4
          clear hA3 hj hjl hn hbz hb2 g0
          go_upto_region 51 with fail
          go_quiet (fail)
          go_wp2_with fail
          exact ⟨⟨j + 1, by go_num, by omega, HBZ.out.trans (below_drewN (Below.refl _ _) _)⟩, by simp [intOf] <;> omega⟩
        · have p1 : decide ((j : Int) < (nl : Int)) = false := decide_eq_false (by omega)
          clear hbz
          go_wp2_with fail
          exact ⟨⟨k + 1, by go_num, by omega, HB1.out.trans (HBZ.out.mono HB1.out.size)⟩, by simp [intOf] <;> omega⟩
    · have q1 : decide ((k : Int) < (roots.length : Int)) = false := decide_eq_false (by omega)
      clear hk
      have HU1 := Lib.hid (HUS.out wr hb)
      have HC1 := Lib.hid (HCO.out wr hb)
      have HBE := Lib.hid (H0.out.2.trans (hb.mono H0.out.2.size))
      clear hb
      go_upto_region 55 with (first
        | (go_at_call 26; (with_reducible refine HU1.out.mono ?_); rintro e w1 ⟨rfl, rfl⟩)
        | (go_at_call 21; (with_reducible refine HC1.out.mono ?_); rintro e w2 ⟨v, V1, G1, V1', G1', rfl, hc, _, _, _, hbl⟩; have HFIN := Lib.hid (HBE.out.trans (hbl.mono H0.out.1)); clear hbl; have HU2 := Lib.hid (used_any hc); clear hc; rw [HAG.out] at HU2))
      by_cases hz : 0 < roots.length
      · go_wp2_with (go_at_call 26; (with_reducible refine HU2.out.mono ?_); rintro e w3 ⟨rfl, rfl⟩)
        go_returns
        exact ⟨rfl, HFIN.out⟩
      · have hz0 : sizes (collO L roots) = 0 := HNO.out (by omega)
        go_wp2_with (go_at_call 26; (with_reducible refine HU2.out.mono ?_); rintro e w3 ⟨rfl, rfl⟩)
        go_returns
        exact ⟨rfl, HFIN.out⟩
end Go.Proofs.Ythblcfhflkapmaa
