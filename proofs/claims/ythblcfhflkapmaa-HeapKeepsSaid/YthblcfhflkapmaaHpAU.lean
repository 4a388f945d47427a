/-
  The law HeapKeeps: the roots, what was told of them, the first collection.
-/
import Derived.Test.YthblcfhflkapmaaHpAT
namespace Go.Proofs.Ythblcfhflkapmaa
open Go Go.ChangeShapes Go.WideShapes Go.ChangeAt Go.RowKit Go.Sort
set_option linter.unusedVariables false
set_option linter.unusedSimpArgs false

abbrev RTy : TypeId := 69
theorem elHad : ElemTy Try.prog 68 69 (.slice none 0 0) 1 24 :=
  ⟨Try.underlying68, by kernel_rfl, rfl, by decide, by decide⟩
theorem ro_ones (rs : List Ro) : ∀ u ∈ rs.map Ro.cell, u.oneCell' = true := by
  intro u hu
  obtain ⟨r, _, rfl⟩ := List.mem_map.1 hu
  rfl
/-- What was told so far, in a row of its own; W is where it began. -/
structure HDS (W w : World) (y : Value) (k : Nat) (rs : List Ro) : Prop where
  row : w.ownsRow W.heap.size RTy 1 y k (rs.map Ro.cell)
  ln : rs.length = k
  ws : ∀ r ∈ rs, Rd w 1 r.A r.l.length (icells r.l)
  ne : ∀ r ∈ rs, ∀ a, r.A = some a → y.ownBlock ≠ some a.block ∧ W.heap.size ≤ a.block ∧ a.block < w.heap.size
  bl : Below W.heap.size W w
theorem Rd.held {w w' : World} {size n : Nat} {A : Option Addr} {cs : List Value} (h : Rd w size A n cs) (hk : ∀ a, A = some a → w'.heap[a.block]? = w.heap[a.block]?) : Rd w' size A n cs :=
  ⟨h.1, fun h0 => by
    obtain ⟨a, ha, hh⟩ := h.2 h0
    exact ⟨a, ha, fun j u hj => (World.cell?_of_block (a := a.add j) (by rw [add_block]; exact hk a ha)).trans (hh j u hj)⟩⟩
theorem HDS.start (W : World) : HDS W W (.slice none 0 0) 0 [] := ⟨World.ownsRow_nil _ _ _ _, rfl, (fun r h => nomatch h), (fun r h => nomatch h), Below.refl _ _⟩
theorem HDS.below {W w w' : World} {y : Value} {k : Nat} {rs : List Ro} (h : HDS W w y k rs) (hb : Below w.heap.size w w') : HDS W w' y k rs :=
  ⟨own_below h.row hb, h.ln, fun r hr => (h.ws r hr).below hb, fun r hr a ha => ⟨(h.ne r hr a ha).1, (h.ne r hr a ha).2.1, Nat.lt_of_lt_of_le (h.ne r hr a ha).2.2 hb.size⟩, h.bl.trans (hb.mono h.bl.size)⟩
/-- One more. -/
theorem HDS.more {W w w1 w2 : World} {y y' : Value} {k : Nat} {rs : List Ro} {r : Ro} (h : HDS W w y k rs) (hb : Below w.heap.size w w1) (hn : ∀ a, r.A = some a → w.heap.size ≤ a.block ∧ a.block < w1.heap.size) (hr : Rd w1 1 r.A r.l.length (icells r.l))
    (ho : w2.ownsRow W.heap.size RTy 1 y' (k + 1) (rs.map Ro.cell ++ [r.cell])) (hg : w1.grownBy w2 y.ownBlock) (hy : y'.ownBlock = y.ownBlock ∨ ∃ g, y'.ownBlock = some g ∧ w1.heap.size ≤ g) (hB : Below W.heap.size w1 w2) : HDS W w2 y' (k + 1) (rs ++ [r]) := by
  have h1 := h.below hb
  have hy1 : ∀ g, y.ownBlock = some g → g < w.heap.size := fun g hg' => (h.row.lt g hg').2
  have hall : ∀ x ∈ rs ++ [r], Rd w1 1 x.A x.l.length (icells x.l) ∧ ∀ a, x.A = some a → y.ownBlock ≠ some a.block ∧ W.heap.size ≤ a.block ∧ a.block < w1.heap.size := by
    intro x hx
    rcases List.mem_append.1 hx with hx | hx
    · exact ⟨h1.ws x hx, h1.ne x hx⟩
    · rw [List.mem_singleton.1 hx]
      exact ⟨hr, fun a ha => ⟨fun e => by have := hy1 _ e; have := (hn a ha).1; omega, by have := (hn a ha).1; have := h.bl.size; omega, (hn a ha).2⟩⟩
  refine ⟨by rw [List.map_append]; exact ho, by rw [List.length_append, h.ln]; rfl, fun x hx => (hall x hx).1.held fun a ha => ?_, fun x hx a ha => ⟨?_, ((hall x hx).2 a ha).2.1, Nat.lt_of_lt_of_le ((hall x hx).2 a ha).2.2 hg.size⟩, h1.bl.trans hB⟩
  · exact hg.block a.block ((hall x hx).2 a ha).2.2 (fun e => ((hall x hx).2 a ha).1 e.symm)
  · rcases hy with e | ⟨g, e, hl⟩
    · rw [e]; exact ((hall x hx).2 a ha).1
    · rw [e]
      intro e'
      have := ((hall x hx).2 a ha).2.2
      injection e' with e'
      omega
theorem HDS.coll {W w w2 : World} {A : Option Addr} {c n : Nat} {rs : List Ro} {N hb : Nat} {size runs : Int} {L : List Ob} {V G V' G' : Value} {Q : Nat → Prop} (h : HDS W w (.slice A n c) n rs) (hc : CH W N hb size runs L V G V' G') (ht : Tr w (Nh hb V G V' G') w2 Q) : HDR w2 A rs := by
  have hk : ∀ b, W.heap.size ≤ b → b < w.heap.size → w2.heap[b]? = w.heap[b]? := fun b h1 h2 => (ht b (hc.fresh h1) h2).2
  have hrow := Rd.of_own h.row
  rw [← h.ln] at hrow
  refine ⟨hrow.held fun a ha => ?_, fun r hr => (h.ws r hr).held fun a ha => hk _ (h.ne r hr a ha).2.1 (h.ne r hr a ha).2.2⟩
  have := h.row.lt a.block (by rw [ha]; rfl)
  exact hk _ this.1 this.2
set_option maxRecDepth 100000 in
set_option maxHeartbeats 8000000 in
theorem keeps_col {u0 u1 u2 u3 u4 u5 u6 u9 u10 u11 u12 u13 u14 u15 u16 u17 u18 u20 u22 u23 u24 u25 u26 u27 u28 u29 u30 u31 u32 u33 u34 u35 u36 u37 u38 u39 u40 u41 u42 u43 u44 u45 u46 u47 u48 u49 u50 u51 u52 u53 u54 u55 u56 u57 u58 u59 u60 u61 u62 u63 u64 u65 u66 u67 u68 u69 u70 u71 u72 u73 u74 u75 u76 u77 u78 u79 u80 u81 u82 u83 u84 u85 u86 u87 u88 u89 u90 u91 u92 u93 u94 u95 u96 u97 u98 u99 u100 u101 u102 u103 u104 u105 u106 u107 u108 u109 u110 u111 u112 u113 u114 u115 u116 u117 u118 u119 u120 u121 u122 u123 u124 u125 u126 u127 u128 u129 u130 u131 u132 u133 u134 u135 u136 u137 u138 u139 u140 u141 u142 u143 u144 u145 u146 u147 u148 u149 u150 u151 u152 u153 u154 u155 u156 u157 u158 u159 u160 u161 u162 u163 u164 u165 u166 u167 u168 u169 u170 u171 u172 u173 u174 u175 u176 u177 u178 u179 u180 u181 u182 u183 u184 u185 u186 u187 u188 u189 u190 u191 u192 u193 u194 u195 u196 u197 u198 u199 u200 u201 u202 u203 u204 u205 u206 u207 u208 u209 u210 u211 u212 u213 u214 u215 u216 u217 u218 u219 u220 u221 u222 u223 u224 u225 u226 u227 u228 u229 u230 u231 u232 u233 u234 u235 u236 u237 u238 u239 u240 u241 u242 u243 u244 u245 u246 u247 u248 u249 u250 u251 u252 u253 u254 u255 u256 u257 u258 u259 u260 u261 u262 u263 u264 u265 u266 u267 u268 u269 u270 u271 u272 u273 u274 u275 u276 u277 u278 u279 u280 u281 : Value} (W0 w0 W w : World) (N hb i : Nat) (size runs : Int) (L : List Ob) (ps roots : List Wd) (rs : List Ro) (x : Value) (V G V' G' : Value) (A19 A21 : Option Addr) (c19 c21 : Nat)
    (hK : HK w0 W N hb size i L ps x runs V G V' G') (hz : size ≤ 3000) (hi : i ≤ 40) (hm : roots.length ≤ 10) (hr : Rd W 2 A19 roots.length (wcells roots)) (hf : ∀ u ∈ roots, Fine L u) (hd : HDS W w (.slice A21 roots.length c21) roots.length rs) (hrs : rs.map Ro.l = roots.map (walkP L 4)) (h0 : W0.heap.size ≤ N) (hB0 : Below W0.heap.size W0 w0) :
    Code.wp Try.prog (tl 11) (bodyPost Try.prog Try.f4 (KeepsR W0)) ⟨#[u0, u1, u2, u3, u4, u5, u6, .bool true, .pointer (some ⟨hb, 0, none⟩), u9, u10, u11, u12, u13, u14, u15, u16, u17, u18, .slice A19 roots.length c19, u20, .slice A21 roots.length c21, u22, u23, u24, u25, u26, u27, u28, u29, u30, u31, u32, u33, u34, u35, u36, u37, u38, u39, u40, u41, u42, u43, u44, u45, u46, u47, u48, u49, u50, u51, u52, u53, u54, u55, u56, u57, u58, u59, u60, u61, u62, u63, u64, u65, u66, u67, u68, u69, u70, u71, u72, u73, u74, u75, u76, u77, u78, u79, u80, u81, u82, u83, u84, u85, u86, u87, u88, u89, u90, u91, u92, u93, u94, u95, u96, u97, u98, u99, u100, u101, u102, u103, u104, u105, u106, u107, u108, u109, u110, u111, u112, u113, u114, u115, u116, u117, u118, u119, u120, u121, u122, u123, u124, u125, u126, u127, u128, u129, u130, u131, u132, u133, u134, u135, u136, u137, u138, u139, u140, u141, u142, u143, u144, u145, u146, u147, u148, u149, u150, u151, u152, u153, u154, u155, u156, u157, u158, u159, u160, u161, u162, u163, u164, u165, u166, u167, u168, u169, u170, u171, u172, u173, u174, u175, u176, u177, u178, u179, u180, u181, u182, u183, u184, u185, u186, u187, u188, u189, u190, u191, u192, u193, u194, u195, u196, u197, u198, u199, u200, u201, u202, u203, u204, u205, u206, u207, u208, u209, u210, u211, u212, u213, u214, u215, u216, u217, u218, u219, u220, u221, u222, u223, u224, u225, u226, u227, u228, u229, u230, u231, u232, u233, u234, u235, u236, u237, u238, u239, u240, u241, u242, u243, u244, u245, u246, u247, u248, u249, u250, u251, u252, u253, u254, u255, u256, u257, u258, u259, u260, u261, u262, u263, u264, u265, u266, u267, u268, u269, u270, u271, u272, u273, u274, u275, u276, u277, u278, u279, u280, u281], []⟩ w := by
  have hs : sizes L ≤ 4000000 := by have := hK.sz; omega
  have hcl := coll_le L roots (size := (sizes L : Int)) (by omega)
  have hle : ¬ sizes L < sizes (collO L roots) := by omega
  have hKw := hK.below hd.bl
  have H0 := Lib.hid (And.intro h0 (hB0.trans (hKw.bl.mono h0)))
  have HU := Lib.hid (used_any hKw.ch)
  have HC := Lib.hid (Collect_any hKw.ch hK.wf hs hKw.le ⟨hK.ru.1, by have := hK.ru.2; omega⟩ A19 c19 (hr.below hd.bl) hf (by omega))
  have HE := Lib.hid (fun (w2 : World) (V1 G1 V1' G1' : Value) (c24 : Nat) (A24 : Option Addr) (hc : CH w2 N hb size (runs + 1) (collO L roots) V1 G1 V1' G1') (hown : w2.ownsRow N WTy 2 (.slice A24 roots.length c24) roots.length (wcells (collR L roots))) (ht : Tr w (Nh hb V G V' G') w2 (Nh hb V1 G1 V1' G1')) (hb' : Below N w w2) => And.intro hc (And.intro hK.wf (And.intro (show sizes (collO L roots) ≤ 4000000 by omega) (And.intro (show N ≤ w2.heap.size from Nat.le_trans hKw.le hb'.size) (And.intro (show 0 ≤ runs + 1 ∧ runs + 1 ≤ 4000000 from ⟨by have := hK.ru.1; omega, by have := hK.ru.2; omega⟩) (And.intro (Rd.of_own hown) (And.intro hf (And.intro hm (And.intro (hd.coll hK.ch ht) (And.intro hrs (And.intro h0 ((hB0.trans (hKw.bl.mono h0)).trans (hb'.mono h0)))))))))))))
  clear hK hz hi hm hr hf hd hrs hs hcl hKw h0 hB0
  conv => arg 2; whnf
  go_upto_region 40 with (first
    | (go_at_call 26; (with_reducible refine HU.out.mono ?_); rintro e w1 ⟨rfl, rfl⟩)
    | (go_at_call 21; (with_reducible refine HC.out.mono ?_); rintro e w2 ⟨v, V1, G1, V1', G1', rfl, hc, hown, _, ht, hbw⟩; obtain ⟨A24, c24, rfl, _⟩ := own_cap hown; have HU2 := Lib.hid (used_any hc); have HE2 := Lib.hid (HE.out _ _ _ _ _ _ _ hc hown ht hbw); clear hc hown ht hbw))
  rename_i KA hKA KB hKB
  have HKC := Lib.hid hKA
  clear hKA
  go_wp2_with (go_at_call 26; (with_reducible refine HU2.out.mono ?_); rintro e w3 ⟨rfl, rfl⟩)
  refine HKC.out _ _ ?_
  obtain ⟨h1, h2, h3, h4, h5, h6, h7, h8, h9, h10, h11, h12⟩ := HE2.out
  exact keeps_end W0 w2 N hb size (runs + 1) L roots rs V1 G1 V1' G1' A19 A21 A24 c19 c21 c24 h1 h2 h3 h4 h5 h6 h7 h8 h9 h10 h11 h12
set_option maxRecDepth 100000 in
set_option maxHeartbeats 8000000 in
theorem keeps_had {u0 u1 u2 u3 u4 u5 u6 u9 u10 u11 u12 u13 u14 u15 u16 u17 u18 u20 u21 u22 u23 u24 u25 u26 u27 u28 u29 u30 u31 u32 u33 u34 u35 u36 u37 u38 u39 u40 u41 u42 u43 u44 u45 u46 u47 u48 u49 u50 u51 u52 u53 u54 u55 u56 u57 u58 u59 u60 u61 u62 u63 u64 u65 u66 u67 u68 u69 u70 u71 u72 u73 u74 u75 u76 u77 u78 u79 u80 u81 u82 u83 u84 u85 u86 u87 u88 u89 u90 u91 u92 u93 u94 u95 u96 u97 u98 u99 u100 u101 u102 u103 u104 u105 u106 u107 u108 u109 u110 u111 u112 u113 u114 u115 u116 u117 u118 u119 u120 u121 u122 u123 u124 u125 u126 u127 u128 u129 u130 u131 u132 u133 u134 u135 u136 u137 u138 u139 u140 u141 u142 u143 u144 u145 u146 u147 u148 u149 u150 u151 u152 u153 u154 u155 u156 u157 u158 u159 u160 u161 u162 u163 u164 u165 u166 u167 u168 u169 u170 u171 u172 u173 u174 u175 u176 u177 u178 u179 u180 u181 u182 u183 u184 u185 u186 u187 u188 u189 u190 u191 u192 u193 u194 u195 u196 u197 u198 u199 u200 u201 u202 u203 u204 u205 u206 u207 u208 u209 u210 u211 u212 u213 u214 u215 u216 u217 u218 u219 u220 u221 u222 u223 u224 u225 u226 u227 u228 u229 u230 u231 u232 u233 u234 u235 u236 u237 u238 u239 u240 u241 u242 u243 u244 u245 u246 u247 u248 u249 u250 u251 u252 u253 u254 u255 u256 u257 u258 u259 u260 u261 u262 u263 u264 u265 u266 u267 u268 u269 u270 u271 u272 u273 u274 u275 u276 u277 u278 u279 u280 u281 : Value} (W0 w0 w : World) (N hb i : Nat) (size runs : Int) (L : List Ob) (ps roots : List Wd) (x : Value) (V G V' G' : Value) (A19 : Option Addr) (c19 : Nat)
    (hK : HK w0 w N hb size i L ps x runs V G V' G') (hz : size ≤ 3000) (hi : i ≤ 40) (hm : roots.length ≤ 10) (hr : Rd w 2 A19 roots.length (wcells roots)) (hf : ∀ u ∈ roots, Fine L u) (h0 : W0.heap.size ≤ N) (hB0 : Below W0.heap.size W0 w0) :
    Code.wp Try.prog (tl 9) (bodyPost Try.prog Try.f4 (KeepsR W0)) ⟨#[u0, u1, u2, u3, u4, u5, u6, .bool true, .pointer (some ⟨hb, 0, none⟩), u9, u10, u11, u12, u13, u14, u15, u16, u17, u18, .slice A19 roots.length c19, u20, u21, u22, u23, u24, u25, u26, u27, u28, u29, u30, u31, u32, u33, u34, u35, u36, u37, u38, u39, u40, u41, u42, u43, u44, u45, u46, u47, u48, u49, u50, u51, u52, u53, u54, u55, u56, u57, u58, u59, u60, u61, u62, u63, u64, u65, u66, u67, u68, u69, u70, u71, u72, u73, u74, u75, u76, u77, u78, u79, u80, u81, u82, u83, u84, u85, u86, u87, u88, u89, u90, u91, u92, u93, u94, u95, u96, u97, u98, u99, u100, u101, u102, u103, u104, u105, u106, u107, u108, u109, u110, u111, u112, u113, u114, u115, u116, u117, u118, u119, u120, u121, u122, u123, u124, u125, u126, u127, u128, u129, u130, u131, u132, u133, u134, u135, u136, u137, u138, u139, u140, u141, u142, u143, u144, u145, u146, u147, u148, u149, u150, u151, u152, u153, u154, u155, u156, u157, u158, u159, u160, u161, u162, u163, u164, u165, u166, u167, u168, u169, u170, u171, u172, u173, u174, u175, u176, u177, u178, u179, u180, u181, u182, u183, u184, u185, u186, u187, u188, u189, u190, u191, u192, u193, u194, u195, u196, u197, u198, u199, u200, u201, u202, u203, u204, u205, u206, u207, u208, u209, u210, u211, u212, u213, u214, u215, u216, u217, u218, u219, u220, u221, u222, u223, u224, u225, u226, u227, u228, u229, u230, u231, u232, u233, u234, u235, u236, u237, u238, u239, u240, u241, u242, u243, u244, u245, u246, u247, u248, u249, u250, u251, u252, u253, u254, u255, u256, u257, u258, u259, u260, u261, u262, u263, u264, u265, u266, u267, u268, u269, u270, u271, u272, u273, u274, u275, u276, u277, u278, u279, u280, u281], []⟩ w := by
  have hs : sizes L ≤ 4000000 := by have := hK.sz; omega
  have HK1 := Lib.hid hK
  have HI := Lib.hid (And.intro hz (And.intro hi (And.intro hm (And.intro hr hf))))
  have H0 := Lib.hid (And.intro h0 hB0)
  have HWK := Lib.hid (show ∀ (W : World) (_ : Below w.heap.size w W) (u : Wd), Calls Try.prog 25 #[.pointer (some ⟨hb, 0, none⟩), .agg #[.bool u.ptr, .int .i64 u.v], .int .i64 4] W _ from fun W h u => walk_any hK.wf hs 4 (by omega) W (hK.ch.below h) u)
  have h10 : (roots.length : Int) ≤ 10 := by omega
  clear hK hz hi hm hr hf hs h0 hB0
  conv => arg 2; whnf
  go_wp2_with fail
  rename_i hKC
  have HKC := Lib.hid hKC
  clear hKC
  go_loopw [21, 22] (fun y i' wr => ∃ (k : Nat) (rs : List Ro), i' = .int .i64 k ∧ k ≤ roots.length ∧ rs.map Ro.l = (roots.take k).map (walkP L 4) ∧ HDS w wr y k rs) (fun _ i' _ => roots.length - (intOf i').toNat)
  case atStart => exact ⟨0, [], rfl, Nat.zero_le _, rfl, HDS.start _⟩
  case round =>
    obtain ⟨k, rs, rfl, hk, hl, hd⟩ := hrel
    have HD := Lib.hid (And.intro hl hd)
    obtain ⟨Al, cl, rfl, _⟩ := own_cap hd.row
    have k0 : (0 : Int) ≤ (k : Int) := by omega
    by_cases hlt : k < roots.length
    · have q1 : decide ((k : Int) < (roots.length : Int)) = true := decide_eq_true (by omega)
      have k1 : (k : Int) < (roots.length : Int) := by omega
      have k2 : (k : Int) < 10 := by omega
      obtain ⟨u, hu⟩ : ∃ u, roots[k]? = some u := ⟨_, List.getElem?_eq_getElem hlt⟩
      obtain ⟨b19, o19, hA19, _, f0, f1⟩ := (HI.out.2.2.2.1.below hd.bl).word hu
      subst hA19
      have HW := Lib.hid (HWK.out wr hd.bl u)
      have HU := Lib.hid (And.intro hu (And.intro hlt hk))
      have HWL := Lib.hid (show (walkP L 4 u).length ≤ 4000000 from Nat.le_trans (walkP_len _ 4 _) (by decide))
      clear hl hd hk hlt hu
      go_wp2_with fail
      refine HW.out.mono ?_
      rintro e w1 ⟨v, rfl, hown, hb1⟩
      obtain ⟨A3, c3, rfl, _⟩ := own_cap hown
      have H1 := Lib.hid (And.intro hown hb1)
      have HRO := Lib.hid (show w1.ownsRow wr.heap.size ITy 1 (Ro.cell ⟨A3, c3, walkP L 4 u⟩) (walkP L 4 u).length (icells (walkP L 4 u)) from hown)
      have HLIT := Lib.hid (show Rd (w1.alloc (.cells #[Ro.cell ⟨A3, c3, walkP L 4 u⟩] RTy)) 1 (some ⟨w1.heap.size, 0, none⟩) 1 [Ro.cell ⟨A3, c3, walkP L 4 u⟩] from Rd.lit w1 _ _ rfl)
      have HA3 := Lib.hid ((Below.refl w1.heap.size w1).alloc (Nat.le_refl _) (.cells #[Ro.cell ⟨A3, c3, walkP L 4 u⟩] RTy))
      have HO4 := Lib.hid (own_below (own_below HD.out.2.row hb1) HA3.out)
      have HL4 := Lib.hid (show w.heap.size ≤ (w1.alloc (.cells #[Ro.cell ⟨A3, c3, walkP L 4 u⟩] RTy)).heap.size by rw [World.size_alloc]; have := HD.out.2.bl.size; have := hb1.size; omega)
      have HLB := Lib.hid (show (k + 1) * 24 ≤ 140737488355328 by omega)
      clear hown hb1
      go_wp2_with (at_builtin; refine wpList_app elHad _ rfl (.tmp 184) (.tmp 191) rfl _ _ k (rs.map Ro.cell) rfl HO4.out (some ⟨w1.heap.size, 0, none⟩) 1 1 _ rfl HLIT.out (ro_ones [⟨A3, c3, walkP L 4 u⟩]) HLB.out HL4.out ?_; intro v6 w6 hown6 hb6 hg6 hat6; have H6 := Lib.hid (And.intro hown6 (And.intro hb6 (And.intro hg6 hat6))); clear hown6 hb6 hg6 hat6)
      have hb1 := H1.out.2
      have hU := HU.out
      refine ⟨⟨k + 1, rs ++ [⟨A3, c3, walkP L 4 u⟩], by go_num, by omega, ?_, HDS.more (r := ⟨A3, c3, walkP L 4 u⟩) HD.out.2 (hb1.trans (HA3.out.mono hb1.size)) (fun a ha => ?_) ((Rd.of_own HRO.out).below HA3.out) H6.out.1 H6.out.2.2.1 (H6.out.2.2.2.elim .inl (fun e => .inr ⟨_, e, Nat.le_refl _⟩)) H6.out.2.1⟩, by simp [intOf] <;> omega⟩
      · rw [List.map_append, HD.out.1, List.take_add_one, hU.1, List.map_append]; rfl
      · have hh := H1.out.1.lt a.block (by rw [show A3 = some a from ha]; rfl)
        exact ⟨hh.1, by rw [World.size_alloc]; omega⟩
    · have hkk : k = roots.length := by omega
      have HX := Lib.hid (show rs.map Ro.l = roots.map (walkP L 4) by rw [HD.out.1, hkk, List.take_length])
      have HE := HD.out.2
      rw [hkk] at HE
      have HDE := Lib.hid HE
      clear hl hd HE hk
      go_wp2_with fail
      refine HKC.out _ _ ?_
      rw [hkk]
      exact keeps_col W0 w0 w wr N hb i size runs L ps roots rs x V G V' G' A19 _ c19 _ HK1.out HI.out.1 HI.out.2.1 HI.out.2.2.1 HI.out.2.2.2.1 HI.out.2.2.2.2 HDE.out HX.out H0.out.1 H0.out.2
set_option maxRecDepth 100000 in
set_option maxHeartbeats 8000000 in
theorem keeps_rest {u0 u1 u3 u4 u5 u6 u9 u11 u12 u13 u14 u15 u16 u17 u18 u19 u20 u21 u22 u23 u24 u25 u26 u27 u28 u29 u30 u31 u32 u33 u34 u35 u36 u37 u38 u39 u40 u41 u42 u43 u44 u45 u46 u47 u48 u49 u50 u51 u52 u53 u54 u55 u56 u57 u58 u59 u60 u61 u62 u63 u64 u65 u66 u67 u68 u69 u70 u71 u72 u73 u74 u75 u76 u77 u78 u79 u80 u81 u82 u83 u84 u85 u86 u87 u88 u89 u90 u91 u92 u93 u94 u95 u96 u97 u98 u99 u100 u101 u102 u103 u104 u105 u106 u107 u108 u109 u110 u111 u112 u113 u114 u115 u116 u117 u118 u119 u120 u121 u122 u123 u124 u125 u126 u127 u128 u129 u130 u131 u132 u133 u134 u135 u136 u137 u138 u139 u140 u141 u142 u143 u144 u145 u146 u147 u148 u149 u150 u151 u152 u153 u154 u155 u156 u157 u158 u159 u160 u161 u162 u163 u164 u165 u166 u167 u168 u169 u170 u171 u172 u173 u174 u175 u176 u177 u178 u179 u180 u181 u182 u183 u184 u185 u186 u187 u188 u189 u190 u191 u192 u193 u194 u195 u196 u197 u198 u199 u200 u201 u202 u203 u204 u205 u206 u207 u208 u209 u210 u211 u212 u213 u214 u215 u216 u217 u218 u219 u220 u221 u222 u223 u224 u225 u226 u227 u228 u229 u230 u231 u232 u233 u234 u235 u236 u237 u238 u239 u240 u241 u242 u243 u244 u245 u246 u247 u248 u249 u250 u251 u252 u253 u254 u255 u256 u257 u258 u259 u260 u261 u262 u263 u264 u265 u266 u267 u268 u269 u270 u271 u272 u273 u274 u275 u276 u277 u278 u279 u280 u281 : Value} (W0 w0 w : World) (N hb i : Nat) (size runs : Int) (L : List Ob) (ps : List Wd) (ks : List Int) (V G V' G' : Value) (A2 A10 : Option Addr) (c2 c10 : Nat)
    (hK : HK w0 w N hb size i L ps (.slice A10 ps.length c10) runs V G V' G') (hz : size ≤ 3000) (hi : i ≤ 40) (h2 : ks.length ≤ 10) (hk : Rd w 1 A2 ks.length (icells ks)) (hkr : ∀ n ∈ ks, I64 n) (h0 : W0.heap.size ≤ N) (hB0 : Below W0.heap.size W0 w0) :
    Code.wp Try.prog (tl 7) (bodyPost Try.prog Try.f4 (KeepsR W0)) ⟨#[u0, u1, .slice A2 ks.length c2, u3, u4, u5, u6, .bool true, .pointer (some ⟨hb, 0, none⟩), u9, .slice A10 ps.length c10, u11, u12, u13, u14, u15, u16, u17, u18, u19, u20, u21, u22, u23, u24, u25, u26, u27, u28, u29, u30, u31, u32, u33, u34, u35, u36, u37, u38, u39, u40, u41, u42, u43, u44, u45, u46, u47, u48, u49, u50, u51, u52, u53, u54, u55, u56, u57, u58, u59, u60, u61, u62, u63, u64, u65, u66, u67, u68, u69, u70, u71, u72, u73, u74, u75, u76, u77, u78, u79, u80, u81, u82, u83, u84, u85, u86, u87, u88, u89, u90, u91, u92, u93, u94, u95, u96, u97, u98, u99, u100, u101, u102, u103, u104, u105, u106, u107, u108, u109, u110, u111, u112, u113, u114, u115, u116, u117, u118, u119, u120, u121, u122, u123, u124, u125, u126, u127, u128, u129, u130, u131, u132, u133, u134, u135, u136, u137, u138, u139, u140, u141, u142, u143, u144, u145, u146, u147, u148, u149, u150, u151, u152, u153, u154, u155, u156, u157, u158, u159, u160, u161, u162, u163, u164, u165, u166, u167, u168, u169, u170, u171, u172, u173, u174, u175, u176, u177, u178, u179, u180, u181, u182, u183, u184, u185, u186, u187, u188, u189, u190, u191, u192, u193, u194, u195, u196, u197, u198, u199, u200, u201, u202, u203, u204, u205, u206, u207, u208, u209, u210, u211, u212, u213, u214, u215, u216, u217, u218, u219, u220, u221, u222, u223, u224, u225, u226, u227, u228, u229, u230, u231, u232, u233, u234, u235, u236, u237, u238, u239, u240, u241, u242, u243, u244, u245, u246, u247, u248, u249, u250, u251, u252, u253, u254, u255, u256, u257, u258, u259, u260, u261, u262, u263, u264, u265, u266, u267, u268, u269, u270, u271, u272, u273, u274, u275, u276, u277, u278, u279, u280, u281], []⟩ w := by
  have HK1 := Lib.hid hK
  have HI := Lib.hid (And.intro hz (And.intro hi (And.intro h2 (And.intro hk hkr))))
  have H0 := Lib.hid (And.intro h0 hB0)
  clear hK hz hi h2 hk hkr h0 hB0
  conv => arg 2; whnf
  go_wp2_with fail
  rename_i hKC
  have HKC := Lib.hid hKC
  clear hKC
  go_loopw [19, 20] (fun y i' wr => ∃ (k : Nat) (roots : List Wd), i' = .int .i64 k ∧ k ≤ ks.length ∧ roots.length = k ∧ (∀ u ∈ roots, Fine L u) ∧ wr.ownsRow w.heap.size WTy 2 y k (wcells roots) ∧ Below w.heap.size w wr) (fun _ i' _ => ks.length - (intOf i').toNat)
  case atStart => exact ⟨0, [], rfl, Nat.zero_le _, rfl, (fun u hu => nomatch hu), World.ownsRow_nil _ _ _ _, Below.refl _ _⟩
  case round =>
    obtain ⟨k, roots, rfl, hk, hl, hf, hown, hb⟩ := hrel
    have H1 := Lib.hid (And.intro hf (And.intro hown hb))
    obtain ⟨Al, cl, rfl, _⟩ := own_cap hown
    have k0 : (0 : Int) ≤ (k : Int) := by omega
    by_cases hlt : k < ks.length ∧ 0 < ps.length
    · obtain ⟨hlt, hpl⟩ := hlt
      have k1 : (k : Int) < (ks.length : Int) := by omega
      have k2 : (k : Int) < 10 := by have := HI.out.2.2.1; omega
      have q1 : decide ((k : Int) < (ks.length : Int)) = true := decide_eq_true (by omega)
      obtain ⟨n, hn⟩ : ∃ n, ks[k]? = some n := ⟨_, List.getElem?_eq_getElem hlt⟩
      obtain ⟨b2, o2, hA2, g2⟩ := (HI.out.2.2.2.1.below hb).num hn
      subst hA2
      obtain ⟨b7, o7, hA7, g7⟩ : ∃ b o, A10 = some ⟨b, o, none⟩ ∧ ∀ (r : Nat) (x : Wd), ps[r]? = some x → wr.cell? ⟨b, o + r * 2, none⟩ = some (.bool x.ptr) ∧ wr.cell? ⟨b, o + r * 2 + 1, none⟩ = some (.int .i64 x.v) := by
        have hr5 := (Rd.of_own HK1.out.row).below hb
        obtain ⟨b, o, rfl, hb, hh⟩ := hr5.base (by rw [wcells_len]; omega)
        exact ⟨b, o, rfl, fun r x hx => ⟨hh _ _ (wcells_at hx).1, by have := hh _ _ (wcells_at hx).2; rw [← Nat.add_assoc] at this; exact this⟩⟩
      subst hA7
      have hpk := pick_any n (ps.length : Int) (HI.out.2.2.2.2 n (List.mem_of_getElem? hn)) ⟨by omega, by have := HK1.out.ln; have := HI.out.2.1; omega⟩ wr
      have HL := Lib.hid (And.intro hl hlt)
      clear hf hown hb hk hn hl hlt
      go_upto_region 32 with fail
      go_wp2_with fail
      refine hpk.mono ?_
      rintro e w6 ⟨r, hr, rfl, rfl⟩
      obtain ⟨x, hx⟩ : ∃ x, ps[r]? = some x := ⟨_, List.getElem?_eq_getElem (by omega)⟩
      obtain ⟨g0, g1⟩ := g7 r x hx
      have r0 : (0 : Int) ≤ (r : Int) := by omega
      have HFX := Lib.hid (show Fine L x from HK1.out.fn x (List.mem_of_getElem? hx))
      have HE := Lib.hid (rd_one wr x)
      have HA3 := Lib.hid ((Below.refl wr.heap.size wr).alloc (Nat.le_refl _) (.cells #[.bool x.ptr, .int .i64 x.v] 36))
      have HO4 := Lib.hid (own_below H1.out.2.1 HA3.out)
      have HL4 := Lib.hid (show w.heap.size ≤ (wr.alloc (.cells #[.bool x.ptr, .int .i64 x.v] 36)).heap.size by rw [World.size_alloc]; have := H1.out.2.2.size; omega)
      have HLB := Lib.hid (show (k + 1) * 16 ≤ 140737488355328 by have := HL.out.2; have := HI.out.2.2.1; omega)
      clear hx
      go_wp2_with (at_builtin; refine wpList_app elWord _ rfl (.tmp 165) (.tmp 176) rfl _ _ k (wcells roots) rfl HO4.out (some ⟨wr.heap.size, 0, none⟩) 1 1 _ rfl HE.out (wcells_ones _) HLB.out HL4.out ?_; intro v6 w6 hown6 hb6 hg6 hat6; rw [← wcells_append] at hown6; have H6 := Lib.hid (And.intro hown6 (H1.out.2.2.trans ((HA3.out.mono H1.out.2.2.size).trans hb6))); clear hown6 hb6 hg6 hat6)
      have hLL := HL.out
      exact ⟨⟨k + 1, roots ++ [x], by go_num, by omega, by simp [HL.out.1], fun y hy => (List.mem_append.1 hy).elim (H1.out.1 y) (fun q => by rw [List.mem_singleton.1 q]; exact HFX.out), H6.out.1, H6.out.2⟩, by simp [intOf] <;> omega⟩
    · have hcc : ¬ k < ks.length ∨ (k < ks.length ∧ ¬ 0 < ps.length) := by omega
      have HR := Lib.hid (And.intro (Rd.of_own hown) (And.intro hl hk))
      have HB := Lib.hid hb
      clear hlt hown hl hk hf hb
      rcases hcc with hcc | ⟨hc1, hc2⟩
      · go_wp2_with fail
        refine HKC.out _ _ ?_
        have hh := HR.out.2.1
        subst hh
        exact keeps_had W0 w0 wr N hb i size runs L ps roots _ V G V' G' Al cl (HK1.out.below HB.out) HI.out.1 HI.out.2.1 (by have := HR.out.2.2; have := HI.out.2.2.1; omega) HR.out.1 H1.out.1 H0.out.1 H0.out.2
      · have k1 : (k : Int) < (ks.length : Int) := by omega
        go_wp2_with fail
        refine HKC.out _ _ ?_
        have hh := HR.out.2.1
        subst hh
        exact keeps_had W0 w0 wr N hb i size runs L ps roots _ V G V' G' Al cl (HK1.out.below HB.out) HI.out.1 HI.out.2.1 (by have := HR.out.2.2; have := HI.out.2.2.1; omega) HR.out.1 H1.out.1 H0.out.1 H0.out.2
end Go.Proofs.Ythblcfhflkapmaa
