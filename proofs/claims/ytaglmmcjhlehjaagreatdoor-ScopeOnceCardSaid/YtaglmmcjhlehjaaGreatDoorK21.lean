/-
  The document's numbering of an expression with parts: its parts.
  The document's numbering: the second name.
-/
import Derived.Test.YtaglmmcjhlehjaaGreatDoorK20
import Derived.Deep.CutRange
import Derived.Deep.CutBlock
import Derived.BigQuiet
namespace Go.Proofs.YtaglmmcjhlehjaaGreatDoor
open Go.ChangeShapes Go.WideShapes Go.ChangeAt Go.RowKit Go.Sort
set_option linter.unusedVariables false
set_option linter.unusedSimpArgs false
/-- The children's part of the walk. -/
def KidsD (w0 : World) (N : Nat) (l : List Ex) : Prop :=
  ∀ x ∈ l, ∀ (env : List Bd) (A : Option Addr) (c : Nat) (ol : List Str) (s : Int × Bool) (v : Value) (W : World), Below w0.heap.size w0 W → NR W N ol s.1 s.2 v → TB N W → Rd W 2 A env.length (bds env) → (0 < env.length → ∀ a, A = some a → a.block ≠ N ∧ some a.block ≠ v.ownBlock) → (∀ p ∈ env, p.2.length ≤ 9223372036854775807) → x.fineE = true → ol.length + x.bsN ≤ 4000000 → env.length + 2 * x.depth ≤ 4000000 →
    Calls Tryz.prog 22 #[.pointer (some ⟨N, 0, none⟩), .agg x.d.arr, .slice A env.length c] W fun e w' => DoR N ol s v env x W e w'
def ExD.oA (d : ExD) : List Str := if d.kind = 4 ∨ d.kind = 6 ∨ d.kind = 7 then [d.s] else []
def ExD.oB (d : ExD) : List Str := d.oA ++ (if d.kind = 14 then d.names else [])
def ownL (l : List Str) (k : Nat) : List Bd := l.zip (vNames l.length k)
theorem ownL_snoc (l : List Str) (x : Str) (k : Nat) : ownL (l ++ [x]) k = ownL l k ++ [(x, vName (k + l.length))] := by
  unfold ownL
  rw [List.length_append, List.length_singleton, vNames_snoc, List.zip_append (by rw [vNames_len])]
  rfl
theorem ownL_len (l : List Str) (k : Nat) : (ownL l k).length = l.length := by unfold ownL; rw [List.length_zip, vNames_len, Nat.min_self]
theorem bs_C (d : ExD) : d.bs = d.oB ++ (if d.kind = 7 ∨ (d.kind = 14 ∧ d.t ≠ []) then [d.t] else []) := by
  unfold ExD.bs ExD.oB ExD.oA
  by_cases h4 : d.kind = 4
  · simp [h4]
  by_cases h6 : d.kind = 6
  · simp [h6]
  by_cases h7 : d.kind = 7
  · simp [h7]
  by_cases h14 : d.kind = 14
  · by_cases ht : d.t = [] <;> simp [h14, ht]
  · simp [h4, h6, h7, h14]
/-- The struct with some of its names' numbers. -/
structure NA (d : ExD) (k : Nat) (names : List Str) (d1 : ExD) : Prop where
  kind : d1.kind = d.kind
  at_ : d1.at_ = d.at_
  n : d1.n = d.n
  labels : d1.labels = d.labels
  s : d1.s = if d.kind = 4 ∨ d.kind = 6 ∨ d.kind = 7 then vName k else d.s
  t : d1.t = d.t
  names : d1.names = names
theorem DS.ot {N gt r : Nat} {w wx : World} {v0 v : Value} {dc : ExD} {ts : List Ex} {ol : List Str} {s : Int × Bool} {own : List Bd} {oA : Option Addr} (h : DS N w v0 gt r dc ts ol s own oA v wx) : ∀ g, g < w.heap.size → g ≠ N → some g ≠ v0.ownBlock → wx.heap[g]? = w.heap[g]? := fun g h1 h2 h3 => h.os.oth g h1 h2 h3 (by intro e; cases e)
theorem DW.eBk {N : Nat} {W : World} {d : ExD} {ol : List Str} {s : Int × Bool} {v vk : Value} {A : Option Addr} {env : List Bd} {w w3 : World} {E r gt : Nat} (h : DW N W d ol s v A env w w3 E r gt) (hn : ∀ k, vk.ownBlock = some k → v.ownBlock = some k ∨ w.heap.size ≤ k) : 0 < env.length → ∀ a, A = some a → a.block ≠ N ∧ some a.block ≠ vk.ownBlock := fun h0 a ha => by
  have h1 := h.eB h0 a ha
  refine ⟨h1.1, fun e => ?_⟩
  rcases hn _ e.symm with q | q
  · exact h1.2 q.symm
  · obtain ⟨a', e', hb, _⟩ := h.en.addr (by rw [bds_length]; omega)
    rw [ha] at e'; cases e'; omega
theorem DS.eBn {N gt r : Nat} {w wx wy : World} {v0 v : Value} {dc : ExD} {ts : List Ex} {ol : List Str} {s : Int × Bool} {own : List Bd} {oA A5 : Option Addr} {m : Nat} (h : DS N w v0 gt r dc ts ol s own oA v wx) (hb : wx.heap.size ≤ wy.heap.size) (hA : ∀ a, A5 = some a → wy.heap.size ≤ a.block) : 0 < m → ∀ a, A5 = some a → a.block ≠ N ∧ some a.block ≠ v.ownBlock := fun _ a ha => by
  have h1 := hA a ha
  have h2 := h.size
  exact ⟨by omega, fun e => by have := (h.nr.o.own.lt _ e.symm).2; omega⟩
theorem bd_at {w : World} {A : Option Addr} {n : Nat} {l : List Bd} {p : Bd} {j : Nat} (h : Rd w 2 A n (bds l)) (hj : l[j]? = some p) : j < l.length ∧ ∃ b o, A = some ⟨b, o, none⟩ ∧ w.cell? ⟨b, o + j * 2, none⟩ = some (.string (bstr p.1)) ∧ w.cell? ⟨b, o + j * 2 + 1, none⟩ = some (.string (bstr p.2)) := by
  obtain ⟨hl, rfl⟩ := List.getElem?_eq_some_iff.1 hj
  obtain ⟨b, o, rfl, hc⟩ := bd_cells h hl
  exact ⟨hl, b, o, rfl, (hc j hl).1, (hc j hl).2⟩
theorem ob_0 {d : ExD} {k : Nat} (h : d.kind = 4 ∨ d.kind = 6 ∨ d.kind = 7) : (d.ob k)[0]? = some (d.s, vName k) := by
  have hb : ∃ l, d.bs = d.s :: l := by
    rw [bs_C]; unfold ExD.oB ExD.oA; rw [if_pos h]
    exact ⟨_, rfl⟩
  obtain ⟨l, hl⟩ := hb
  have hj : 0 < d.bs.length := by rw [hl]; simp
  rw [ob_get hj]
  simp only [hl]
  rfl
theorem ob_1 {d : ExD} {k : Nat} (h : d.kind = 7) : (d.ob k)[1]? = some (d.t, vName (k + 1)) := by
  have hb : d.bs = [d.s, d.t] := by
    rw [bs_C]; unfold ExD.oB ExD.oA; rw [if_pos (.inr (.inr h)), if_neg (by omega), if_pos (.inl h)]; rfl
  have hj : 1 < d.bs.length := by rw [hb]; simp
  rw [ob_get hj]
  simp only [hb]
  rfl
theorem cells_one (d : ExD) : ∀ u ∈ d.cells, u.oneCell' = true := by
  intro u hu; simp only [ExD.cells, List.mem_cons, List.not_mem_nil, or_false] at hu; rcases hu with rfl | rfl | rfl | rfl | rfl | rfl | rfl | rfl <;> rfl
theorem lk_all {env : List Bd} {d dc dV : ExD} {ts l : List Ex} {ol : List Str} (hV : dV.lk (d.numV ol.length env)) (hn : dc.noL = dV.noL) (hl : lkL ts (numL d (d.numD ol.length) l 0 env (ol ++ d.bs)).1) : (Ex.mk dc ts).lk ((Ex.mk d l).num env ol).1 := by
  simp only [Ex.num, Ex.lk]
  refine ⟨?_, hl⟩
  have h1 : dV.noL.lk (d.numV ol.length env) := hV
  rw [← hn] at h1
  exact h1

def dropSeqD : Nat → Code → Code
  | 0, c => c
  | n + 1, .seq _ b => dropSeqD n b
  | _ + 1, c => c
def headSeqD : Code → Code
  | .seq a _ => a
  | c => c
/-- The text from its n-th statement on. -/
noncomputable def tlD (n : Nat) : Code := dropSeqD n (Tryz.f22.body.getD .skip)
/-- The n-th statement's first part, and what follows in it. -/
noncomputable def haD (n : Nat) : Code := headSeqD (headSeqD (tlD n))
noncomputable def hbD (n : Nat) : Code := dropSeqD 1 (headSeqD (tlD n))
/-- What holds throughout. -/
structure DX (w0 : World) (N : Nat) (W : World) (d : ExD) (l : List Ex) (env : List Bd) (A : Option Addr) (ol : List Str) (s : Int × Bool) (v : Value) (w : World) (E r gt : Nat) : Prop where
  hI : (Ex.mk d l).In w0
  hN : w0.heap.size ≤ N
  hK : KidsD w0 N l
  hb : Below w0.heap.size w0 W
  dw : ∃ w3, DW N W d ol s v A env w w3 E r gt
  tw : TB N w
  el : ∀ p ∈ env, p.2.length ≤ 9223372036854775807
  hf : (Ex.mk d l).fineE = true
  hm : ol.length + (d.bs.length + bsNL l) ≤ 4000000
  hd : env.length + 2 * (depthL l + 1) ≤ 4000000
  h3 : d.kind ≠ 3

set_option maxRecDepth 100000 in
set_option maxHeartbeats 8000000 in
theorem do_loop {u3 u5 u8 u10 u11 u12 u13 u14 u15 u16 u17 u18 u19 u20 u21 u22 u23 u24 u25 u26 u27 u28 u29 u30 u31 u32 u33 u34 u35 u36 u37 u38 u39 u40 u41 u42 u43 u44 u45 u46 u47 u48 u49 u50 u51 u52 u53 u54 u55 u56 u57 u58 u59 u60 u61 u62 u63 u64 u65 u66 u67 u68 u69 u70 u71 u72 u73 u74 u75 u76 u77 u78 u79 u80 u81 u82 u83 u84 u85 u86 u87 u88 u89 u90 u91 u92 u93 u94 u95 u96 u97 u98 u99 u100 u101 u102 u103 u104 u105 u106 u107 u108 u109 u110 u111 u112 u113 u114 u115 u116 u117 u118 u119 u120 u121 u122 u123 u124 u125 u126 u127 u128 u129 u130 u131 u132 u133 u134 u135 u136 u137 u138 u139 u140 u141 u142 u143 u144 u145 u146 u147 u148 u149 u150 u151 u152 u153 u154 u155 u156 u157 u158 u159 u160 u161 u162 u163 u164 u165 u166 u167 u168 u169 u170 u171 u172 u173 u174 u175 u176 u177 u178 u179 u180 u181 u182 u183 u184 u185 u186 u187 u188 u189 u190 u191 u192 u193 u194 u195 u196 u197 u198 u199 u200 u201 u202 u203 u204 u205 u206 u207 u208 u209 u210 : Value} (w0 : World) (d : ExD) (l : List Ex) (N : Nat) (env : List Bd) (A : Option Addr) (cA : Nat) (ol : List Str) (s : Int × Bool) (v : Value) (W w : World) (E r gt : Nat) (hx : DX w0 N W d l env A ol s v w E r gt) (oA : Option Addr) (oc : Nat) (dC : ExD) (v3 : Value) (wC : World) (hnum : NumD d ol.length dC) (hds : DS N w v gt r dC [] (ol ++ d.bs) s (d.ob ol.length) oA v3 wC) {K K2 : Act → World → Prop} (hK2 : ∀ a w, Code.wp Tryz.prog (hbD 7) (Exit.then K (bodyPost Tryz.prog Tryz.f22 fun e w' => DoR N ol s v env (.mk d l) W e w')) a w → K2 a w) (hK : ∀ a w, Code.wp Tryz.prog (tlD 8) (bodyPost Tryz.prog Tryz.f22 fun e w' => DoR N ol s v env (.mk d l) W e w') a w → K a w) :
    Code.wp Tryz.prog (haD 7) (Exit.then K2 (Exit.then K (bodyPost Tryz.prog Tryz.f22 fun e w' => DoR N ol s v env (.mk d l) W e w'))) ⟨#[.pointer (some ⟨N, 0, none⟩), .agg d.arr, .slice A env.length cA, u3, .pointer (some ⟨E, 0, none⟩), u5, .pointer (some ⟨r, 0, none⟩), .pointer (some ⟨gt, 0, none⟩), u8, .slice oA (d.ob ol.length).length oc, u10, u11, u12, u13, u14, u15, u16, u17, u18, u19, u20, u21, u22, u23, u24, u25, u26, u27, u28, u29, u30, u31, u32, u33, u34, u35, u36, u37, u38, u39, u40, u41, u42, u43, u44, u45, u46, u47, u48, u49, u50, u51, u52, u53, u54, u55, u56, u57, u58, u59, u60, u61, u62, u63, u64, u65, u66, u67, u68, u69, u70, u71, u72, u73, u74, u75, u76, u77, u78, u79, u80, u81, u82, u83, u84, u85, u86, u87, u88, u89, u90, u91, u92, u93, u94, u95, u96, u97, u98, u99, u100, u101, u102, u103, u104, u105, u106, u107, u108, u109, u110, u111, u112, u113, u114, u115, u116, u117, u118, u119, u120, u121, u122, u123, u124, u125, u126, u127, u128, u129, u130, u131, u132, u133, u134, u135, u136, u137, u138, u139, u140, u141, u142, u143, u144, u145, u146, u147, u148, u149, u150, u151, u152, u153, u154, u155, u156, u157, u158, u159, u160, u161, u162, u163, u164, u165, u166, u167, u168, u169, u170, u171, u172, u173, u174, u175, u176, u177, u178, u179, u180, u181, u182, u183, u184, u185, u186, u187, u188, u189, u190, u191, u192, u193, u194, u195, u196, u197, u198, u199, u200, u201, u202, u203, u204, u205, u206, u207, u208, u209, u210], []⟩ wC := by
  have HXX := Lib.hid hx
  obtain ⟨w3, hdw⟩ := hx.dw
  have HDW := Lib.hid hdw
  have HI := Lib.hid hx.hI
  have HN := Lib.hid hx.hN
  have HK := Lib.hid hx.hK
  have HB := Lib.hid hx.hb
  have HTW := Lib.hid hx.tw
  have HEL := Lib.hid hx.el
  have HF := Lib.hid hx.hf
  have HM := Lib.hid hx.hm
  have HD := Lib.hid hx.hd
  have H3 := Lib.hid hx.h3
  have HP := Lib.hid (fine_parts hx.hf hx.hI)
  have HLO := Lib.hid (fun (wx : World) (h : Below N w wx) => HB.out.trans ((HDW.out.hW.mono HB.out.size).trans (h.mono HN.out)))
  clear hdw hx
  have HNUM := Lib.hid hnum
  have HDS := Lib.hid hds
  clear hnum hds
  conv at hK2 => enter [a, w, 1, 2]; whnf
  conv at hK => enter [a, w, 1, 2]; whnf
  conv => arg 2; whnf
  have HPN := Lib.hid (show l.length = d.pn from HI.out.len)
  have HP4 := Lib.hid (show d.pn ≤ 9223372036854775807 from HI.out.cap.2.2.1.2.2)
  have HNL := Lib.hid (show d.names.length = d.nn from HI.out.namLen)
  have HAT := Lib.hid (fun (wx : World) (h : ∀ g, g < w.heap.size → g ≠ N → some g ≠ v.ownBlock → wx.heap[g]? = w.heap[g]?) => HDW.out.at_ h)
  go_wp2_with fail
  go_loopw [14] (fun i wr => ∃ (k : Nat) (dck : ExD) (ts : List Ex) (olk : List Str) (sk : Int × Bool) (vk : Value), i = .int .i64 k ∧ k ≤ d.pn ∧ dck.noL = dC.noL ∧ lkL ts (numL d (d.numD ol.length) (l.take k) 0 env (ol ++ d.bs)).1 ∧ olk = (numL d (d.numD ol.length) (l.take k) 0 env (ol ++ d.bs)).2 ∧ sk = ffU (firstFL d (l.take k) 0 (env.map (·.1))) s ∧ DS N w v gt r dck ts olk sk (d.ob ol.length) oA vk wr) (fun i _ => d.pn - (intOf i).toNat)
  case atStart => exact ⟨0, dC, [], ol ++ d.bs, s, v3, rfl, Nat.zero_le _, rfl, by rw [List.take_zero]; simp [numL, lkL], by rw [List.take_zero]; simp [numL], by rw [List.take_zero]; simp [firstFL, ffU_none], HDS.out⟩
  case round =>
    obtain ⟨k, dck, ts, olk, sk, vk, rfl, hk, hnol, hlk, holk, hsk, hds⟩ := hrel
    have HDSk := Lib.hid hds
    have HLK := Lib.hid (And.intro hnol (And.intro hlk (And.intro holk hsk)))
    clear hnol hlk holk hsk hds
    have hk0 : (0 : Int) ≤ (k : Int) := by omega
    by_cases hlt : k < d.pn
    · have hjl : k < l.length := by rw [HPN.out]; exact hlt
      obtain ⟨pb, po, hpA, hAtP⟩ := HI.out.part (k := k) hjl
      have hpA' : d.pA = some ⟨pb, po, none⟩ := hpA
      have hAt0 : (l[k]).d.At w0 pb (po + k * 8) := hAtP k hjl
      have hbt := bsN_take l k hjl
      have htl : (l.take k).length = k := by rw [List.length_take]; omega
      have htk : l.take (k + 1) = l.take k ++ [l[k]] := by rw [List.take_succ_eq_append_getElem hjl]
      obtain ⟨x, hx⟩ : ∃ x, l[k] = x := ⟨_, rfl⟩
      have hxm : x ∈ l := by rw [← hx]; exact List.getElem_mem hjl
      rw [hx] at hAt0 hbt htk
      have hfx := fine_sub HF.out x hxm
      have hdx := depthL_mem l x hxm
      have HX := Lib.hid (And.intro hAt0 (And.intro hbt (And.intro htk (And.intro hxm (And.intro hfx (And.intro hdx (And.intro hpA' htl)))))))
      have hki : (k : Int) < (d.pn : Int) := by omega
      have hk9 : (k : Int) ≤ 9223372036854775806 := by have := HP4.out; omega
      clear hjl hpA hAtP hpA' hAt0 hbt htk hx hxm hfx hdx htl
      obtain ⟨c0, _, _, _, _, _, _, c7⟩ := HAT.out _ HDSk.out.ot
      go_upto_block 6 with fail
      obtain ⟨wS, rfl⟩ : ∃ x, x = wr := ⟨_, rfl⟩
      go_cut [15] from 145 to 209 (fun x15 wx => ∃ (A5 : Option Addr) (c5 : Nat), x15 = .slice A5 (env ++ d.iz ol.length k).length c5 ∧ Rd wx 2 A5 (env ++ d.iz ol.length k).length (bds (env ++ d.iz ol.length k)) ∧ (0 < (env ++ d.iz ol.length k).length → ∀ a, A5 = some a → a.block ≠ N ∧ some a.block ≠ vk.ownBlock) ∧ DS N w v gt r dck ts olk sk (d.ob ol.length) oA vk wx)
      case first =>
        have HP := Lib.hid (fine_parts HF.out HI.out)
        by_cases h4 : d.kind = 4
        · have q4 : (d.kind == 4) = true := by simpa using h4
          obtain ⟨hj0, ob, oo, hoA, e0, e1⟩ := bd_at HDSk.out.ow (ob_0 (k := ol.length) (.inl h4))
          rw [Nat.zero_mul, Nat.add_zero] at e0 e1
          subst hoA
          have hz0 : (0 : Int) < ((d.ob ol.length).length : Int) := by omega
          have HIZ4 := iz_4 (k := ol.length) (i := k) h4
          clear h4
          have HIZ := Lib.hid (HIZ4)
          have HMO := Lib.hid (more_any A env env.length cA (d.s, vName ol.length) wS (HDW.out.env HDSk.out.ot) (by have := HD.out; omega))
          go_wp2_with fail
          refine HMO.out.mono ?_
          rintro e w5 ⟨A5, c5, rfl, hr5, hb5, hA5⟩
          have HR := Lib.hid (And.intro hr5 (And.intro hb5 hA5))
          clear hr5 hb5 hA5 HMO
          go_wp2_with fail
          go_meet
          rw [HIZ.out]
          exact ⟨A5, c5, by simp, HR.out.1, HDSk.out.eBn (Nat.le_refl _) HR.out.2.2, HDSk.out.below HR.out.2.1⟩
        have q4 : (d.kind == 4) = false := by simpa using h4
        by_cases h6 : d.kind = 6
        · have q6 : (d.kind == 6) = true := by simpa using h6
          by_cases hk1 : k = 1
          · have z1 : ((k : Int) == 1) = true := by simp [hk1]
            obtain ⟨hj0, ob, oo, hoA, e0, e1⟩ := bd_at HDSk.out.ow (ob_0 (k := ol.length) (.inr (.inl h6)))
            rw [Nat.zero_mul, Nat.add_zero] at e0 e1
            subst hoA
            have hz0 : (0 : Int) < ((d.ob ol.length).length : Int) := by omega
            have HIZ6 := (show d.iz ol.length k = [(d.s, vName ol.length)] by rw [hk1]; exact iz_67 (k := ol.length) (.inl h6))
            clear h6 hk1
            have HIZ := Lib.hid (HIZ6)
            have HMO := Lib.hid (more_any A env env.length cA (d.s, vName ol.length) wS (HDW.out.env HDSk.out.ot) (by have := HD.out; omega))
            go_wp2_with fail
            refine HMO.out.mono ?_
            rintro e w5 ⟨A5, c5, rfl, hr5, hb5, hA5⟩
            have HR := Lib.hid (And.intro hr5 (And.intro hb5 hA5))
            clear hr5 hb5 hA5 HMO
            go_wp2_with fail
            go_meet
            rw [HIZ.out]
            exact ⟨A5, c5, by simp, HR.out.1, HDSk.out.eBn (Nat.le_refl _) HR.out.2.2, HDSk.out.below HR.out.2.1⟩
          · have z1 : ((k : Int) == 1) = false := by have h : (k : Int) ≠ 1 := (by omega); simpa using h
            have HIZ6 := iz_6 (k := ol.length) h6 hk1
            clear h6 hk1
            have HIZ := Lib.hid (HIZ6)
            go_wp2_with fail
            go_meet
            rw [HIZ.out, List.append_nil]
            exact ⟨A, cA, rfl, HDW.out.env HDSk.out.ot, HDW.out.eBk HDSk.out.os.new, HDSk.out⟩
        have q6 : (d.kind == 6) = false := by simpa using h6
        by_cases h7 : d.kind = 7
        · have q7 : (d.kind == 7) = true := by simpa using h7
          obtain ⟨hj0, ob, oo, hoA, e0, e1⟩ := bd_at HDSk.out.ow (ob_0 (k := ol.length) (.inr (.inr h7)))
          rw [Nat.zero_mul, Nat.add_zero] at e0 e1
          subst hoA
          have hz0 : (0 : Int) < ((d.ob ol.length).length : Int) := by omega
          by_cases hk1 : k = 1
          · have z1 : ((k : Int) == 0) = false := by have h : (k : Int) ≠ 0 := (by omega); simpa using h
            have HIZ7 := (show d.iz ol.length k = [(d.s, vName ol.length)] by rw [hk1]; exact iz_67 (k := ol.length) (.inr h7))
            clear h7 hk1
            have HIZ := Lib.hid (HIZ7)
            have HMO := Lib.hid (more_any A env env.length cA (d.s, vName ol.length) wS (HDW.out.env HDSk.out.ot) (by have := HD.out; omega))
            go_wp2_with fail
            refine HMO.out.mono ?_
            rintro e w5 ⟨A5, c5, rfl, hr5, hb5, hA5⟩
            have HR := Lib.hid (And.intro hr5 (And.intro hb5 hA5))
            clear hr5 hb5 hA5 HMO
            go_wp2_with fail
            go_meet
            rw [HIZ.out]
            exact ⟨A5, c5, by simp, HR.out.1, HDSk.out.eBn (Nat.le_refl _) HR.out.2.2, HDSk.out.below HR.out.2.1⟩
          · have hk0' : k = 0 := by have := HP.out.2.2.1 (.inr h7); omega
            have z1 : ((k : Int) == 0) = true := by simp [hk0']
            obtain ⟨hj1, ob', oo', hoA', e2, e3⟩ := bd_at HDSk.out.ow (ob_1 (k := ol.length) h7)
            injection hoA' with hoA'
            injection hoA' with hb1 ho1
            subst hb1 ho1
            rw [Nat.one_mul] at e2 e3
            have hz1 : (1 : Int) < ((d.ob ol.length).length : Int) := by omega
            have HIZ := Lib.hid (show d.iz ol.length k = [(d.s, vName ol.length), (d.t, vName (ol.length + 1))] by rw [hk0']; exact iz_7 (k := ol.length) h7)
            have HE2 := Lib.hid (And.intro e2 e3)
            clear h7 hk1 hk0'
            have HMO := Lib.hid (more_any A env env.length cA (d.s, vName ol.length) wS (HDW.out.env HDSk.out.ot) (by have := HD.out; omega))
            go_wp2_with fail
            refine HMO.out.mono ?_
            rintro e w5 ⟨A5, c5, rfl, hr5, hb5, hA5⟩
            have HR := Lib.hid (And.intro hr5 (And.intro hb5 hA5))
            have e2' := cell_below hb5 HE2.out.1
            have e3' := cell_below hb5 HE2.out.2
            clear hr5 hb5 hA5 HMO e0 e1 e2 e3
            have HMO := Lib.hid (more_any A5 (env ++ [(d.s, vName ol.length)]) (env.length + 1) c5 (d.t, vName (ol.length + 1)) w5 (by have h := HR.out.1; rwa [List.length_append] at h) (by have := HD.out; omega))
            go_wp2_with fail
            refine HMO.out.mono ?_
            rintro e w6 ⟨A6, c6, rfl, hr6, hb6, hA6⟩
            have HS := Lib.hid (And.intro hr6 (And.intro hb6 hA6))
            clear hr6 hb6 hA6 HMO
            go_wp2_with fail
            go_meet
            rw [HIZ.out, show env ++ [(d.s, vName ol.length), (d.t, vName (ol.length + 1))] = (env ++ [(d.s, vName ol.length)]) ++ [(d.t, vName (ol.length + 1))] by rw [List.append_assoc]; rfl]
            exact ⟨A6, c6, by simp, HS.out.1, HDSk.out.eBn HR.out.2.1.size HS.out.2.2, (HDSk.out.below HR.out.2.1).below HS.out.2.1⟩
        have q7 : (d.kind == 7) = false := by simpa using h7
        by_cases h14 : d.kind = 14
        · have q14 : (d.kind == 14) = true := by simpa using h14
          cases k with
          | zero =>
            have z1 : ¬ (0 : Int) < ((0 : Nat) : Int) := by omega
            have HIZ9 := iz_0 (d := d) (k := ol.length) (i := 0) ⟨h4, h6, h7, .inr rfl⟩
            clear h14
            have HIZ := Lib.hid (HIZ9)
            go_wp2_with fail
            go_meet
            rw [HIZ.out, List.append_nil]
            exact ⟨A, cA, rfl, HDW.out.env HDSk.out.ot, HDW.out.eBk HDSk.out.os.new, HDSk.out⟩
          | succ m =>
            obtain ⟨p, hp, hiz⟩ := iz_14 (k := ol.length) (i := m + 1) h14 HNL.out (by omega) (by have := (HP.out.2.2.2 h14).1; omega)
            rw [Nat.add_sub_cancel] at hp
            obtain ⟨p1, p2⟩ := p
            obtain ⟨hj0, ob, oo, hoA, e0, e1⟩ := bd_at HDSk.out.ow hp
            subst hoA
            have z1 : (0 : Int) < ((m + 1 : Nat) : Int) := by omega
            have z2 : wrap64 (((m + 1 : Nat) : Int) - 1) = (m : Int) := by unfold wrap64; omega
            have z3 : wrap64 ((m : Int) + 1 - 1) = (m : Int) := by unfold wrap64; omega
            have z6 : (0 : Int) < (m : Int) + 1 := by omega
            have z4 : (0 : Int) ≤ (m : Int) := by omega
            have z5 : (m : Int) < ((d.ob ol.length).length : Int) := by omega
            clear h14 hp
            have HIZ := Lib.hid (hiz)
            have HMO := Lib.hid (more_any A env env.length cA (p1, p2) wS (HDW.out.env HDSk.out.ot) (by have := HD.out; omega))
            go_wp2_with fail
            refine HMO.out.mono ?_
            rintro e w5 ⟨A5, c5, rfl, hr5, hb5, hA5⟩
            have HR := Lib.hid (And.intro hr5 (And.intro hb5 hA5))
            clear hr5 hb5 hA5 HMO
            go_wp2_with fail
            go_meet
            rw [HIZ.out]
            exact ⟨A5, c5, by simp, HR.out.1, HDSk.out.eBn (Nat.le_refl _) HR.out.2.2, HDSk.out.below HR.out.2.1⟩
        · have q14 : (d.kind == 14) = false := by simpa using h14
          have HIZ9 := iz_0 (d := d) (k := ol.length) (i := k) ⟨h4, h6, h7, .inl h14⟩
          clear h14
          have HIZ := Lib.hid (HIZ9)
          go_wp2_with fail
          go_meet
          rw [HIZ.out, List.append_nil]
          exact ⟨A, cA, rfl, HDW.out.env HDSk.out.ot, HDW.out.eBk HDSk.out.os.new, HDSk.out⟩
      case rest =>
        obtain ⟨A5, c5, hv5, hr5, hb5, hds5⟩ := hcut
        obtain ⟨m5, hm5⟩ : ∃ m, (env ++ d.iz ol.length k).length = m := ⟨_, rfl⟩
        rw [hv5, hm5]
        clear hv5
        have HDS5 := Lib.hid hds5
        have HDP := Lib.hid (show dck.pn = k from numL_pn HDSk.out.os.own HLK.out.2.1 HX.out.2.2.2.2.2.2.2)
        have hln := iz_len d ol.length k
        have hol : olk.length + x.bsN ≤ 4000000 := by
          rw [HLK.out.2.2.1, numL_len, List.length_append]
          have := HM.out; have := HX.out.2.1; omega
        have hdo := (HK.out x HX.out.2.2.2.1 (env ++ d.iz ol.length k) A5 c5 olk sk vk wc (HLO.out _ hds5.os.b) hds5.nr (HTW.out.keep hds5.os.b) hr5 hb5 (by
          intro p hp
          rcases List.mem_append.1 hp with hp | hp
          · exact HEL.out p hp
          · have h2 : p.2 ∈ (d.numD ol.length).boundC k := (List.of_mem_zip hp).2
            have e1 : dck.boundC k = (d.numD ol.length).boundC k := by
              have hb : ∀ q : ExD, q.noL = dC.noL → q.boundC k = dC.boundC k := fun q hq => (boundC_noL q k).symm.trans ((congrArg (fun q => ExD.boundC q k) hq).trans (boundC_noL dC k))
              rw [hb dck HLK.out.1]
              have hv := vd_other (env := env) HNUM.out HDS.out.os.x0.namLen H3.out
              exact hv.2 k
            rw [← e1] at h2
            exact boundC_str hds5.os.inn k p.2 h2) HX.out.2.2.2.2.1 hol (by have := HX.out.2.2.2.2.2.1; have := HD.out; rw [List.length_append]; omega))
        rw [hm5] at hdo
        have HDO := Lib.hid hdo
        have HPN8 := Lib.hid (show (dck.pn + 1) * 128 ≤ 140737488355328 by have := fine_pn HF.out HI.out; have := HDP.out; omega)
        have e7 := (HAT.out _ hds5.ot).c7
        have hAX := HX.out.1.lower (HLO.out _ hds5.os.b)
        rw [HX.out.2.2.2.2.2.2.1] at e7
        obtain ⟨a0, a1, a2, a3, a4, a5, a6, a7⟩ := hAX
        clear hds5 hln hol hr5 hb5 c0 c7 hdo hm5
        go_wp2_with fail
        refine HDO.out.mono ?_
        rintro e w6 ⟨t', v6, rfl, hlk6, hin6, hbl6, hnr6, hfd6, hnew6⟩
        have HK6 := Lib.hid (HDS5.out.kid hnr6 hfd6 hnew6 hin6 hbl6)
        have HT6 := Lib.hid (And.intro hlk6 hin6)
        clear e7 a0 a1 a2 a3 a4 a5 a6 a7 hlk6 hin6 hbl6 hnr6 hfd6 hnew6 HDO
        go_upto_region 47 with fail
        have hb7 : Below w6.heap.size w6 (w6.alloc (.cells #[.int .i64 t'.d.kind, .int .i64 t'.d.at_, .int .i64 t'.d.n, .string (bstr t'.d.s), .string (bstr t'.d.t), .slice t'.d.lA t'.d.ln t'.d.lc, .slice t'.d.nA t'.d.nn t'.d.nc, .slice t'.d.pA t'.d.pn t'.d.pc] 25)) := (Below.refl _ _).alloc (Nat.le_refl _) _
        have HK7 := Lib.hid (HK6.out.1.below hb7)
        have HI7 := Lib.hid (HT6.out.2.lower hb7)
        obtain ⟨a0, a1, a2, a3, a4, a5, a6, a7⟩ := (show t'.d.At (w6.alloc (.cells #[.int .i64 t'.d.kind, .int .i64 t'.d.at_, .int .i64 t'.d.n, .string (bstr t'.d.s), .string (bstr t'.d.t), .slice t'.d.lA t'.d.ln t'.d.lc, .slice t'.d.nA t'.d.nn t'.d.nc, .slice t'.d.pA t'.d.pn t'.d.pc] 25)) w6.heap.size 0 from ex_box w6 t'.d)
        obtain ⟨_, _, _, _, _, _, _, g7⟩ := HK7.out.os.cl.load
        have f7 := HK7.out.os.cl.fz 7
        clear hb7
        generalize w6.alloc (.cells #[.int .i64 t'.d.kind, .int .i64 t'.d.at_, .int .i64 t'.d.n, .string (bstr t'.d.s), .string (bstr t'.d.t), .slice t'.d.lA t'.d.ln t'.d.lc, .slice t'.d.nA t'.d.nn t'.d.nc, .slice t'.d.pA t'.d.pn t'.d.pc] 25) = w7 at *
        obtain ⟨pb6, hpb6⟩ : ∃ pb6, w6.heap.size = pb6 := ⟨_, rfl⟩
        rw [hpb6] at a0 a1 a2 a3 a4 a5 a6 a7 ⊢
        clear hpb6
        go_wp2_with (at_builtin; refine wpList_app elEx _ rfl (.tmp 205) (.tmp 207) rfl (N + 1) (.slice dck.pA dck.pn dck.pc) dck.pn (ts.flatMap Ex.cells) rfl (HK7.out.os.own.alloc _) (some ⟨w7.heap.size, 0, none⟩) 1 1 t'.d.cells rfl (Rd.lit w7 #[.int .i64 t'.d.kind, .int .i64 t'.d.at_, .int .i64 t'.d.n, .string (bstr t'.d.s), .string (bstr t'.d.t), .slice t'.d.lA t'.d.ln t'.d.lc, .slice t'.d.nA t'.d.nn t'.d.nc, .slice t'.d.pA t'.d.pn t'.d.pc] _ rfl) (cells_one t'.d) HPN8.out (by have := HK7.out.size; simp; omega) ?_; intro v8 w8 hown8 hb8 hg8 hat8; obtain ⟨g8, c8, hv8, _, _⟩ := hown8.form (Nat.succ_pos _); rw [hv8] at hown8 hat8 ⊢; clear hv8; have H8 := Lib.hid (HK7.out.push ((Below.refl _ _).alloc (Nat.le_refl _) (.cells #[.int .i64 t'.d.kind, .int .i64 t'.d.at_, .int .i64 t'.d.n, .string (bstr t'.d.s), .string (bstr t'.d.t), .slice t'.d.lA t'.d.ln t'.d.lc, .slice t'.d.nA t'.d.nn t'.d.nc, .slice t'.d.pA t'.d.pn t'.d.pc] 25)) t' HI7.out HK6.out.2 hown8 hg8 hat8); have k8 : w8.heap[gt]? = w7.heap[gt]? := (hg8.block gt (by have := HK7.out.os.cl.lt; simp; omega) (fun e => (HK7.out.os.ownB gt e.symm).2.1 rfl)).trans (Below.heap_alloc w7 _ gt HK7.out.os.cl.lt); have g7' : w8.cell? ⟨gt, 7, none⟩ = some (.slice dck.pA dck.pn dck.pc) := (World.cell?_of_block (a := ⟨gt, 7, none⟩) k8).trans HK7.out.os.cl.load.2.2.2.2.2.2.2; have f7' : w8.frozen? ⟨gt, 7, none⟩ = false := (World.frozen?_of_block (a := ⟨gt, 7, none⟩) k8).trans (HK7.out.os.cl.fz 7); clear hown8 hb8 hg8 hat8 k8)
        go_roundw
        case rel =>
          have hst := numL_step (d := d) (d1 := d.numD ol.length) (env := env) (ol := ol ++ d.bs) HX.out.2.2.1 HX.out.2.2.2.2.2.2.2 (bs1 := d.boundC k) (bs2 := (d.numD ol.length).boundC k) rfl rfl
          rw [show (d.boundC k).zip ((d.numD ol.length).boundC k) = d.iz ol.length k from rfl] at hst
          refine ⟨k + 1, { dck with pA := some ⟨g8, 0, none⟩, pn := dck.pn + 1, pc := c8 }, ts ++ [t'], _, _, v6, by go_num, hlt, HLK.out.1, ?_, ?_, ?_, H8.out⟩
          · have h := HT6.out.1
            rw [HLK.out.2.2.1] at h
            rw [hst]
            exact lkL_snoc HLK.out.2.1 h
          · rw [hst, ← HLK.out.2.2.1]
          · have h := ffU_step d x (l.take k) k (env.map (·.1)) s HX.out.2.2.2.2.2.2.2
            rw [HX.out.2.2.1, ← h, iz_fst HNL.out, HLK.out.2.2.2]
        case measure => simp [intOf] <;> omega
    · have hkp : k = d.pn := by omega
      have hzl : l.take k = l := List.take_of_length_le (by rw [HPN.out]; omega)
      have hlk := HLK.out
      rw [hzl] at hlk
      have HL := Lib.hid hlk
      have z1 : ¬ (k : Int) < (d.pn : Int) := by omega
      obtain ⟨_, _, _, _, _, _, _, c7⟩ := HAT.out _ HDSk.out.ot
      obtain ⟨k0, k1, k2, k3, k4, k5, k6, k7⟩ := HDSk.out.os.cl.load
      obtain ⟨dr, hdr⟩ := HDSk.out.os.rz
      obtain ⟨y0, y1, y2, y3, y4, y5, y6, y7⟩ := hdr.load
      obtain ⟨f0, f1, f2, f3, f4, f5, f6, f7⟩ := hdr.free
      have HDR := Lib.hid hdr
      clear hdr hlk hzl hkp hlt hk
      go_upto_region 48 with fail
      clear z1 c7 hk0
      go_wp2_with fail
      obtain ⟨w9, hw9, hcl9, hk9, _, hb9⟩ := set8 HDR.out dck
      rw [hw9]
      obtain ⟨x0, x1, x2, x3, x4, x5, x6, x7⟩ := hcl9.load
      refine bodyPost_ret (v := .agg dck.arr) (by simp [results, Tryz.results22, go_sem, x0, x1, x2, x3, x4, x5, x6, x7]) rfl ?_
      have hv := vd_other (env := env) HNUM.out HDS.out.os.x0.namLen H3.out
      exact HDSk.out.done HDW.out.hW HDW.out.hN (.mk d l) (lk_all hv.1 HL.out.1 HL.out.2.1) (by simp only [Ex.num]; exact HL.out.2.2.1) (by rw [HL.out.2.2.2]; unfold Ex.firstF; rw [if_neg (fun q => H3.out q.1)]) hk9 hb9
end Go.Proofs.YtaglmmcjhlehjaaGreatDoor

namespace Go.Proofs.YtaglmmcjhlehjaaGreatDoor
open Go.ChangeShapes Go.WideShapes Go.ChangeAt Go.RowKit Go.Sort
set_option linter.unusedVariables false
set_option linter.unusedSimpArgs false

set_option maxRecDepth 100000 in
set_option maxHeartbeats 8000000 in
theorem do_C {u3 u5 u8 u9 u10 u11 u12 u13 u14 u15 u16 u17 u18 u19 u20 u21 u22 u23 u24 u25 u26 u27 u28 u29 u30 u31 u32 u33 u34 u35 u36 u37 u38 u39 u40 u41 u42 u43 u44 u45 u46 u47 u48 u49 u50 u51 u52 u53 u54 u55 u56 u57 u58 u59 u60 u61 u62 u63 u64 u65 u66 u67 u68 u69 u70 u71 u72 u73 u74 u75 u76 u77 u78 u79 u80 u81 u82 u83 u84 u85 u86 u87 u88 u89 u90 u91 u92 u93 u94 u95 u96 u97 u98 u99 u100 u101 u102 u103 u104 u105 u106 u107 u108 u109 u110 u111 u112 u113 u114 u115 u116 u117 u118 u119 u120 u121 u122 u123 u124 u125 u126 u127 u128 u129 u130 u131 u132 u133 u134 u135 u136 u137 u138 u139 u140 u141 u142 u143 u144 u145 u146 u147 u148 u149 u150 u151 u152 u153 u154 u155 u156 u157 u158 u159 u160 u161 u162 u163 u164 u165 u166 u167 u168 u169 u170 u171 u172 u173 u174 u175 u176 u177 u178 u179 u180 u181 u182 u183 u184 u185 u186 u187 u188 u189 u190 u191 u192 u193 u194 u195 u196 u197 u198 u199 u200 u201 u202 u203 u204 u205 u206 u207 u208 u209 u210 : Value} (w0 : World) (d : ExD) (l : List Ex) (N : Nat) (env : List Bd) (A : Option Addr) (cA : Nat) (ol : List Str) (s : Int × Bool) (v : Value) (W w : World) (E r gt : Nat) (hx : DX w0 N W d l env A ol s v w E r gt) (dB : ExD) (v2 : Value) (wc : World) (hnb : NA d ol.length (if d.kind = 14 then vNames d.names.length ol.length else []) dB) (hbd : BD N w v gt r dB (ol ++ d.oB) s (ownL d.oB ol.length) u9 v2 wc) {K K2 : Act → World → Prop} (hK2 : ∀ a w, Code.wp Tryz.prog (hbD 6) (Exit.then K (bodyPost Tryz.prog Tryz.f22 fun e w' => DoR N ol s v env (.mk d l) W e w')) a w → K2 a w) (hK : ∀ a w, Code.wp Tryz.prog (tlD 7) (bodyPost Tryz.prog Tryz.f22 fun e w' => DoR N ol s v env (.mk d l) W e w') a w → K a w) :
    Code.wp Tryz.prog (haD 6) (Exit.then K2 (Exit.then K (bodyPost Tryz.prog Tryz.f22 fun e w' => DoR N ol s v env (.mk d l) W e w'))) ⟨#[.pointer (some ⟨N, 0, none⟩), .agg d.arr, .slice A env.length cA, u3, .pointer (some ⟨E, 0, none⟩), u5, .pointer (some ⟨r, 0, none⟩), .pointer (some ⟨gt, 0, none⟩), u8, u9, u10, u11, u12, u13, u14, u15, u16, u17, u18, u19, u20, u21, u22, u23, u24, u25, u26, u27, u28, u29, u30, u31, u32, u33, u34, u35, u36, u37, u38, u39, u40, u41, u42, u43, u44, u45, u46, u47, u48, u49, u50, u51, u52, u53, u54, u55, u56, u57, u58, u59, u60, u61, u62, u63, u64, u65, u66, u67, u68, u69, u70, u71, u72, u73, u74, u75, u76, u77, u78, u79, u80, u81, u82, u83, u84, u85, u86, u87, u88, u89, u90, u91, u92, u93, u94, u95, u96, u97, u98, u99, u100, u101, u102, u103, u104, u105, u106, u107, u108, u109, u110, u111, u112, u113, u114, u115, u116, u117, u118, u119, u120, u121, u122, u123, u124, u125, u126, u127, u128, u129, u130, u131, u132, u133, u134, u135, u136, u137, u138, u139, u140, u141, u142, u143, u144, u145, u146, u147, u148, u149, u150, u151, u152, u153, u154, u155, u156, u157, u158, u159, u160, u161, u162, u163, u164, u165, u166, u167, u168, u169, u170, u171, u172, u173, u174, u175, u176, u177, u178, u179, u180, u181, u182, u183, u184, u185, u186, u187, u188, u189, u190, u191, u192, u193, u194, u195, u196, u197, u198, u199, u200, u201, u202, u203, u204, u205, u206, u207, u208, u209, u210], []⟩ wc := by
  have HXX := Lib.hid hx
  obtain ⟨w3, hdw⟩ := hx.dw
  have HDW := Lib.hid hdw
  have HI := Lib.hid hx.hI
  have HN := Lib.hid hx.hN
  have HK := Lib.hid hx.hK
  have HB := Lib.hid hx.hb
  have HTW := Lib.hid hx.tw
  have HEL := Lib.hid hx.el
  have HF := Lib.hid hx.hf
  have HM := Lib.hid hx.hm
  have HD := Lib.hid hx.hd
  have H3 := Lib.hid hx.h3
  have HP := Lib.hid (fine_parts hx.hf hx.hI)
  have HLO := Lib.hid (fun (wx : World) (h : Below N w wx) => HB.out.trans ((HDW.out.hW.mono HB.out.size).trans (h.mono HN.out)))
  clear hdw hx
  have HNB := Lib.hid hnb
  have H2 := Lib.hid hbd
  clear hnb hbd
  conv at hK2 => enter [a, w, 1, 2]; whnf
  conv at hK => enter [a, w, 1, 2]; whnf
  conv => arg 2; whnf
  by_cases h7 : d.kind = 7
  · have q7 : (d.kind == 7) = true := by simpa using h7
    have hc : d.kind = 7 ∨ (d.kind = 14 ∧ d.t ≠ []) := .inl h7
    clear h7
    have HBSC := Lib.hid (show d.bs = d.oB ++ [d.t] by rw [bs_C, if_pos hc])
    have HC := Lib.hid hc
    have hll : (ol ++ d.oB).length = ol.length + d.oB.length := by rw [List.length_append]
    have hml : ol.length + d.oB.length + 1 ≤ 4000000 := by
      have h := HM.out
      rw [HBSC.out, List.length_append, List.length_singleton] at h
      omega
    have hnx := bind_any N (ol ++ d.oB) s.1 s.2 v2 d.t wc H2.out.nr (HTW.out.keep H2.out.bs.wo.b) (by rw [hll]; exact hml)
    rw [hll] at hnx
    have HNX := Lib.hid hnx
    have HVL := Lib.hid (vName_len (k := ol.length + d.oB.length) (by omega))
    have HBY := Lib.hid (show ((ownL d.oB ol.length).length + 1) * 32 ≤ 140737488355328 by rw [ownL_len]; omega)
    clear hc hll hml hnx
    obtain ⟨c0, c1, c2, c3, c4, c5, c6, c7⟩ := HDW.out.at_ H2.out.bs.wo.oth
    go_wp2_with fail
    refine HNX.out.mono ?_
    rintro e w5 ⟨rfl, v5, hn5, hk5⟩
    have H5 := Lib.hid (H2.out.bind (s1 := s) hn5 hk5)
    clear c0 c1 c2 c3 c4 c5 c6 c7 hn5 hk5 HNX
    go_upto_region 27 with fail
    have H6 := Lib.hid (H5.out.below ((Below.refl _ _).alloc (Nat.le_refl _) (.cells #[.string (bstr d.t), .string (bstr (vName (ol.length + d.oB.length)))] 85)))
    have p0 : (w5.alloc (.cells #[.string (bstr d.t), .string (bstr (vName (ol.length + d.oB.length)))] 85)).cell? ⟨w5.heap.size, 0, none⟩ = some (.string (bstr d.t)) := cell_new w5 _ _ 0 rfl
    have p1 : (w5.alloc (.cells #[.string (bstr d.t), .string (bstr (vName (ol.length + d.oB.length)))] 85)).cell? ⟨w5.heap.size, 1, none⟩ = some (.string (bstr (vName (ol.length + d.oB.length)))) := cell_new w5 _ _ 1 rfl
    have HPL := Lib.hid (show w5.heap.size < (w5.alloc (.cells #[.string (bstr d.t), .string (bstr (vName (ol.length + d.oB.length)))] 85)).heap.size by simp)
    have HPN := Lib.hid (show some w5.heap.size ≠ u9.ownBlock from fun e => by have := (H5.out.ow.lt _ e.symm).2; omega)
    generalize w5.alloc (.cells #[.string (bstr d.t), .string (bstr (vName (ol.length + d.oB.length)))] 85) = w6 at *
    obtain ⟨pb, hpb⟩ : ∃ pb, w5.heap.size = pb := ⟨_, rfl⟩
    rw [hpb] at p0 p1 HPL HPN ⊢
    clear hpb
    have HP1 := Lib.hid p1
    go_upto_region 28 with (at_builtin; refine wpList_app elBd _ rfl (.tmp 138) (.tmp 140) rfl (N + 1) u9 (ownL d.oB ol.length).length _ rfl (H6.out.ow.alloc _) (some ⟨w6.heap.size, 0, none⟩) 1 1 (bd2 (d.t, (vName (ol.length + d.oB.length)))) rfl (Rd.lit w6 #[.string (bstr d.t), .string (bstr (vName (ol.length + d.oB.length)))] _ rfl) (bd_one (d.t, (vName (ol.length + d.oB.length)))) HBY.out (by have := H6.out.nr.o.lt; simp; omega) ?_; intro v7 w7 hown7 hb7 hg7 hat7; have H7 := Lib.hid (H6.out.row (p := (d.t, (vName (ol.length + d.oB.length)))) ((Below.refl _ _).alloc (Nat.le_refl _) _) hown7 hg7 hat7); have q1 : w7.cell? ⟨pb, 1, none⟩ = some (.string (bstr (vName (ol.length + d.oB.length)))) := (World.cell?_of_block (a := ⟨pb, 1, none⟩) ((hg7.block pb (by have := HPL.out; simp; omega) HPN.out).trans (Below.heap_alloc w6 _ pb HPL.out))).trans HP1.out; clear hown7 hb7 hg7 hat7)
    clear p0 p1 HP1
    have k4 := H7.out.bs.cl.load.2.2.2.2.1
    have z4 := H7.out.bs.cl.fz 4
    go_upto_region 29 with fail
    have hnumC : NumD d ol.length { dB with t := vName (ol.length + d.oB.length) } := by
      have h := HNB.out
      refine ⟨h.kind, h.at_, h.n, h.labels, h.s, ?_, h.names⟩
      show vName (ol.length + d.oB.length) = _
      rcases HC.out with h7 | ⟨h14, ht⟩
      · rw [if_pos h7]
        have : d.oB.length = 1 := by unfold ExD.oB ExD.oA; rw [if_pos (.inr (.inr h7)), if_neg (by omega)]; rfl
        rw [this]
      · rw [if_neg (by omega), if_pos ⟨h14, ht⟩]
        have : d.oB.length = d.names.length := by unfold ExD.oB ExD.oA; rw [if_neg (by omega), if_pos h14]; rfl
        rw [this]
    have hbdC : BD N w v gt r { dB with t := vName (ol.length + d.oB.length) } (ol ++ d.bs) s (d.ob ol.length) v7 v5 (w7.setCell ⟨gt, 4, none⟩ (.string (bstr (vName (ol.length + d.oB.length))))) := by
      have h := H7.out.setT (vName (ol.length + d.oB.length)) HVL.out
      show BD N w v gt r _ _ s (ownL d.bs ol.length) _ _ _
      rw [HBSC.out, ownL_snoc, ← List.append_assoc]
      exact h
    obtain ⟨oA, oc, hoV, hds⟩ := hbdC.ds
    rw [hoV]
    exact do_loop w0 d l N env A cA ol s v W w E r gt HXX.out oA oc _ v5 _ hnumC hds (by assumption) (by assumption)
  have q7 : (d.kind == 7) = false := by simpa using h7
  by_cases h14 : d.kind = 14
  · have q14 : (d.kind == 14) = true := by simpa using h14
    by_cases ht : d.t = []
    · have p4 : (bstr d.t).toList.isEmpty = true := by rw [ht, bstr_toList]; rfl
      have p5 : (!(bstr d.t).toList.isEmpty) = false := by rw [p4]; rfl
      have hc : ¬ (d.kind = 7 ∨ (d.kind = 14 ∧ d.t ≠ [])) := fun q => q.elim h7 (fun q => q.2 ht)
      clear h7 h14 ht
      have HR := Lib.hid (show NumD d ol.length dB ∧ BD N w v gt r dB (ol ++ d.bs) s (d.ob ol.length) u9 v2 wc by
        have hb : d.bs = d.oB := by rw [bs_C, if_neg hc, List.append_nil]
        refine ⟨?_, ?_⟩
        · have h := HNB.out
          exact ⟨h.kind, h.at_, h.n, h.labels, h.s, by rw [if_neg (fun q => hc (.inl q)), if_neg (fun q => hc (.inr q))]; exact h.t, h.names⟩
        · show BD N w v gt r _ _ s (ownL d.bs ol.length) _ _ _
          rw [hb]; exact H2.out)
      clear hc
      obtain ⟨c0, _, _, _, c4, _, _, _⟩ := HDW.out.at_ H2.out.bs.wo.oth
      go_upto_region 29 with fail
      obtain ⟨oA, oc, hoV, hds⟩ := HR.out.2.ds
      rw [hoV]
      exact do_loop w0 d l N env A cA ol s v W w E r gt HXX.out oA oc dB v2 _ HR.out.1 hds (by assumption) (by assumption)
    · have p4 : (bstr d.t).toList.isEmpty = false := str_empty ht
      have p5 : (!(bstr d.t).toList.isEmpty) = true := by rw [p4]; rfl
      have hc : d.kind = 7 ∨ (d.kind = 14 ∧ d.t ≠ []) := .inr ⟨h14, ht⟩
      clear h7 h14 ht
      have HBSC := Lib.hid (show d.bs = d.oB ++ [d.t] by rw [bs_C, if_pos hc])
      have HC := Lib.hid hc
      have hll : (ol ++ d.oB).length = ol.length + d.oB.length := by rw [List.length_append]
      have hml : ol.length + d.oB.length + 1 ≤ 4000000 := by
        have h := HM.out
        rw [HBSC.out, List.length_append, List.length_singleton] at h
        omega
      have hnx := bind_any N (ol ++ d.oB) s.1 s.2 v2 d.t wc H2.out.nr (HTW.out.keep H2.out.bs.wo.b) (by rw [hll]; exact hml)
      rw [hll] at hnx
      have HNX := Lib.hid hnx
      have HVL := Lib.hid (vName_len (k := ol.length + d.oB.length) (by omega))
      have HBY := Lib.hid (show ((ownL d.oB ol.length).length + 1) * 32 ≤ 140737488355328 by rw [ownL_len]; omega)
      clear hc hll hml hnx
      obtain ⟨c0, c1, c2, c3, c4, c5, c6, c7⟩ := HDW.out.at_ H2.out.bs.wo.oth
      go_wp2_with fail
      refine HNX.out.mono ?_
      rintro e w5 ⟨rfl, v5, hn5, hk5⟩
      have H5 := Lib.hid (H2.out.bind (s1 := s) hn5 hk5)
      clear c0 c1 c2 c3 c4 c5 c6 c7 hn5 hk5 HNX
      go_upto_region 27 with fail
      have H6 := Lib.hid (H5.out.below ((Below.refl _ _).alloc (Nat.le_refl _) (.cells #[.string (bstr d.t), .string (bstr (vName (ol.length + d.oB.length)))] 85)))
      have p0 : (w5.alloc (.cells #[.string (bstr d.t), .string (bstr (vName (ol.length + d.oB.length)))] 85)).cell? ⟨w5.heap.size, 0, none⟩ = some (.string (bstr d.t)) := cell_new w5 _ _ 0 rfl
      have p1 : (w5.alloc (.cells #[.string (bstr d.t), .string (bstr (vName (ol.length + d.oB.length)))] 85)).cell? ⟨w5.heap.size, 1, none⟩ = some (.string (bstr (vName (ol.length + d.oB.length)))) := cell_new w5 _ _ 1 rfl
      have HPL := Lib.hid (show w5.heap.size < (w5.alloc (.cells #[.string (bstr d.t), .string (bstr (vName (ol.length + d.oB.length)))] 85)).heap.size by simp)
      have HPN := Lib.hid (show some w5.heap.size ≠ u9.ownBlock from fun e => by have := (H5.out.ow.lt _ e.symm).2; omega)
      generalize w5.alloc (.cells #[.string (bstr d.t), .string (bstr (vName (ol.length + d.oB.length)))] 85) = w6 at *
      obtain ⟨pb, hpb⟩ : ∃ pb, w5.heap.size = pb := ⟨_, rfl⟩
      rw [hpb] at p0 p1 HPL HPN ⊢
      clear hpb
      have HP1 := Lib.hid p1
      go_upto_region 28 with (at_builtin; refine wpList_app elBd _ rfl (.tmp 138) (.tmp 140) rfl (N + 1) u9 (ownL d.oB ol.length).length _ rfl (H6.out.ow.alloc _) (some ⟨w6.heap.size, 0, none⟩) 1 1 (bd2 (d.t, (vName (ol.length + d.oB.length)))) rfl (Rd.lit w6 #[.string (bstr d.t), .string (bstr (vName (ol.length + d.oB.length)))] _ rfl) (bd_one (d.t, (vName (ol.length + d.oB.length)))) HBY.out (by have := H6.out.nr.o.lt; simp; omega) ?_; intro v7 w7 hown7 hb7 hg7 hat7; have H7 := Lib.hid (H6.out.row (p := (d.t, (vName (ol.length + d.oB.length)))) ((Below.refl _ _).alloc (Nat.le_refl _) _) hown7 hg7 hat7); have q1 : w7.cell? ⟨pb, 1, none⟩ = some (.string (bstr (vName (ol.length + d.oB.length)))) := (World.cell?_of_block (a := ⟨pb, 1, none⟩) ((hg7.block pb (by have := HPL.out; simp; omega) HPN.out).trans (Below.heap_alloc w6 _ pb HPL.out))).trans HP1.out; clear hown7 hb7 hg7 hat7)
      clear p0 p1 HP1
      have k4 := H7.out.bs.cl.load.2.2.2.2.1
      have z4 := H7.out.bs.cl.fz 4
      go_upto_region 29 with fail
      have hnumC : NumD d ol.length { dB with t := vName (ol.length + d.oB.length) } := by
        have h := HNB.out
        refine ⟨h.kind, h.at_, h.n, h.labels, h.s, ?_, h.names⟩
        show vName (ol.length + d.oB.length) = _
        rcases HC.out with h7 | ⟨h14, ht⟩
        · rw [if_pos h7]
          have : d.oB.length = 1 := by unfold ExD.oB ExD.oA; rw [if_pos (.inr (.inr h7)), if_neg (by omega)]; rfl
          rw [this]
        · rw [if_neg (by omega), if_pos ⟨h14, ht⟩]
          have : d.oB.length = d.names.length := by unfold ExD.oB ExD.oA; rw [if_neg (by omega), if_pos h14]; rfl
          rw [this]
      have hbdC : BD N w v gt r { dB with t := vName (ol.length + d.oB.length) } (ol ++ d.bs) s (d.ob ol.length) v7 v5 (w7.setCell ⟨gt, 4, none⟩ (.string (bstr (vName (ol.length + d.oB.length))))) := by
        have h := H7.out.setT (vName (ol.length + d.oB.length)) HVL.out
        show BD N w v gt r _ _ s (ownL d.bs ol.length) _ _ _
        rw [HBSC.out, ownL_snoc, ← List.append_assoc]
        exact h
      obtain ⟨oA, oc, hoV, hds⟩ := hbdC.ds
      rw [hoV]
      exact do_loop w0 d l N env A cA ol s v W w E r gt HXX.out oA oc _ v5 _ hnumC hds (by assumption) (by assumption)
  · have q14 : (d.kind == 14) = false := by simpa using h14
    have hc : ¬ (d.kind = 7 ∨ (d.kind = 14 ∧ d.t ≠ [])) := fun q => q.elim h7 (fun q => h14 q.1)
    clear h7 h14
    have HR := Lib.hid (show NumD d ol.length dB ∧ BD N w v gt r dB (ol ++ d.bs) s (d.ob ol.length) u9 v2 wc by
      have hb : d.bs = d.oB := by rw [bs_C, if_neg hc, List.append_nil]
      refine ⟨?_, ?_⟩
      · have h := HNB.out
        exact ⟨h.kind, h.at_, h.n, h.labels, h.s, by rw [if_neg (fun q => hc (.inl q)), if_neg (fun q => hc (.inr q))]; exact h.t, h.names⟩
      · show BD N w v gt r _ _ s (ownL d.bs ol.length) _ _ _
        rw [hb]; exact H2.out)
    clear hc
    obtain ⟨c0, _, _, _, c4, _, _, _⟩ := HDW.out.at_ H2.out.bs.wo.oth
    go_upto_region 29 with fail
    obtain ⟨oA, oc, hoV, hds⟩ := HR.out.2.ds
    rw [hoV]
    exact do_loop w0 d l N env A cA ol s v W w E r gt HXX.out oA oc dB v2 _ HR.out.1 hds (by assumption) (by assumption)
end Go.Proofs.YtaglmmcjhlehjaaGreatDoor
