/-
  The document's functions of an expression: a function is put behind the others.
-/
import Derived.Test.YtpnihimoekkepaaCoBK
namespace Go.Proofs.Ytpnihimoekkepaa
open Go.ChangeShapes Go.WideShapes Go.ChangeAt Go.RowKit Go.Sort Go.Maps
set_option linter.unusedVariables false
set_option linter.unusedSimpArgs false

theorem f9_ones (s1 t1 : Str) (CA : Option Addr) (n cc : Nat) : ∀ u ∈ ([.string (bstr s1), .string (bstr t1), .slice CA n cc, .int .i64 0, .int .i64 0, .string ⟨#[]⟩, .string ⟨#[]⟩, .slice none 0 0, .slice none 0 0] : List Value), u.oneCell' = true := by
  intro u hu
  simp only [List.mem_cons, List.not_mem_nil, or_false] at hu
  rcases hu with rfl | rfl | rfl | rfl | rfl | rfl | rfl | rfl | rfl <;> rfl
/-- The function that is put behind the others, as yet without a part. -/
abbrev fuZ (s1 t1 : Str) (CA : Option Addr) (cc : Nat) (cl : List Str) : Fu := ⟨s1, t1, CA, cl.length, cc, cl, zeroE⟩
section
variable {s0 : Nat} {W : World} {p g n0 : Nat} {v0 : Value} {cs0 : List Value} {d e : ExD} {s1 t1 : Str} {FA : Option Addr} {ss : List Str} {CA : Option Addr} {cc : Nat} {cl : List Str} {wr wy w4 : World} {v4 : Value} {l : List Ex}
theorem WS.start_fn (h0 : CpS W g d e s1 t1 FA ss (.slice CA cl.length cc) cl wr) (hcl : cl.length ≤ 4000000) (hcw : CW W p v0 n0 cs0) (hp : s0 < p ∧ p < W.heap.size) (hn : 1 ≤ n0) (hy : Below wr.heap.size wr wy) (hown : w4.ownsRow (p - 1) 37 9 v4 (n0 + 1) (cs0 ++ ([.string (bstr s1), .string (bstr t1), .slice CA cl.length cc, .int .i64 0, .int .i64 0, .string ⟨#[]⟩, .string ⟨#[]⟩, .slice none 0 0, .slice none 0 0] : List Value))) (hg4 : wy.grownBy w4 v0.ownBlock) (ho : v4.ownBlock = v0.ownBlock ∨ v4.ownBlock = some wy.heap.size) :
    WS s0 W p v0 g d e (cs0 ++ (fuZ s1 t1 CA cc cl).cells) (n0 + 1) [fuZ s1 t1 CA cc cl] l 0 [] (.slice none 0 0) v4 [] (w4.setCell ⟨p, 0, none⟩ v4) := by
  have h := h0.below hy
  have hg := h.hg
  have hW : W.heap.size ≤ wy.heap.size := h.b.size
  have hv0 : ∀ q, v0.ownBlock = some q → q ≠ p ∧ q < W.heap.size := fun q hq => ⟨fun e => hcw.np (by rw [hq, e]), (hcw.own.lt q hq).2⟩
  have hgl := lt_of_heap h.fb
  have hset : ∀ b, b ≠ p → (w4.setCell ⟨p, 0, none⟩ v4).heap[b]? = w4.heap[b]? := fun b hb => Below.heap_setCell w4 ⟨p, 0, none⟩ v4 b hb
  have hk : ∀ b, b < wy.heap.size → b ≠ p → some b ≠ v0.ownBlock → (w4.setCell ⟨p, 0, none⟩ v4).heap[b]? = wy.heap[b]? := fun b h1 h2 h3 => (hset b h2).trans (hg4.block b h1 h3)
  have hnew : ∀ b, W.heap.size ≤ b → b < wy.heap.size → (w4.setCell ⟨p, 0, none⟩ v4).heap[b]? = wy.heap[b]? := fun b h1 h2 => hk b h2 (by omega) (fun e => by have := (hv0 b e.symm).2; omega)
  have hv4 : ∀ b, W.heap.size ≤ b → b < wy.heap.size → some b ≠ v4.ownBlock := fun b h1 h2 e => by
    rcases ho with k | k
    · rw [k] at e; have := (hv0 b e.symm).2; omega
    · rw [k] at e; injection e with e; omega
  have hnp : v4.ownBlock ≠ some p := fun e => by
    rcases ho with k | k
    · rw [k] at e; exact hcw.np e
    · rw [k] at e; injection e with e; omega
  obtain ⟨A2, c2, e2, hc1, hc2, _⟩ := own_cap h.own
  injection e2 with e3 _ e4
  subst e3
  subst e4
  refine ⟨World.ownsRow_nil _ _ _ _, rfl, trivial, trivial, ⟨?_, ?_, ?_⟩, (fun y hy => by cases hy), (fun f hf => by cases hf), fun f hf => ?_, (hnew g (by omega) (by omega)).trans h.hd, (hnew _ (by omega) (by omega)).trans h.rs, (hnew _ (by omega) (by omega)).trans h.bx, ⟨hg4.os.trans h.b.os, hg4.tape.trans h.b.tape, hg4.output.trans h.b.output, by rw [World.size_setCell]; exact Nat.le_trans hW hg4.size, fun b h1 h2 h3 => (hk b (by omega) h2 h3).trans (h.b.block b h1), ?_⟩, hg, hp, by omega, (fun q hq => by cases hq), fun e => hv4 g (by omega) (by omega) e.symm, fun e => hv4 _ (by omega) (by omega) e.symm, fun e => hv4 _ (by omega) (by omega) e.symm⟩
  · have hpb : w4.heap[p]? = some (.cells #[v0] 54) := (hg4.block p (by omega) (fun e => (hv0 p e.symm).1 rfl)).trans ((h.b.block p hp.2).trans hcw.c)
    simp [World.setCell, Array.getElem?_modify, hpb]
  · have h9 : cs0 ++ (fuZ s1 t1 CA cc cl).cells ++ ([] : List Fu).flatMap Fu.cells = cs0 ++ [.string (bstr s1), .string (bstr t1), .slice CA cl.length cc, .int .i64 0, .int .i64 0, .string ⟨#[]⟩, .string ⟨#[]⟩, .slice none 0 0, .slice none 0 0] := by rw [List.flatMap_nil, List.append_nil]; rfl
    rw [h9]
    exact own_keep hown (fun b hb hl => hset b (fun e => hnp (by rw [hb, e])))
  · exact hnp
  · rw [List.mem_singleton] at hf
    subst hf
    have hcb : ∀ a, CA = some a → g + 2 ≤ a.block ∧ a.block < wy.heap.size := fun a ha => h.own.lt a.block (by rw [ha]; rfl)
    refine ⟨⟨rd_keepP (P := fun b => W.heap.size ≤ b ∧ b < wy.heap.size) (Rd.of_own h.own) (fun _ a ha => ⟨by have := hcb a ha; omega, (hcb a ha).2⟩) (fun b hb _ => hnew b hb.1 hb.2), ⟨hc1, hc2, hcl⟩, zeroE_in _⟩, ⟨fun _ a ha => ⟨⟨.inr (by have := hcb a ha; omega), fun e => hv4 a.block (by have := hcb a ha; omega) (hcb a ha).2 e⟩, fun e => by cases e⟩, zeroE_bl _⟩⟩
  · rcases ho with k | k
    · exact .inl k
    · exact .inr ⟨_, k, hW⟩
end

set_option maxRecDepth 100000 in
set_option maxHeartbeats 4000000 in
theorem walk_push {u2 u10 u11 u12 u13 u14 u15 u16 u17 u18 u19 u20 u21 u22 u23 u24 u25 u26 u27 u28 u29 u30 u31 u32 u33 u34 u35 u36 u37 u38 u39 u40 u41 u42 u43 u44 u45 u46 u47 u48 u49 u50 u51 u52 u53 u54 u55 u56 u57 u58 u59 u60 u61 u62 u63 u64 u65 u66 u67 u68 u69 u70 u71 u72 u73 u74 u75 u76 u77 u78 u79 u80 u81 u82 u83 u84 u85 u86 u87 u88 u89 u90 u91 u92 u93 u94 u95 u96 u97 u98 u99 u100 u101 u102 u103 u104 u105 u106 u107 u108 u109 u110 u111 u112 u113 u114 u115 u116 u117 u118 u119 u120 u121 u122 u123 u124 u125 u126 u127 u128 u129 u130 u131 u132 u133 u134 u135 u136 : Value} (s0 : Nat) (W wr : World) (p g n0 : Nat) (v0 : Value) (cs0 : List Value) (d e : ExD) (l : List Ex) (s1 t1 : Str) (FA : Option Addr) (fc : Nat) (ss : List Str) (CA : Option Addr) (cc : Nat) (cl : List Str) (hcl : cl.length ≤ 4000000) (hcw : CW W p v0 n0 cs0) (hp : s0 < p ∧ p < W.heap.size) (hn : 1 ≤ n0) (hn4 : n0 ≤ 4000000)
    (hs : CpS W g d e s1 t1 FA ss (.slice CA cl.length cc) cl wr)
    {K9 : Act → World → Prop} {R : Ending → World → Prop} (hK : ∀ a w, Code.wp Try.prog (tlW 5) (bodyPost Try.prog Try.f22 R) a w → K9 a w)
    (hend : ∀ (u2 u7 u8 u9 u10 u11 u12 u13 u14 u15 u16 u17 u18 u19 u20 u21 u22 u23 u24 u25 u26 u27 u28 u29 u30 u31 u32 u33 u34 u35 u36 u37 u38 u39 u40 u41 u42 u43 u44 u45 u46 u47 u48 u49 u50 u51 u52 u53 u54 u55 u56 u57 u58 u59 u60 u61 u62 u63 u64 u65 u66 u67 u68 u69 u70 u71 u72 u73 u74 u75 u76 u77 u78 u79 u80 u81 u82 u83 u84 u85 u86 u87 u88 u89 u90 u91 u92 u93 u94 u95 u96 u97 u98 u99 u100 u101 u102 u103 u104 u105 u106 u107 u108 u109 u110 u111 u112 u113 u114 u115 u116 u117 u118 u119 u120 u121 u122 u123 u124 u125 u126 u127 u128 u129 u130 u131 u132 u133 u134 u135 u136 : Value) (v4 : Value) (V : World), WS s0 W p v0 g d e (cs0 ++ (fuZ s1 t1 CA cc cl).cells) (n0 + 1) [fuZ s1 t1 CA cc cl] l 0 [] (.slice none 0 0) v4 [] V → Code.wp Try.prog (tlW 5) (bodyPost Try.prog Try.f22 R) ⟨#[.pointer (some ⟨p, 0, none⟩), .agg #[.int .i64 d.kind, .int .i64 d.n, .string (bstr d.s), .string (bstr d.t), .slice d.nA d.nn d.nc, .slice d.pA d.pn d.pc], u2, .pointer (some ⟨W.heap.size, 0, none⟩), .pointer (some ⟨W.heap.size + 1, 0, none⟩), .pointer (some ⟨g, 0, none⟩), .int .i64 (n0 : Int), u7, u8, u9, u10, u11, u12, u13, u14, u15, u16, u17, u18, u19, u20, u21, u22, u23, u24, u25, u26, u27, u28, u29, u30, u31, u32, u33, u34, u35, u36, u37, u38, u39, u40, u41, u42, u43, u44, u45, u46, u47, u48, u49, u50, u51, u52, u53, u54, u55, u56, u57, u58, u59, u60, u61, u62, u63, u64, u65, u66, u67, u68, u69, u70, u71, u72, u73, u74, u75, u76, u77, u78, u79, u80, u81, u82, u83, u84, u85, u86, u87, u88, u89, u90, u91, u92, u93, u94, u95, u96, u97, u98, u99, u100, u101, u102, u103, u104, u105, u106, u107, u108, u109, u110, u111, u112, u113, u114, u115, u116, u117, u118, u119, u120, u121, u122, u123, u124, u125, u126, u127, u128, u129, u130, u131, u132, u133, u134, u135, u136], []⟩ V) :
    Code.wp Try.prog (tlA 7) (Exit.then K9 (bodyPost Try.prog Try.f22 R)) ⟨#[.pointer (some ⟨p, 0, none⟩), .agg #[.int .i64 d.kind, .int .i64 d.n, .string (bstr d.s), .string (bstr d.t), .slice d.nA d.nn d.nc, .slice d.pA d.pn d.pc], u2, .pointer (some ⟨W.heap.size, 0, none⟩), .pointer (some ⟨W.heap.size + 1, 0, none⟩), .pointer (some ⟨g, 0, none⟩), .int .i64 (n0 : Int), .pointer (some ⟨g + 1, 0, none⟩), .pointer (some ⟨g + 2, 0, none⟩), .slice FA ss.length fc, u10, u11, u12, u13, u14, u15, u16, u17, u18, u19, u20, u21, u22, u23, u24, u25, u26, u27, u28, u29, u30, u31, u32, u33, u34, u35, u36, u37, u38, u39, u40, u41, u42, u43, u44, u45, u46, u47, u48, u49, u50, u51, u52, u53, u54, u55, u56, u57, u58, u59, u60, u61, u62, u63, u64, u65, u66, u67, u68, u69, u70, u71, u72, u73, u74, u75, u76, u77, u78, u79, u80, u81, u82, u83, u84, u85, u86, u87, u88, u89, u90, u91, u92, u93, u94, u95, u96, u97, u98, u99, u100, u101, u102, u103, u104, u105, u106, u107, u108, u109, u110, u111, u112, u113, u114, u115, u116, u117, u118, u119, u120, u121, u122, u123, u124, u125, u126, u127, u128, u129, u130, u131, u132, u133, u134, u135, u136], []⟩ wr := by
  obtain ⟨m0, rfl⟩ : ∃ m0, n0 = m0 + 1 := ⟨n0 - 1, by omega⟩
  obtain ⟨q0, c0, rfl⟩ := own_some hcw.own
  have hcwr := hcw.below hs.b
  have hb0 : Below wr.heap.size wr (wr.alloc (.cells #[.string (bstr s1), .string (bstr t1), .slice CA cl.length cc, .int .i64 0, .int .i64 0, .string ⟨#[]⟩, .string ⟨#[]⟩, .slice none 0 0, .slice none 0 0] 37)) := (Below.refl _ _).alloc (Nat.le_refl _) _
  have HBA := Lib.hid (show Below wr.heap.size wr ((wr.alloc (.cells #[.string (bstr s1), .string (bstr t1), .slice CA cl.length cc, .int .i64 0, .int .i64 0, .string ⟨#[]⟩, .string ⟨#[]⟩, .slice none 0 0, .slice none 0 0] 37)).drew) from below_then hb0 (below_drew1 _))
  have cp : wr.cell? ⟨p, 0, none⟩ = some (.slice (some ⟨q0, 0, none⟩) (m0 + 1) c0) := by rw [Lib.cell_of_heap hcwr.c]; rfl
  obtain ⟨k0, k1, k2, k3, k4, k5, k6, k7, k8⟩ := cells9 hs.fb
  have cpa := cell_below hb0 cp
  have a0 := cell_below hb0 k0
  have a1 := cell_below hb0 k1
  have a2 := cell_below hb0 k2
  have a3 := cell_below hb0 k3
  have a4 := cell_below hb0 k4
  have a5 := cell_below hb0 k5
  have a6 := cell_below hb0 k6
  have a7 := cell_below hb0 k7
  have a8 := cell_below hb0 k8
  have HCA := Lib.hid (hcwr.below HBA.out)
  have HOA := Lib.hid HCA.out.own
  have HRD := Lib.hid (show Rd ((wr.alloc (.cells #[.string (bstr s1), .string (bstr t1), .slice CA cl.length cc, .int .i64 0, .int .i64 0, .string ⟨#[]⟩, .string ⟨#[]⟩, .slice none 0 0, .slice none 0 0] 37)).drew) 9 (some ⟨wr.heap.size, 0, none⟩) 1 (#[.string (bstr s1), .string (bstr t1), .slice CA cl.length cc, .int .i64 0, .int .i64 0, .string ⟨#[]⟩, .string ⟨#[]⟩, .slice none 0 0, .slice none 0 0] : Array Value).toList from (Rd.lit (size := 9) (n := 1) wr (#[.string (bstr s1), .string (bstr t1), .slice CA cl.length cc, .int .i64 0, .int .i64 0, .string ⟨#[]⟩, .string ⟨#[]⟩, .slice none 0 0, .slice none 0 0] : Array Value) 37 rfl (fr := (0, 0))).below (below_drew1 _))
  have HBY := Lib.hid (show (m0 + 1 + 1) * 152 ≤ 140737488355328 by omega)
  have HSZ := Lib.hid (show p - 1 ≤ ((wr.alloc (.cells #[.string (bstr s1), .string (bstr t1), .slice CA cl.length cc, .int .i64 0, .int .i64 0, .string ⟨#[]⟩, .string ⟨#[]⟩, .slice none 0 0, .slice none 0 0] 37)).drew).heap.size by have := HBA.out.size; have := hs.b.size; omega)
  have HWS := Lib.hid (fun (w4 : World) (v4 : Value) a b c => WS.start_fn (s0 := s0) (l := l) (w4 := w4) (v4 := v4) hs hcl hcw hp hn HBA.out a b c)
  have HK := Lib.hid hK
  have HEND := Lib.hid hend
  clear hb0 hcwr hs hcw hp hn hK hend hcl
  conv => arg 2; whnf
  go_upto_region 21 with fail
  go_region_law ((refine step_app elFun ((wr.alloc (.cells #[.string (bstr s1), .string (bstr t1), .slice CA cl.length cc, .int .i64 0, .int .i64 0, .string ⟨#[]⟩, .string ⟨#[]⟩, .slice none 0 0, .slice none 0 0] 37)).drew) (by rfl) (.tmp 91) (.tmp 93) (by rfl) (p - 1) (.slice (some ⟨q0, 0, none⟩) (m0 + 1) c0) (m0 + 1) _ (by rfl) HOA.out (some ⟨wr.heap.size, 0, none⟩) 1 1 _ (by rfl) HRD.out (f9_ones s1 t1 CA cl.length cc) HBY.out HSZ.out ?_; intro v4 w4 hown4 hg4 ho4; obtain ⟨q6, c6, rfl⟩ := own_some hown4; have hf4 := (hg4.block p (lt_of_heap HCA.out.c) (fun e => HCA.out.np e.symm)).trans HCA.out.c; have e2 : w4.cell? ⟨p, 0, none⟩ = some (.slice (some ⟨q0, 0, none⟩) (m0 + 1) c0) := (by rw [Lib.cell_of_heap hf4]; rfl); have f2 := frozen9 hf4 0; have H4 := Lib.hid (And.intro hown4 (And.intro hg4 ho4)); clear hown4 hg4 ho4 hf4))
  all_goals
    refine then_k HK.out ?_
    exact HEND.out _ _ _ _ _ _ _ _ _ _ _ _ _ _ _ _ _ _ _ _ _ _ _ _ _ _ _ _ _ _ _ _ _ _ _ _ _ _ _ _ _ _ _ _ _ _ _ _ _ _ _ _ _ _ _ _ _ _ _ _ _ _ _ _ _ _ _ _ _ _ _ _ _ _ _ _ _ _ _ _ _ _ _ _ _ _ _ _ _ _ _ _ _ _ _ _ _ _ _ _ _ _ _ _ _ _ _ _ _ _ _ _ _ _ _ _ _ _ _ _ _ _ _ _ _ _ _ _ _ _ _ _ _ (HWS.out _ _ H4.out.1 H4.out.2.1 H4.out.2.2)
end Go.Proofs.Ytpnihimoekkepaa
