/-
  The document's functions of an expression, walked.
-/
import Derived.Test.YtpnihimoekkepaaCoBL
namespace Go.Proofs.Ytpnihimoekkepaa
open Go.ChangeShapes Go.WideShapes Go.ChangeAt Go.RowKit Go.Sort Go.Maps
set_option linter.unusedVariables false
set_option linter.unusedSimpArgs false

theorem tlW5 : tlW 5 = .seq (hdW 5) (tlW 6) := by kernel_rfl
theorem from5_no {u2 u7 u8 u9 u10 u11 u12 u13 u14 u15 u16 u17 u18 u19 u20 u21 u22 u23 u24 u25 u26 u27 u28 u29 u30 u31 u32 u33 u34 u35 u36 u37 u38 u39 u40 u41 u42 u43 u44 u45 u46 u47 u48 u49 u50 u51 u52 u53 u54 u55 u56 u57 u58 u59 u60 u61 u62 u63 u64 u65 u66 u67 u68 u69 u70 u71 u72 u73 u74 u75 u76 u77 u78 u79 u80 u81 u82 u83 u84 u85 u86 u87 u88 u89 u90 u91 u92 u93 u94 u95 u96 u97 u98 u99 u100 u101 u102 u103 u104 u105 u106 u107 u108 u109 u110 u111 u112 u113 u114 u115 u116 u117 u118 u119 u120 u121 u122 u123 u124 u125 u126 u127 u128 u129 u130 u131 u132 u133 u134 u135 u136 : Value} (w0 W w5 : World) (p g n0 : Nat) (d : ExD) (l : List Ex) (cs0 : List Value) (v0 v5 : Value) (hI : (Ex.mk d l).In w0) (hb : Below w0.heap.size w0 W) (hv0 : ∀ q, v0.ownBlock = some q → w0.heap.size ≤ q) (hX : ∀ x ∈ l, ∀ (v : Value) (n : Nat) (cs : List Value) (V : World), Below w0.heap.size w0 V → CW V p v n cs → 1 ≤ n → n + x.cnt ≤ 4000000 → Calls Try.prog 22 #[.pointer (some ⟨p, 0, none⟩), .agg x.d.arr] V (WkR w0.heap.size x p v n cs V)) (hf : ¬ (d.kind = 4 ∨ d.kind = 7)) (hcnt : n0 + cntL l ≤ 4000000)
    (hws : WS w0.heap.size W p v0 g d (d.numD (n0 - 1)) cs0 n0 [] l 0 [] (.slice none 0 0) v5 [] w5) : Code.wp Try.prog (tlW 5) (bodyPost Try.prog Try.f22 (WkR w0.heap.size (.mk d l) p v0 n0 cs0 W)) ⟨#[.pointer (some ⟨p, 0, none⟩), .agg #[.int .i64 d.kind, .int .i64 d.n, .string (bstr d.s), .string (bstr d.t), .slice d.nA d.nn d.nc, .slice d.pA d.pn d.pc], u2, .pointer (some ⟨W.heap.size, 0, none⟩), .pointer (some ⟨W.heap.size + 1, 0, none⟩), .pointer (some ⟨g, 0, none⟩), .int .i64 (-1), u7, u8, u9, u10, u11, u12, u13, u14, u15, u16, u17, u18, u19, u20, u21, u22, u23, u24, u25, u26, u27, u28, u29, u30, u31, u32, u33, u34, u35, u36, u37, u38, u39, u40, u41, u42, u43, u44, u45, u46, u47, u48, u49, u50, u51, u52, u53, u54, u55, u56, u57, u58, u59, u60, u61, u62, u63, u64, u65, u66, u67, u68, u69, u70, u71, u72, u73, u74, u75, u76, u77, u78, u79, u80, u81, u82, u83, u84, u85, u86, u87, u88, u89, u90, u91, u92, u93, u94, u95, u96, u97, u98, u99, u100, u101, u102, u103, u104, u105, u106, u107, u108, u109, u110, u111, u112, u113, u114, u115, u116, u117, u118, u119, u120, u121, u122, u123, u124, u125, u126, u127, u128, u129, u130, u131, u132, u133, u134, u135, u136], []⟩ w5 := by
  rw [tlW5]
  exact wp_seq_k (fun K hK => walk_parts w0 W w5 p g (-1) d _ l cs0 n0 [] v0 v5 hI hb hv0 hX hws hcnt hK (fun _ _ _ _ _ _ _ _ _ _ _ _ _ _ _ _ _ _ _ _ _ _ _ _ _ _ _ _ _ _ _ _ _ _ _ _ _ _ _ _ _ _ _ _ _ _ _ _ _ _ _ _ _ _ _ _ _ _ _ _ _ _ _ _ _ _ _ _ _ _ _ _ _ _ _ _ _ _ _ _ _ _ _ _ _ _ _ _ _ _ _ _ _ _ _ _ _ _ _ _ _ _ _ _ _ _ _ _ _ _ _ _ _ _ _ _ _ _ _ _ _ _ _ _ _ _ _ _ _ _ _ ys A1 k1 v gs wr hS => walk_end_no w0 W wr p g n0 d l ys cs0 v0 v A1 k1 gs hI (hS.kw.below hb (Nat.le_of_lt hS.hp.1) hS.hp.2 hv0) hf hS))
theorem from5_fn {u2 u7 u8 u9 u10 u11 u12 u13 u14 u15 u16 u17 u18 u19 u20 u21 u22 u23 u24 u25 u26 u27 u28 u29 u30 u31 u32 u33 u34 u35 u36 u37 u38 u39 u40 u41 u42 u43 u44 u45 u46 u47 u48 u49 u50 u51 u52 u53 u54 u55 u56 u57 u58 u59 u60 u61 u62 u63 u64 u65 u66 u67 u68 u69 u70 u71 u72 u73 u74 u75 u76 u77 u78 u79 u80 u81 u82 u83 u84 u85 u86 u87 u88 u89 u90 u91 u92 u93 u94 u95 u96 u97 u98 u99 u100 u101 u102 u103 u104 u105 u106 u107 u108 u109 u110 u111 u112 u113 u114 u115 u116 u117 u118 u119 u120 u121 u122 u123 u124 u125 u126 u127 u128 u129 u130 u131 u132 u133 u134 u135 u136 : Value} (w0 W w5 : World) (p g n0 : Nat) (d : ExD) (l : List Ex) (cs0 : List Value) (v0 v5 : Value) (fz : Fu) (hI : (Ex.mk d l).In w0) (hb : Below w0.heap.size w0 W) (hv0 : ∀ q, v0.ownBlock = some q → w0.heap.size ≤ q) (hX : ∀ x ∈ l, ∀ (v : Value) (n : Nat) (cs : List Value) (V : World), Below w0.heap.size w0 V → CW V p v n cs → 1 ≤ n → n + x.cnt ≤ 4000000 → Calls Try.prog 22 #[.pointer (some ⟨p, 0, none⟩), .agg x.d.arr] V (WkR w0.heap.size x p v n cs V)) (hf : d.kind = 4 ∨ d.kind = 7) (hcnt : n0 + 1 + cntL l ≤ 4000000) (hn0 : 1 ≤ n0) (hc0 : cs0.length = n0 * 9) (hz : fz.y = zeroE) (hq : FunZ (numE (.mk d l) (n0 - 1)) fz)
    (hws : WS w0.heap.size W p v0 g d (d.numD (n0 - 1)) (cs0 ++ fz.cells) (n0 + 1) [fz] l 0 [] (.slice none 0 0) v5 [] w5) : Code.wp Try.prog (tlW 5) (bodyPost Try.prog Try.f22 (WkR w0.heap.size (.mk d l) p v0 n0 cs0 W)) ⟨#[.pointer (some ⟨p, 0, none⟩), .agg #[.int .i64 d.kind, .int .i64 d.n, .string (bstr d.s), .string (bstr d.t), .slice d.nA d.nn d.nc, .slice d.pA d.pn d.pc], u2, .pointer (some ⟨W.heap.size, 0, none⟩), .pointer (some ⟨W.heap.size + 1, 0, none⟩), .pointer (some ⟨g, 0, none⟩), .int .i64 (n0 : Int), u7, u8, u9, u10, u11, u12, u13, u14, u15, u16, u17, u18, u19, u20, u21, u22, u23, u24, u25, u26, u27, u28, u29, u30, u31, u32, u33, u34, u35, u36, u37, u38, u39, u40, u41, u42, u43, u44, u45, u46, u47, u48, u49, u50, u51, u52, u53, u54, u55, u56, u57, u58, u59, u60, u61, u62, u63, u64, u65, u66, u67, u68, u69, u70, u71, u72, u73, u74, u75, u76, u77, u78, u79, u80, u81, u82, u83, u84, u85, u86, u87, u88, u89, u90, u91, u92, u93, u94, u95, u96, u97, u98, u99, u100, u101, u102, u103, u104, u105, u106, u107, u108, u109, u110, u111, u112, u113, u114, u115, u116, u117, u118, u119, u120, u121, u122, u123, u124, u125, u126, u127, u128, u129, u130, u131, u132, u133, u134, u135, u136], []⟩ w5 := by
  rw [tlW5]
  exact wp_seq_k (fun K hK => walk_parts w0 W w5 p g (n0 : Int) d _ l _ (n0 + 1) [fz] v0 v5 hI hb hv0 hX hws hcnt hK (fun _ _ _ _ _ _ _ _ _ _ _ _ _ _ _ _ _ _ _ _ _ _ _ _ _ _ _ _ _ _ _ _ _ _ _ _ _ _ _ _ _ _ _ _ _ _ _ _ _ _ _ _ _ _ _ _ _ _ _ _ _ _ _ _ _ _ _ _ _ _ _ _ _ _ _ _ _ _ _ _ _ _ _ _ _ _ _ _ _ _ _ _ _ _ _ _ _ _ _ _ _ _ _ _ _ _ _ _ _ _ _ _ _ _ _ _ _ _ _ _ _ _ _ _ _ _ _ _ _ _ _ ys A1 k1 v gs wr hS => walk_end_fn w0 W wr p g n0 d l ys cs0 v0 v A1 k1 gs fz hI (hS.kw.below hb (Nat.le_of_lt hS.hp.1) hS.hp.2 hv0) hf hn0 (by have h1 := hS.cnt; have h2 := cntL_takeW l d.pn; omega) hc0 hz hq hS))
/-- What stands ahead of the parts. -/
structure PreS (W : World) (g : Nat) (d : ExD) (nn : Int) (wr : World) : Prop where
  b : Below W.heap.size W wr
  hd : wr.heap[g]? = some (.cells #[.int .i64 d.kind, .int .i64 nn, .string (bstr d.s), .string (bstr d.t), .slice d.nA d.nn d.nc, .slice none 0 0] 25)
  rs : wr.heap[W.heap.size + 1]? = some (.cells #[.int .i64 0, .int .i64 0, .string ⟨#[]⟩, .string ⟨#[]⟩, .slice none 0 0, .slice none 0 0] 25)
  bx : wr.heap[W.heap.size]? = some (.cells #[.int .i64 d.kind, .int .i64 d.n, .string (bstr d.s), .string (bstr d.t), .slice d.nA d.nn d.nc, .slice d.pA d.pn d.pc] 25)
  hg : g = W.heap.size + 2
section
variable {W : World} {g : Nat} {d : ExD} {nn : Int} {wr wy : World}
theorem PreS.below (h : PreS W g d nn wr) (hb : Below (g + 1) wr wy) : PreS W g d nn wy := by
  have hg := h.hg
  exact ⟨⟨hb.os.trans h.b.os, hb.tape.trans h.b.tape, hb.output.trans h.b.output, Nat.le_trans h.b.size hb.size, fun b hl => (hb.block b (by omega)).trans (h.b.block b hl)⟩, (hb.block _ (by omega)).trans h.hd, (hb.block _ (by omega)).trans h.rs, (hb.block _ (by omega)).trans h.bx, hg⟩
theorem PreS.num (h : PreS W g d nn wr) (n : Int) : PreS W g d n (wr.setCell ⟨g, 1, none⟩ (.int .i64 n)) := by
  have hg := h.hg
  have hk : ∀ b, b ≠ g → (wr.setCell ⟨g, 1, none⟩ (.int .i64 n)).heap[b]? = wr.heap[b]? := fun b hb => Below.heap_setCell wr ⟨g, 1, none⟩ _ b hb
  have hh := h.hd
  exact ⟨h.b.setCell (p := ⟨g, 1, none⟩) (by show W.heap.size ≤ g; omega) _, by simp [World.setCell, Array.getElem?_modify, hh], (hk _ (by omega)).trans h.rs, (hk _ (by omega)).trans h.bx, hg⟩
theorem PreS.start (W : World) (d : ExD) : PreS W (W.heap.size + 2) d d.n (((W.alloc (.cells d.arr 25)).alloc (.cells #[.int .i64 0, .int .i64 0, .string ⟨#[]⟩, .string ⟨#[]⟩, .slice none 0 0, .slice none 0 0] 25)).alloc (.cells #[.int .i64 d.kind, .int .i64 d.n, .string (bstr d.s), .string (bstr d.t), .slice d.nA d.nn d.nc, .slice none 0 0] 25)) ∧ (((W.alloc (.cells d.arr 25)).alloc (.cells #[.int .i64 0, .int .i64 0, .string ⟨#[]⟩, .string ⟨#[]⟩, .slice none 0 0, .slice none 0 0] 25)).alloc (.cells #[.int .i64 d.kind, .int .i64 d.n, .string (bstr d.s), .string (bstr d.t), .slice d.nA d.nn d.nc, .slice none 0 0] 25)).heap.size = W.heap.size + 2 + 1 := by
  have s1 : (W.alloc (.cells d.arr 25)).heap.size = W.heap.size + 1 := World.size_alloc _ _
  have s2 : ((W.alloc (.cells d.arr 25)).alloc (.cells #[.int .i64 0, .int .i64 0, .string ⟨#[]⟩, .string ⟨#[]⟩, .slice none 0 0, .slice none 0 0] 25)).heap.size = W.heap.size + 2 := by simp
  refine ⟨⟨((((Below.refl _ _).alloc (Nat.le_refl _) _).alloc (by rw [s1]; omega) _).alloc (by rw [s2]; omega) _), ?_, ?_, ?_, rfl⟩, by simp⟩
  · have h := heap_alloc_new ((W.alloc (.cells d.arr 25)).alloc (.cells #[.int .i64 0, .int .i64 0, .string ⟨#[]⟩, .string ⟨#[]⟩, .slice none 0 0, .slice none 0 0] 25)) (.cells #[.int .i64 d.kind, .int .i64 d.n, .string (bstr d.s), .string (bstr d.t), .slice d.nA d.nn d.nc, .slice none 0 0] 25)
    rw [s2] at h
    exact h
  · have h := heap_alloc_new (W.alloc (.cells d.arr 25)) (.cells #[.int .i64 0, .int .i64 0, .string ⟨#[]⟩, .string ⟨#[]⟩, .slice none 0 0, .slice none 0 0] 25)
    rw [s1] at h
    exact (Below.heap_alloc _ _ _ (by rw [s2]; omega)).trans h
  · exact (Below.heap_alloc _ _ _ (by rw [s2]; omega)).trans ((Below.heap_alloc _ _ _ (by rw [s1]; omega)).trans (heap_alloc_new W _))
end
theorem WS.start_no {s0 : Nat} {W : World} {p g n0 : Nat} {v0 : Value} {cs0 : List Value} {d : ExD} {l : List Ex} {wr : World} (h : PreS W g d d.n wr) (hf : ¬ (d.kind = 4 ∨ d.kind = 7)) (hcw : CW W p v0 n0 cs0) (hp : s0 < p ∧ p < W.heap.size) (hn : 1 ≤ n0) : WS s0 W p v0 g d (d.numD (n0 - 1)) cs0 n0 [] l 0 [] (.slice none 0 0) v0 [] wr := by
  have hd : d.numD (n0 - 1) = d := by unfold ExD.numD; rw [if_neg hf]
  have hv0 : ∀ q, v0.ownBlock = some q → q < W.heap.size := fun q hq => (hcw.own.lt q hq).2
  have hg := h.hg
  rw [hd]
  exact ⟨World.ownsRow_nil _ _ _ _, rfl, trivial, trivial, by rw [List.flatMap_nil, List.append_nil]; exact hcw.below h.b, (fun y hy => by cases hy), (fun f hf => by cases hf), (fun f hf => by cases hf), h.hd, h.rs, h.bx, KW.of_below v0 h.b, hg, hp, hn, (fun q hq => by cases hq), fun e => by have := hv0 _ e; omega, fun e => by have := hv0 _ e; omega, fun e => by have := hv0 _ e; omega⟩
theorem CpS.start {W : World} {g n0 : Nat} {d : ExD} {wr wz : World} {s1 t1 : Str} {FA : Option Addr} {fc : Nat} {ss : List Str} (h : PreS W g d (n0 : Int) wr) (hk : d.kind = 4 ∨ d.kind = 7) (hn : 1 ≤ n0) (hF : wr.heap[g + 1]? = some (.cells #[.string (bstr s1), .string (bstr t1), .slice none 0 0, .int .i64 0, .int .i64 0, .string ⟨#[]⟩, .string ⟨#[]⟩, .slice none 0 0, .slice none 0 0] 37)) (hb : Below wr.heap.size wr wz) (hown : wz.ownsRow wr.heap.size 9 1 (.slice FA ss.length fc) ss.length (strs ss)) : CpS W g d (d.numD (n0 - 1)) s1 t1 FA ss (.slice none 0 0) [] wz := by
  have hgl := lt_of_heap hF
  have h' := h.below (wy := wz) (hb.mono (by omega))
  have he : (d.numD (n0 - 1)).kind = d.kind ∧ (d.numD (n0 - 1)).n = (n0 : Int) ∧ (d.numD (n0 - 1)).s = d.s ∧ (d.numD (n0 - 1)).t = d.t ∧ (d.numD (n0 - 1)).nA = d.nA ∧ (d.numD (n0 - 1)).nn = d.nn ∧ (d.numD (n0 - 1)).nc = d.nc := by
    unfold ExD.numD
    rw [if_pos hk]
    exact ⟨rfl, by show ((n0 - 1 + 1 : Nat) : Int) = _; rw [show n0 - 1 + 1 = n0 from by omega], rfl, rfl, rfl, rfl, rfl⟩
  obtain ⟨e1, e2, e3, e4, e5, e6, e7⟩ := he
  refine ⟨h'.b, by rw [e1, e2, e3, e4, e5, e6, e7]; exact h'.hd, h'.rs, h'.bx, (hb.block _ hgl).trans hF, World.ownsRow_nil _ _ _ _, ⟨Rd.of_own hown, fun _ a _ e => by cases e⟩, fun hn a ha e => ?_, h.hg⟩
  have := (hown.lt a.block (by rw [ha]; rfl)).1
  omega

theorem set2c {w : World} {b : Nat} {c0 c1 c2 c3 c4 c5 : Value} {T : TypeId} {fr : Nat × Nat} (h : w.heap[b]? = some (.cells #[c0, c1, c2, c3, c4, c5] T fr)) (v : Value) : (w.setCell ⟨b, 2, none⟩ v).heap[b]? = some (.cells #[c0, c1, v, c3, c4, c5] T fr) := by
  simp [World.setCell, Array.getElem?_modify, h]
theorem set5c {w : World} {b : Nat} {c0 c1 c2 c3 c4 c5 : Value} {T : TypeId} {fr : Nat × Nat} (h : w.heap[b]? = some (.cells #[c0, c1, c2, c3, c4, c5] T fr)) (v : Value) : (w.setCell ⟨b, 5, none⟩ v).heap[b]? = some (.cells #[c0, c1, c2, c3, c4, v] T fr) := by
  simp [World.setCell, Array.getElem?_modify, h]
theorem set01 {w : World} {b : Nat} {c0 c1 c2 c3 c4 c5 c6 c7 c8 : Value} {T : TypeId} {fr : Nat × Nat} (h : w.heap[b]? = some (.cells #[c0, c1, c2, c3, c4, c5, c6, c7, c8] T fr)) (u v : Value) : ((w.setCell ⟨b, 0, none⟩ u).setCell ⟨b, 1, none⟩ v).heap[b]? = some (.cells #[u, v, c2, c3, c4, c5, c6, c7, c8] T fr) := by
  simp [World.setCell, Array.getElem?_modify, h]
/-- Two more blocks behind g. -/
theorem two_blocks (w : World) (g : Nat) (h : w.heap.size = g + 1) (o1 o2 : Obj) : ((w.alloc o1).alloc o2).heap[g + 1]? = some o1 ∧ ((w.alloc o1).alloc o2).heap[g + 2]? = some o2 ∧ Below (g + 1) w ((w.alloc o1).alloc o2) ∧ ((w.alloc o1).alloc o2).heap.size = g + 3 := by
  have s1 : (w.alloc o1).heap.size = g + 2 := by simp [h]
  have h1 := heap_alloc_new w o1
  have h2 := heap_alloc_new (w.alloc o1) o2
  rw [h] at h1
  rw [s1] at h2
  refine ⟨(Below.heap_alloc _ _ _ (by rw [s1]; omega)).trans h1, h2, ((Below.refl _ _).alloc (by rw [h]; exact Nat.le_refl _) _).alloc (by rw [s1]; omega) _, by simp [h]⟩
theorem tlA6 : tlA 6 = .seq (hdA 6) (tlA 7) := by kernel_rfl
theorem from6 {u2 u10 u11 u12 u13 u14 u15 u16 u17 u18 u19 u20 u21 u22 u23 u24 u25 u26 u27 u28 u29 u30 u31 u32 u33 u34 u35 u36 u37 u38 u39 u40 u41 u42 u43 u44 u45 u46 u47 u48 u49 u50 u51 u52 u53 u54 u55 u56 u57 u58 u59 u60 u61 u62 u63 u64 u65 u66 u67 u68 u69 u70 u71 u72 u73 u74 u75 u76 u77 u78 u79 u80 u81 u82 u83 u84 u85 u86 u87 u88 u89 u90 u91 u92 u93 u94 u95 u96 u97 u98 u99 u100 u101 u102 u103 u104 u105 u106 u107 u108 u109 u110 u111 u112 u113 u114 u115 u116 u117 u118 u119 u120 u121 u122 u123 u124 u125 u126 u127 u128 u129 u130 u131 u132 u133 u134 u135 u136 : Value} (w0 W w9 : World) (p g n0 : Nat) (d : ExD) (l : List Ex) (cs0 : List Value) (v0 : Value) (s1 t1 : Str) (FA : Option Addr) (fc : Nat) (ss : List Str) (hI : (Ex.mk d l).In w0) (hb : Below w0.heap.size w0 W) (hv0 : ∀ q, v0.ownBlock = some q → w0.heap.size ≤ q) (hX : ∀ x ∈ l, ∀ (v : Value) (n : Nat) (cs : List Value) (V : World), Below w0.heap.size w0 V → CW V p v n cs → 1 ≤ n → n + x.cnt ≤ 4000000 → Calls Try.prog 22 #[.pointer (some ⟨p, 0, none⟩), .agg x.d.arr] V (WkR w0.heap.size x p v n cs V)) (hf : d.kind = 4 ∨ d.kind = 7) (hcnt : n0 + 1 + cntL l ≤ 4000000) (hn0 : 1 ≤ n0) (hc0 : cs0.length = n0 * 9) (hpp : w0.heap.size < p ∧ p < W.heap.size) (hcw : CW W p v0 n0 cs0) (hss : ss.length ≤ 4000000)
    (hs : CpS W g d (d.numD (n0 - 1)) s1 t1 FA ss (.slice none 0 0) [] w9) (hl : l.length = d.pn) (hord : inOrder ss) (hmem : ∀ x, x ∈ ss ↔ (ownX d l).freeB x = true) (hs1 : s1 = if d.kind = 4 then [] else d.s) (ht1 : t1 = if d.kind = 4 then d.s else d.t)
    {K9 : Act → World → Prop} (hK : ∀ a w, Code.wp Try.prog (tlW 5) (bodyPost Try.prog Try.f22 (WkR w0.heap.size (.mk d l) p v0 n0 cs0 W)) a w → K9 a w) : Code.wp Try.prog (tlA 6) (Exit.then K9 (bodyPost Try.prog Try.f22 (WkR w0.heap.size (.mk d l) p v0 n0 cs0 W))) ⟨#[.pointer (some ⟨p, 0, none⟩), .agg #[.int .i64 d.kind, .int .i64 d.n, .string (bstr d.s), .string (bstr d.t), .slice d.nA d.nn d.nc, .slice d.pA d.pn d.pc], u2, .pointer (some ⟨W.heap.size, 0, none⟩), .pointer (some ⟨W.heap.size + 1, 0, none⟩), .pointer (some ⟨g, 0, none⟩), .int .i64 (n0 : Int), .pointer (some ⟨g + 1, 0, none⟩), .pointer (some ⟨g + 2, 0, none⟩), .slice FA ss.length fc, u10, u11, u12, u13, u14, u15, u16, u17, u18, u19, u20, u21, u22, u23, u24, u25, u26, u27, u28, u29, u30, u31, u32, u33, u34, u35, u36, u37, u38, u39, u40, u41, u42, u43, u44, u45, u46, u47, u48, u49, u50, u51, u52, u53, u54, u55, u56, u57, u58, u59, u60, u61, u62, u63, u64, u65, u66, u67, u68, u69, u70, u71, u72, u73, u74, u75, u76, u77, u78, u79, u80, u81, u82, u83, u84, u85, u86, u87, u88, u89, u90, u91, u92, u93, u94, u95, u96, u97, u98, u99, u100, u101, u102, u103, u104, u105, u106, u107, u108, u109, u110, u111, u112, u113, u114, u115, u116, u117, u118, u119, u120, u121, u122, u123, u124, u125, u126, u127, u128, u129, u130, u131, u132, u133, u134, u135, u136], []⟩ w9 := by
  rw [tlA6]
  exact wp_seq_k (fun K hK6 => walk_caps W w9 p g n0 d _ s1 t1 FA fc ss hss hs hK6 (fun _ _ _ _ _ _ _ _ _ _ _ _ _ _ _ _ _ _ _ _ _ _ _ _ _ _ _ _ _ _ _ _ _ _ _ _ _ _ _ _ _ _ _ _ _ _ _ _ _ _ _ _ _ _ _ _ _ _ _ _ _ _ _ _ _ _ _ _ _ _ _ _ _ _ _ _ _ _ _ _ _ _ _ _ _ _ _ _ _ _ _ _ _ _ _ _ _ _ _ _ _ _ _ _ _ _ _ _ _ _ _ _ _ _ _ _ _ _ _ _ _ _ _ _ _ _ _ _ CA cc wr hs => walk_push w0.heap.size W wr p g n0 v0 cs0 d _ l s1 t1 FA fc ss CA cc (capsF d ss) (Nat.le_trans (capsF_len d ss) hss) hcw hpp hn0 (by omega) hs hK (fun _ _ _ _ _ _ _ _ _ _ _ _ _ _ _ _ _ _ _ _ _ _ _ _ _ _ _ _ _ _ _ _ _ _ _ _ _ _ _ _ _ _ _ _ _ _ _ _ _ _ _ _ _ _ _ _ _ _ _ _ _ _ _ _ _ _ _ _ _ _ _ _ _ _ _ _ _ _ _ _ _ _ _ _ _ _ _ _ _ _ _ _ _ _ _ _ _ _ _ _ _ _ _ _ _ _ _ _ _ _ _ _ _ _ _ _ _ _ _ _ _ _ _ _ _ _ _ _ _ _ _ v4 V hws => from5_fn w0 W V p g n0 d l cs0 v0 v4 _ hI hb hv0 hX hf hcnt hn0 hc0 rfl (funZ_of hl hf hord hmem hs1 ht1 rfl) hws)))
set_option maxRecDepth 100000 in
set_option maxHeartbeats 4000000 in
theorem walk_any (w0 : World) (t : Ex) (hIn : t.In w0) : ∀ (p : Nat) (v0 : Value) (n0 : Nat) (cs0 : List Value) (W : World), Below w0.heap.size w0 W → w0.heap.size < p → CW W p v0 n0 cs0 → 1 ≤ n0 → n0 + t.cnt ≤ 4000000 → t.nodes ≤ 4000000 →
    Calls Try.prog 22 #[.pointer (some ⟨p, 0, none⟩), .agg t.d.arr] W (WkR w0.heap.size t p v0 n0 cs0 W) := by
  induction hIn with
  | mk d l nam par cap sub ih =>
  intro p v0 n0 cs0 W hb hp hcw hn hcnt hnd
  show Calls Try.prog 22 #[.pointer (some ⟨p, 0, none⟩), .agg d.arr] W _
  have hI : (Ex.mk d l).In w0 := .mk d l nam par cap sub
  have HX := Lib.hid (show ∀ x ∈ l, ∀ (v : Value) (n : Nat) (cs : List Value) (V : World), Below w0.heap.size w0 V → CW V p v n cs → 1 ≤ n → n + x.cnt ≤ 4000000 → Calls Try.prog 22 #[.pointer (some ⟨p, 0, none⟩), .agg x.d.arr] V (WkR w0.heap.size x p v n cs V) from fun x hx v n cs V hV hc h1 h2 => ih x hx p v n cs V hV hp hc h1 h2 (by have := enodesL_mem l x hx; unfold Ex.nodes at hnd; omega))
  have HI := Lib.hid hI
  have HL := Lib.hid (show l.length = d.pn from hI.len)
  have HB := Lib.hid hb
  have HCW := Lib.hid hcw
  have HN0 := Lib.hid hn
  have HND := Lib.hid hnd
  have HPP := Lib.hid (show w0.heap.size < p ∧ p < W.heap.size from ⟨hp, lt_of_heap hcw.c⟩)
  have HV0 := Lib.hid (show ∀ q, v0.ownBlock = some q → w0.heap.size ≤ q from fun q hq => by have := (hcw.own.lt q hq).1; omega)
  have HC0 := Lib.hid (show cs0.length = n0 * 9 from hcw.own.1)
  have HCN := Lib.hid hcnt
  have HP0 := Lib.hid (PreS.start W d)
  obtain ⟨c0, c1, c2, c3, c4, c5⟩ := ex_box W d
  clear nam par cap sub ih hb hp hcw hn hcnt hnd hI
  go_enter Try.func22, Try.ntmps22
  go_upto_region 3 with fail
  clear c0 c1 c2 c3 c4 c5
  generalize (((W.alloc (.cells d.arr 25)).alloc (.cells #[.int .i64 0, .int .i64 0, .string ⟨#[]⟩, .string ⟨#[]⟩, .slice none 0 0, .slice none 0 0] 25)).alloc (.cells #[.int .i64 d.kind, .int .i64 d.n, .string (bstr d.s), .string (bstr d.t), .slice d.nA d.nn d.nc, .slice none 0 0] 25)) = w3 at *
  obtain ⟨g, hg⟩ : ∃ g, W.heap.size + 2 = g := ⟨_, rfl⟩
  rw [show W.heap.size + 1 + 1 = W.heap.size + 2 from rfl, hg]
  rw [hg] at HP0
  have HSZ := Lib.hid HP0.out.2
  have HPS := Lib.hid HP0.out.1
  clear HP0 hg
  obtain ⟨x0, x1, x2, x3, x4, x5⟩ := cells6 HPS.out.bx
  by_cases hf : d.kind = 4 ∨ d.kind = 7
  · have HKD := Lib.hid hf
    have HCNF := Lib.hid (show n0 + 1 + cntL l ≤ 4000000 from by have := HCN.out; unfold Ex.cnt ExD.f at this; rw [if_pos hf] at this; omega)
    have HN4 := Lib.hid (show n0 ≤ 4000000 from by have := HCNF.out; omega)
    have hq47 : ((d.kind == 4) = true ∧ (d.kind == 7) = false) ∨ ((d.kind == 4) = false ∧ (d.kind == 7) = true) := by
      rcases hf with h | h
      · left; rw [h]; exact ⟨rfl, rfl⟩
      · right; rw [h]; exact ⟨rfl, rfl⟩
    obtain ⟨m0, hm0⟩ : ∃ m0, n0 = m0 + 1 := ⟨n0 - 1, by have := HN0.out; omega⟩
    obtain ⟨q0, cc0, hv0⟩ : ∃ q0 cc0, v0 = .slice (some ⟨q0, 0, none⟩) n0 cc0 := by
      have ho := HCW.out.own
      rw [hm0] at ho ⊢
      exact own_some ho
    have hcp : w3.cell? ⟨p, 0, none⟩ = some (.slice (some ⟨q0, 0, none⟩) n0 cc0) := by rw [Lib.cell_of_heap (HCW.out.below HPS.out.b).c, hv0]; rfl
    have hfz := (frozen6 HPS.out.hd).2.1
    have hg1 := (cells6 HPS.out.hd).2.1
    clear hf hm0
    have key : ∀ (q4 : (d.kind == 4) = true ∨ (d.kind == 4) = false), True := fun _ => trivial
    clear key
    rcases hq47 with ⟨q4, q7⟩ | ⟨q4, q7⟩
    · have h4 : d.kind = 4 := by simpa using q4
      go_upto_if 22 with fail
      rename_i hK
      have HK := Lib.hid hK
      clear hK
      go_upto_region 7 with fail
      have HP4 := Lib.hid (HPS.out.num (n0 : Int))
      have hsz : (w3.setCell ⟨g, 1, none⟩ (.int .i64 (n0 : Int))).heap.size = g + 1 := by rw [World.size_setCell]; exact HSZ.out
      clear x0 x1 x2 x3 x4 x5 hcp hfz hg1 q4
      generalize (w3.setCell ⟨g, 1, none⟩ (.int .i64 (n0 : Int))) = w4 at *
      obtain ⟨x0, x1, x2, x3, x4, x5⟩ := cells6 HP4.out.bx
      have hba : Below w4.heap.size w4 (w4.alloc (.cells #[.string ⟨#[]⟩, .string (bstr d.s), .slice none 0 0, .int .i64 0, .int .i64 0, .string ⟨#[]⟩, .string ⟨#[]⟩, .slice none 0 0, .slice none 0 0] 37)) := (Below.refl _ _).alloc (Nat.le_refl _) _
      have x0a := cell_below hba x0
      have x2a := cell_below hba x2
      have x5a := cell_below hba x5
      clear hba
      go_upto_region 9 with fail
      clear x0a x2a x5a
      obtain ⟨hF, hO, hb5, hsz5⟩ := two_blocks w4 g hsz (.cells #[.string ⟨#[]⟩, .string (bstr d.s), .slice none 0 0, .int .i64 0, .int .i64 0, .string ⟨#[]⟩, .string ⟨#[]⟩, .slice none 0 0, .slice none 0 0] 37) (.cells #[.int .i64 4, .int .i64 0, .string (bstr d.s), .string ⟨#[]⟩, .slice none 0 0, .slice d.pA d.pn d.pc] 25)
      have HF := Lib.hid hF
      have HO := Lib.hid hO
      have HP := Lib.hid (HP4.out.below hb5)
      try rw [show g + 1 + 1 = g + 2 from rfl]
      clear x0 x1 x2 x3 x4 x5 hsz hsz5 hF hO hb5
      generalize ((w4.alloc (.cells #[.string ⟨#[]⟩, .string (bstr d.s), .slice none 0 0, .int .i64 0, .int .i64 0, .string ⟨#[]⟩, .string ⟨#[]⟩, .slice none 0 0, .slice none 0 0] 37)).alloc (.cells #[.int .i64 4, .int .i64 0, .string (bstr d.s), .string ⟨#[]⟩, .slice none 0 0, .slice d.pA d.pn d.pc] 25)) = w7 at *
      obtain ⟨x0, x1, x2, x3, x4, x5⟩ := cells6 HP.out.bx
      have hxo : (ownX d l).d.arr = #[.int .i64 4, .int .i64 0, .string (bstr d.s), .string ⟨#[]⟩, .slice none 0 0, .slice d.pA d.pn d.pc] := by unfold ownX; rw [if_pos h4]; rfl
      have HFR := Lib.hid (show Calls Try.prog 21 #[.agg #[.int .i64 4, .int .i64 0, .string (bstr d.s), .string ⟨#[]⟩, .slice none 0 0, .slice d.pA d.pn d.pc]] w7 (FreR (ownX d l) w7) from hxo ▸ refFree_any w0 (ownX d l) (ownX_in HI.out) w7 (below_then HB.out HP.out.b) (Nat.le_trans (ownX_nodes d l) HND.out))
      obtain ⟨o0, o1, o2, o3, o4, o5⟩ := cells6 HO.out
      clear hxo
      try go_upto_region 15 with fail
      rename_i hK6
      have HK6 := Lib.hid hK6
      clear hK6
      go_wp2_with fail
      refine HFR.out.mono ?_
      rintro e w9 ⟨FA, fc, ss, rfl, hown, hord, hmem, hlen, hb9⟩
      have HC9 := Lib.hid (CpS.start HP.out HKD.out HN0.out HF.out hb9 hown)
      have HSS := Lib.hid (show ss.length ≤ 4000000 from Nat.le_trans hlen (Nat.le_trans (ownX_nodes d l) HND.out))
      have HOM := Lib.hid (And.intro hord hmem)
      clear hown hord hmem hlen hb9 HFR o0 o1 o2 o3 o4 o5
      go_wp2_with fail
      refine HK6.out _ _ ?_
      exact from6 w0 W w9 p g n0 d l cs0 v0 [] d.s FA fc ss HI.out HB.out HV0.out HX.out HKD.out HCNF.out HN0.out HC0.out HPP.out HCW.out HSS.out HC9.out HL.out HOM.out.1 HOM.out.2 (by rw [if_pos h4]) (by rw [if_pos h4]) HK.out
    · have h4 : ¬ d.kind = 4 := by simpa using q4
      go_upto_if 22 with fail
      rename_i hK
      have HK := Lib.hid hK
      clear hK
      go_upto_region 7 with fail
      have HP4 := Lib.hid (HPS.out.num (n0 : Int))
      have hsz : (w3.setCell ⟨g, 1, none⟩ (.int .i64 (n0 : Int))).heap.size = g + 1 := by rw [World.size_setCell]; exact HSZ.out
      clear x0 x1 x2 x3 x4 x5 hcp hfz hg1 q4
      generalize (w3.setCell ⟨g, 1, none⟩ (.int .i64 (n0 : Int))) = w4 at *
      obtain ⟨x0, x1, x2, x3, x4, x5⟩ := cells6 HP4.out.bx
      have hba : Below w4.heap.size w4 (w4.alloc (.cells #[.string ⟨#[]⟩, .string (bstr d.s), .slice none 0 0, .int .i64 0, .int .i64 0, .string ⟨#[]⟩, .string ⟨#[]⟩, .slice none 0 0, .slice none 0 0] 37)) := (Below.refl _ _).alloc (Nat.le_refl _) _
      have x0a := cell_below hba x0
      have x2a := cell_below hba x2
      have x5a := cell_below hba x5
      clear hba
      go_upto_region 9 with fail
      clear x0a x2a x5a
      obtain ⟨hF, hO, hb5, hsz5⟩ := two_blocks w4 g hsz (.cells #[.string ⟨#[]⟩, .string (bstr d.s), .slice none 0 0, .int .i64 0, .int .i64 0, .string ⟨#[]⟩, .string ⟨#[]⟩, .slice none 0 0, .slice none 0 0] 37) (.cells #[.int .i64 4, .int .i64 0, .string (bstr d.s), .string ⟨#[]⟩, .slice none 0 0, .slice d.pA d.pn d.pc] 25)
      have HF := Lib.hid hF
      have HO := Lib.hid hO
      have HP := Lib.hid (HP4.out.below hb5)
      try rw [show g + 1 + 1 = g + 2 from rfl]
      clear x0 x1 x2 x3 x4 x5 hsz hsz5 hF hO hb5
      generalize ((w4.alloc (.cells #[.string ⟨#[]⟩, .string (bstr d.s), .slice none 0 0, .int .i64 0, .int .i64 0, .string ⟨#[]⟩, .string ⟨#[]⟩, .slice none 0 0, .slice none 0 0] 37)).alloc (.cells #[.int .i64 4, .int .i64 0, .string (bstr d.s), .string ⟨#[]⟩, .slice none 0 0, .slice d.pA d.pn d.pc] 25)) = w7 at *
      obtain ⟨x0, x1, x2, x3, x4, x5⟩ := cells6 HP.out.bx
      have k0 := (cells9 HF.out).1
      have k1 := (cells9 HF.out).2.1
      have z0 := frozen9 HF.out 0
      have z1 := frozen9 HF.out 1
      have y2 := (cells6 HO.out).2.2.1
      have yz2 := (frozen6 HO.out).2.2.1
      go_upto_region 13 with fail
      have HF8 := Lib.hid (show (((w7.setCell ⟨g + 1, 0, none⟩ (.string (bstr d.s))).setCell ⟨g + 1, 1, none⟩ (.string (bstr d.t))).setCell ⟨g + 2, 2, none⟩ (.string (bstr d.t))).heap[g + 1]? = some (.cells #[.string (bstr d.s), .string (bstr d.t), .slice none 0 0, .int .i64 0, .int .i64 0, .string ⟨#[]⟩, .string ⟨#[]⟩, .slice none 0 0, .slice none 0 0] 37) from (Below.heap_setCell _ ⟨g + 2, 2, none⟩ _ (g + 1) (by show g + 1 ≠ g + 2; omega)).trans (set01 HF.out _ _))
      have HO8 := Lib.hid (show (((w7.setCell ⟨g + 1, 0, none⟩ (.string (bstr d.s))).setCell ⟨g + 1, 1, none⟩ (.string (bstr d.t))).setCell ⟨g + 2, 2, none⟩ (.string (bstr d.t))).heap[g + 2]? = some (.cells #[.int .i64 4, .int .i64 0, .string (bstr d.t), .string ⟨#[]⟩, .slice none 0 0, .slice d.pA d.pn d.pc] 25) from set2c (((Below.heap_setCell _ ⟨g + 1, 1, none⟩ _ (g + 2) (by show g + 2 ≠ g + 1; omega)).trans ((Below.heap_setCell _ ⟨g + 1, 0, none⟩ _ (g + 2) (by show g + 2 ≠ g + 1; omega)).trans HO.out))) _)
      have HP8 := Lib.hid (show PreS W g d (n0 : Int) (((w7.setCell ⟨g + 1, 0, none⟩ (.string (bstr d.s))).setCell ⟨g + 1, 1, none⟩ (.string (bstr d.t))).setCell ⟨g + 2, 2, none⟩ (.string (bstr d.t))) from HP.out.below (Below.setCell (p := ⟨g + 2, 2, none⟩) (Below.setCell (p := ⟨g + 1, 1, none⟩) (Below.setCell (p := ⟨g + 1, 0, none⟩) (Below.refl _ _) (Nat.le_refl _) _) (Nat.le_refl _) _) (by show g + 1 ≤ g + 2; omega) _))
      clear x0 x1 x2 x3 x4 x5 k0 k1 z0 z1 y2 yz2 HF HO HP q7
      generalize (((w7.setCell ⟨g + 1, 0, none⟩ (.string (bstr d.s))).setCell ⟨g + 1, 1, none⟩ (.string (bstr d.t))).setCell ⟨g + 2, 2, none⟩ (.string (bstr d.t))) = w8 at *
      obtain ⟨x0, x1, x2, x3, x4, x5⟩ := cells6 HP8.out.bx
      by_cases hgt : 1 < d.pn
      · have hgi : (1 : Int) < (d.pn : Int) := by omega
        have HPC := Lib.hid (show d.pn ≤ d.pc ∧ d.pc ≤ maxLen from ⟨HI.out.cap.2.1.1, HI.out.cap.2.1.2.1⟩)
        have hpc : (1 : Int) ≤ (d.pc : Int) := by have := HPC.out.1; omega
        have hpc0 : 1 ≤ d.pc := by have := HPC.out.1; omega
        have y5 := (cells6 HO8.out).2.2.2.2.2
        have yz5 := (frozen6 HO8.out).2.2.2.2.2
        go_upto_region 15 with fail
        have HF := Lib.hid (show (w8.setCell ⟨g + 2, 5, none⟩ (.slice d.pA 1 d.pc)).heap[g + 1]? = _ from (Below.heap_setCell _ ⟨g + 2, 5, none⟩ _ (g + 1) (by show g + 1 ≠ g + 2; omega)).trans HF8.out)
        have HO := Lib.hid (show (w8.setCell ⟨g + 2, 5, none⟩ (.slice d.pA 1 d.pc)).heap[g + 2]? = some (.cells #[.int .i64 4, .int .i64 0, .string (bstr d.t), .string ⟨#[]⟩, .slice none 0 0, .slice d.pA 1 d.pc] 25) from set5c HO8.out _)
        have HP := Lib.hid (show PreS W g d (n0 : Int) (w8.setCell ⟨g + 2, 5, none⟩ (.slice d.pA 1 d.pc)) from HP8.out.below (Below.setCell (p := ⟨g + 2, 5, none⟩) (Below.refl _ _) (by show g + 1 ≤ g + 2; omega) _))
        clear x0 x1 x2 x3 x4 x5 y5 yz5 HF8 HO8 HP8
        generalize (w8.setCell ⟨g + 2, 5, none⟩ (.slice d.pA 1 d.pc)) = w7 at *
        have hxo : (ownX d l).d.arr = #[.int .i64 4, .int .i64 0, .string (bstr d.t), .string ⟨#[]⟩, .slice none 0 0, .slice d.pA 1 d.pc] := by unfold ownX; rw [if_neg h4, if_pos hgt]; rfl
        have HFR := Lib.hid (show Calls Try.prog 21 #[.agg #[.int .i64 4, .int .i64 0, .string (bstr d.t), .string ⟨#[]⟩, .slice none 0 0, .slice d.pA 1 d.pc]] w7 (FreR (ownX d l) w7) from hxo ▸ refFree_any w0 (ownX d l) (ownX_in HI.out) w7 (below_then HB.out HP.out.b) (Nat.le_trans (ownX_nodes d l) HND.out))
        obtain ⟨o0, o1, o2, o3, o4, o5⟩ := cells6 HO.out
        clear hxo
        try go_upto_region 15 with fail
        rename_i hK6
        have HK6 := Lib.hid hK6
        clear hK6
        go_wp2_with fail
        refine HFR.out.mono ?_
        rintro e w9 ⟨FA, fc, ss, rfl, hown, hord, hmem, hlen, hb9⟩
        have HC9 := Lib.hid (CpS.start HP.out HKD.out HN0.out HF.out hb9 hown)
        have HSS := Lib.hid (show ss.length ≤ 4000000 from Nat.le_trans hlen (Nat.le_trans (ownX_nodes d l) HND.out))
        have HOM := Lib.hid (And.intro hord hmem)
        clear hown hord hmem hlen hb9 HFR o0 o1 o2 o3 o4 o5
        go_wp2_with fail
        refine HK6.out _ _ ?_
        exact from6 w0 W w9 p g n0 d l cs0 v0 d.s d.t FA fc ss HI.out HB.out HV0.out HX.out HKD.out HCNF.out HN0.out HC0.out HPP.out HCW.out HSS.out HC9.out HL.out HOM.out.1 HOM.out.2 (by rw [if_neg h4]) (by rw [if_neg h4]) HK.out
      · have hgi : ¬ (1 : Int) < (d.pn : Int) := by omega
        go_upto_region 15 with fail
        have HF := HF8
        have HO := HO8
        have HP := HP8
        clear x0 x1 x2 x3 x4 x5 HF8 HO8 HP8
        have hxo : (ownX d l).d.arr = #[.int .i64 4, .int .i64 0, .string (bstr d.t), .string ⟨#[]⟩, .slice none 0 0, .slice d.pA d.pn d.pc] := by unfold ownX; rw [if_neg h4, if_neg hgt]; rfl
        have HFR := Lib.hid (show Calls Try.prog 21 #[.agg #[.int .i64 4, .int .i64 0, .string (bstr d.t), .string ⟨#[]⟩, .slice none 0 0, .slice d.pA d.pn d.pc]] w8 (FreR (ownX d l) w8) from hxo ▸ refFree_any w0 (ownX d l) (ownX_in HI.out) w8 (below_then HB.out HP.out.b) (Nat.le_trans (ownX_nodes d l) HND.out))
        obtain ⟨o0, o1, o2, o3, o4, o5⟩ := cells6 HO.out
        clear hxo
        try go_upto_region 15 with fail
        rename_i hK6
        have HK6 := Lib.hid hK6
        clear hK6
        go_wp2_with fail
        refine HFR.out.mono ?_
        rintro e w9 ⟨FA, fc, ss, rfl, hown, hord, hmem, hlen, hb9⟩
        have HC9 := Lib.hid (CpS.start HP.out HKD.out HN0.out HF.out hb9 hown)
        have HSS := Lib.hid (show ss.length ≤ 4000000 from Nat.le_trans hlen (Nat.le_trans (ownX_nodes d l) HND.out))
        have HOM := Lib.hid (And.intro hord hmem)
        clear hown hord hmem hlen hb9 HFR o0 o1 o2 o3 o4 o5
        go_wp2_with fail
        refine HK6.out _ _ ?_
        exact from6 w0 W w9 p g n0 d l cs0 v0 d.s d.t FA fc ss HI.out HB.out HV0.out HX.out HKD.out HCNF.out HN0.out HC0.out HPP.out HCW.out HSS.out HC9.out HL.out HOM.out.1 HOM.out.2 (by rw [if_neg h4]) (by rw [if_neg h4]) HK.out
  · have HNF := Lib.hid hf
    have HCNN := Lib.hid (show n0 + cntL l ≤ 4000000 from by have := HCN.out; unfold Ex.cnt ExD.f at this; rw [if_neg hf] at this; omega)
    have q4 : (d.kind == 4) = false := by simpa using fun h => hf (.inl h)
    have q7 : (d.kind == 7) = false := by simpa using fun h => hf (.inr h)
    clear hf
    go_upto_if 22 with fail
    rename_i hK
    have HK := Lib.hid hK
    clear hK
    go_wp2_with fail
    refine HK.out _ _ ?_
    exact from5_no w0 W w3 p g n0 d l cs0 v0 v0 HI.out HB.out HV0.out HX.out HNF.out HCNN.out (WS.start_no HPS.out HNF.out HCW.out HPP.out HN0.out)
end Go.Proofs.Ytpnihimoekkepaa
