/-
  The document's functions of an expression: the end, walked.
-/
import Derived.Test.YtpnihimoekkepaaCoBH
import Derived.Deep.RegionHeld3
namespace Go.Proofs.Ytpnihimoekkepaa
open Go.ChangeShapes Go.WideShapes Go.ChangeAt Go.RowKit Go.Sort Go.Maps
set_option linter.unusedVariables false
set_option linter.unusedSimpArgs false

theorem numD_same (d : ExD) (m : Nat) : (d.numD m).nA = d.nA ∧ (d.numD m).nn = d.nn ∧ (d.numD m).nc = d.nc ∧ (d.numD m).names = d.names ∧ (d.numD m).s = d.s ∧ (d.numD m).t = d.t ∧ (d.numD m).kind = d.kind := by
  unfold ExD.numD
  split <;> exact ⟨rfl, rfl, rfl, rfl, rfl, rfl, rfl⟩
/-- What is told may be told, of what came in. -/
theorem told_of {w0 W wr : World} {p : Nat} {v0 : Value} {g : Nat} {d : ExD} {m : Nat} {cs1 : List Value} {n1 : Nat} {fx : List Fu} {l ys : List Ex} {A1 : Option Addr} {k1 : Nat} {v : Value} {gs : List Fu} (hI : (Ex.mk d l).In w0) (hb : Below w0.heap.size w0 wr)
    (h : WS w0.heap.size W p v0 g d (d.numD m) cs1 n1 fx l l.length ys (.slice A1 l.length k1) v gs wr) :
    YIn (fun b => NB w0.heap.size W.heap.size v b ∧ b ≠ W.heap.size + 1) wr (ToldE (d.numD m) (d.numD m).nA (d.numD m).nc l.length A1 k1 ys) ∧ (∀ f ∈ gs ++ fx, f.In wr ∧ f.Bl (fun b => NB w0.heap.size W.heap.size v b ∧ b ≠ W.heap.size + 1)) ∧ (∀ y ∈ ys, YIn (fun b => NB w0.heap.size W.heap.size v b ∧ b ≠ W.heap.size + 1) wr y) := by
  obtain ⟨e1, e2, e3, e4, e5, e6, _⟩ := numD_same d m
  have hc : (d.nn ≤ d.nc ∧ d.nc ≤ maxLen ∧ d.nn ≤ 4000000) ∧ (d.pn ≤ d.pc ∧ d.pc ≤ maxLen ∧ d.pn ≤ 4000000) ∧ d.s.length ≤ 4000000 ∧ d.t.length ≤ 4000000 ∧ ∀ s ∈ d.names, s.length ≤ 4000000 := hI.cap
  have hl : l.length = d.pn := hI.len
  have hn : Rd w0 1 d.nA d.nn (strs d.names) := hI.nam
  refine h.told (by rw [e1, e2, e4]; exact hn.below hb) (fun h0 a ha => ?_) (by rw [e2, e3]; exact hc.1) ⟨by rw [hl]; exact hc.2.1.2.2, by rw [e5]; exact hc.2.2.1, by rw [e6]; exact hc.2.2.2.1, by rw [e4]; exact hc.2.2.2.2⟩
  rw [e2] at h0
  rw [e1] at ha
  exact hn.lt_ h0 ha

theorem heap_drew {w : World} {i : Nat} {o : Option Obj} (h : w.heap[i]? = o) : w.drew.heap[i]? = o := h
theorem then_k {P : Program} {c : Code} {K : Act → World → Prop} {Q Q2 : Exit → Act → World → Prop} {a : Act} {w : World} (hK : ∀ a w, Code.wp P c Q2 a w → K a w) (h : Code.wp P c Q2 a w) : Exit.then K Q .normal a w := hK _ _ h
theorem EndW.drew_ {s0 : Nat} {t : Ex} {p : Nat} {v0 : Value} {n0 : Nat} {cs0 : List Value} {W : World} {y : Ex} {v : Value} {gs : List Fu} {V : World} (h : EndW s0 t p v0 n0 cs0 W y v gs V) : EndW s0 t p v0 n0 cs0 W y v gs V.drew :=
  ⟨h.yin.keep (fun _ _ _ => rfl), h.eqv, h.cs.below (below_drew1 V), fun f hf => ⟨(h.gin f hf).1.keepP (h.gin f hf).2 (fun _ _ _ => rfl), (h.gin f hf).2⟩, h.fl, h.kw.trans (KW.of_below v (below_drew1 V)), h.rs, h.hp, h.gv⟩

set_option maxRecDepth 100000 in
set_option maxHeartbeats 2000000 in
theorem walk_outh {u2 u6 u7 u8 u9 u10 u11 u12 u13 u14 u15 u16 u17 u18 u19 u20 u21 u22 u23 u24 u25 u26 u27 u28 u29 u30 u31 u32 u33 u34 u35 u36 u37 u38 u39 u40 u41 u42 u43 u44 u45 u46 u47 u48 u49 u50 u51 u52 u53 u54 u55 u56 u57 u58 u59 u60 u61 u62 u63 u64 u65 u66 u67 u68 u69 u70 u71 u72 u73 u74 u75 u76 u77 u78 u79 u80 u81 u82 u83 u84 u85 u86 u87 u88 u89 u90 u91 u92 u93 u94 u95 u96 u97 u98 u99 u100 u101 u102 u103 u104 u105 u106 u107 u108 u109 u110 u111 u112 u113 u114 u115 u116 u117 u118 u119 u120 u121 u122 u123 u124 u125 u126 u127 u128 u129 u130 u131 u132 u133 u134 u135 u136 : Value} (w0 W wr : World) (p g n0 : Nat) (d : ExD) (l : List Ex) (cs0 : List Value) (v0 v : Value) (y : Ex) (gs : List Fu)
    (h : EndW w0.heap.size (.mk d l) p v0 n0 cs0 W y v gs wr) (hd : wr.heap[g]? = some (.cells #[.int .i64 y.d.kind, .int .i64 y.d.n, .string (bstr y.d.s), .string (bstr y.d.t), .slice y.d.nA y.d.nn y.d.nc, .slice y.d.pA y.d.pn y.d.pc] 25))
    {K : Act → World → Prop} (hK : ∀ a w, Code.wp Try.prog (tlW 8) (bodyPost Try.prog Try.f22 (WkR w0.heap.size (.mk d l) p v0 n0 cs0 W)) a w → K a w) :
    Code.wp Try.prog (hdW 7) (Exit.then K (bodyPost Try.prog Try.f22 (WkR w0.heap.size (.mk d l) p v0 n0 cs0 W))) ⟨#[.pointer (some ⟨p, 0, none⟩), .agg #[.int .i64 d.kind, .int .i64 d.n, .string (bstr d.s), .string (bstr d.t), .slice d.nA d.nn d.nc, .slice d.pA d.pn d.pc], u2, .pointer (some ⟨W.heap.size, 0, none⟩), .pointer (some ⟨W.heap.size + 1, 0, none⟩), .pointer (some ⟨g, 0, none⟩), u6, u7, u8, u9, u10, u11, u12, u13, u14, u15, u16, u17, u18, u19, u20, u21, u22, u23, u24, u25, u26, u27, u28, u29, u30, u31, u32, u33, u34, u35, u36, u37, u38, u39, u40, u41, u42, u43, u44, u45, u46, u47, u48, u49, u50, u51, u52, u53, u54, u55, u56, u57, u58, u59, u60, u61, u62, u63, u64, u65, u66, u67, u68, u69, u70, u71, u72, u73, u74, u75, u76, u77, u78, u79, u80, u81, u82, u83, u84, u85, u86, u87, u88, u89, u90, u91, u92, u93, u94, u95, u96, u97, u98, u99, u100, u101, u102, u103, u104, u105, u106, u107, u108, u109, u110, u111, u112, u113, u114, u115, u116, u117, u118, u119, u120, u121, u122, u123, u124, u125, u126, u127, u128, u129, u130, u131, u132, u133, u134, u135, u136], []⟩ wr := by
  obtain ⟨t0, t1, t2, t3, t4, t5⟩ := cells6 hd
  obtain ⟨r0, r1, r2, r3, r4, r5⟩ := cells6 h.rs
  obtain ⟨z0, z1, z2, z3, z4, z5⟩ := frozen6 h.rs
  have HN := Lib.hid (show ((((((wr.setCell ⟨W.heap.size + 1, 0, none⟩ (.int .i64 y.d.kind)).setCell ⟨W.heap.size + 1, 1, none⟩ (.int .i64 y.d.n)).setCell ⟨W.heap.size + 1, 2, none⟩ (.string (bstr y.d.s))).setCell ⟨W.heap.size + 1, 3, none⟩ (.string (bstr y.d.t))).setCell ⟨W.heap.size + 1, 4, none⟩ (.slice y.d.nA y.d.nn y.d.nc)).setCell ⟨W.heap.size + 1, 5, none⟩ (.slice y.d.pA y.d.pn y.d.pc)).heap[W.heap.size + 1]? = some (.cells #[.int .i64 y.d.kind, .int .i64 y.d.n, .string (bstr y.d.s), .string (bstr y.d.t), .slice y.d.nA y.d.nn y.d.nc, .slice y.d.pA y.d.pn y.d.pc] 25) ∧ WkR w0.heap.size (.mk d l) p v0 n0 cs0 W (.returned (.agg y.d.arr)) ((((((wr.setCell ⟨W.heap.size + 1, 0, none⟩ (.int .i64 y.d.kind)).setCell ⟨W.heap.size + 1, 1, none⟩ (.int .i64 y.d.n)).setCell ⟨W.heap.size + 1, 2, none⟩ (.string (bstr y.d.s))).setCell ⟨W.heap.size + 1, 3, none⟩ (.string (bstr y.d.t))).setCell ⟨W.heap.size + 1, 4, none⟩ (.slice y.d.nA y.d.nn y.d.nc)).setCell ⟨W.heap.size + 1, 5, none⟩ (.slice y.d.pA y.d.pn y.d.pc)) from h.put (.int .i64 y.d.kind) (.int .i64 y.d.n) (.string (bstr y.d.s)) (.string (bstr y.d.t)) (.slice y.d.nA y.d.nn y.d.nc) (.slice y.d.pA y.d.pn y.d.pc))
  clear h hd
  conv at hK => enter [a, w, 1, 2]; whnf
  conv => arg 2; whnf
  go_wp2_with fail
  clear r0 r1 r2 r3 r4 r5 z0 z1 z2 z3 z4 z5
  generalize ((((((wr.setCell ⟨W.heap.size + 1, 0, none⟩ (.int .i64 y.d.kind)).setCell ⟨W.heap.size + 1, 1, none⟩ (.int .i64 y.d.n)).setCell ⟨W.heap.size + 1, 2, none⟩ (.string (bstr y.d.s))).setCell ⟨W.heap.size + 1, 3, none⟩ (.string (bstr y.d.t))).setCell ⟨W.heap.size + 1, 4, none⟩ (.slice y.d.nA y.d.nn y.d.nc)).setCell ⟨W.heap.size + 1, 5, none⟩ (.slice y.d.pA y.d.pn y.d.pc)) = w7 at *
  obtain ⟨e0, e1, e2, e3, e4, e5⟩ := cells6 HN.out.1
  refine bodyPost_ret (by simp [results, Try.results22, go_sem, e0, e1, e2, e3, e4, e5]; try rfl) rfl ?_
  exact HN.out.2

set_option maxRecDepth 100000 in
set_option maxHeartbeats 2000000 in
theorem walk_out {u2 u6 u7 u8 u9 u10 u11 u12 u13 u14 u15 u16 u17 u18 u19 u20 u21 u22 u23 u24 u25 u26 u27 u28 u29 u30 u31 u32 u33 u34 u35 u36 u37 u38 u39 u40 u41 u42 u43 u44 u45 u46 u47 u48 u49 u50 u51 u52 u53 u54 u55 u56 u57 u58 u59 u60 u61 u62 u63 u64 u65 u66 u67 u68 u69 u70 u71 u72 u73 u74 u75 u76 u77 u78 u79 u80 u81 u82 u83 u84 u85 u86 u87 u88 u89 u90 u91 u92 u93 u94 u95 u96 u97 u98 u99 u100 u101 u102 u103 u104 u105 u106 u107 u108 u109 u110 u111 u112 u113 u114 u115 u116 u117 u118 u119 u120 u121 u122 u123 u124 u125 u126 u127 u128 u129 u130 u131 u132 u133 u134 u135 u136 : Value} (w0 W wr : World) (p g n0 : Nat) (d : ExD) (l : List Ex) (cs0 : List Value) (v0 v : Value) (y : Ex) (gs : List Fu)
    (h : EndW w0.heap.size (.mk d l) p v0 n0 cs0 W y v gs wr) (hd : wr.heap[g]? = some (.cells #[.int .i64 y.d.kind, .int .i64 y.d.n, .string (bstr y.d.s), .string (bstr y.d.t), .slice y.d.nA y.d.nn y.d.nc, .slice y.d.pA y.d.pn y.d.pc] 25)) :
    Code.wp Try.prog (tlW 7) (bodyPost Try.prog Try.f22 (WkR w0.heap.size (.mk d l) p v0 n0 cs0 W)) ⟨#[.pointer (some ⟨p, 0, none⟩), .agg #[.int .i64 d.kind, .int .i64 d.n, .string (bstr d.s), .string (bstr d.t), .slice d.nA d.nn d.nc, .slice d.pA d.pn d.pc], u2, .pointer (some ⟨W.heap.size, 0, none⟩), .pointer (some ⟨W.heap.size + 1, 0, none⟩), .pointer (some ⟨g, 0, none⟩), u6, u7, u8, u9, u10, u11, u12, u13, u14, u15, u16, u17, u18, u19, u20, u21, u22, u23, u24, u25, u26, u27, u28, u29, u30, u31, u32, u33, u34, u35, u36, u37, u38, u39, u40, u41, u42, u43, u44, u45, u46, u47, u48, u49, u50, u51, u52, u53, u54, u55, u56, u57, u58, u59, u60, u61, u62, u63, u64, u65, u66, u67, u68, u69, u70, u71, u72, u73, u74, u75, u76, u77, u78, u79, u80, u81, u82, u83, u84, u85, u86, u87, u88, u89, u90, u91, u92, u93, u94, u95, u96, u97, u98, u99, u100, u101, u102, u103, u104, u105, u106, u107, u108, u109, u110, u111, u112, u113, u114, u115, u116, u117, u118, u119, u120, u121, u122, u123, u124, u125, u126, u127, u128, u129, u130, u131, u132, u133, u134, u135, u136], []⟩ wr := by
  obtain ⟨t0, t1, t2, t3, t4, t5⟩ := cells6 hd
  obtain ⟨r0, r1, r2, r3, r4, r5⟩ := cells6 h.rs
  obtain ⟨z0, z1, z2, z3, z4, z5⟩ := frozen6 h.rs
  have HN := Lib.hid (show ((((((wr.setCell ⟨W.heap.size + 1, 0, none⟩ (.int .i64 y.d.kind)).setCell ⟨W.heap.size + 1, 1, none⟩ (.int .i64 y.d.n)).setCell ⟨W.heap.size + 1, 2, none⟩ (.string (bstr y.d.s))).setCell ⟨W.heap.size + 1, 3, none⟩ (.string (bstr y.d.t))).setCell ⟨W.heap.size + 1, 4, none⟩ (.slice y.d.nA y.d.nn y.d.nc)).setCell ⟨W.heap.size + 1, 5, none⟩ (.slice y.d.pA y.d.pn y.d.pc)).heap[W.heap.size + 1]? = some (.cells #[.int .i64 y.d.kind, .int .i64 y.d.n, .string (bstr y.d.s), .string (bstr y.d.t), .slice y.d.nA y.d.nn y.d.nc, .slice y.d.pA y.d.pn y.d.pc] 25) ∧ WkR w0.heap.size (.mk d l) p v0 n0 cs0 W (.returned (.agg y.d.arr)) ((((((wr.setCell ⟨W.heap.size + 1, 0, none⟩ (.int .i64 y.d.kind)).setCell ⟨W.heap.size + 1, 1, none⟩ (.int .i64 y.d.n)).setCell ⟨W.heap.size + 1, 2, none⟩ (.string (bstr y.d.s))).setCell ⟨W.heap.size + 1, 3, none⟩ (.string (bstr y.d.t))).setCell ⟨W.heap.size + 1, 4, none⟩ (.slice y.d.nA y.d.nn y.d.nc)).setCell ⟨W.heap.size + 1, 5, none⟩ (.slice y.d.pA y.d.pn y.d.pc)) from h.put (.int .i64 y.d.kind) (.int .i64 y.d.n) (.string (bstr y.d.s)) (.string (bstr y.d.t)) (.slice y.d.nA y.d.nn y.d.nc) (.slice y.d.pA y.d.pn y.d.pc))
  clear h hd
  conv => arg 2; whnf
  go_wp2_with fail
  clear r0 r1 r2 r3 r4 r5 z0 z1 z2 z3 z4 z5
  generalize ((((((wr.setCell ⟨W.heap.size + 1, 0, none⟩ (.int .i64 y.d.kind)).setCell ⟨W.heap.size + 1, 1, none⟩ (.int .i64 y.d.n)).setCell ⟨W.heap.size + 1, 2, none⟩ (.string (bstr y.d.s))).setCell ⟨W.heap.size + 1, 3, none⟩ (.string (bstr y.d.t))).setCell ⟨W.heap.size + 1, 4, none⟩ (.slice y.d.nA y.d.nn y.d.nc)).setCell ⟨W.heap.size + 1, 5, none⟩ (.slice y.d.pA y.d.pn y.d.pc)) = w7 at *
  obtain ⟨e0, e1, e2, e3, e4, e5⟩ := cells6 HN.out.1
  refine bodyPost_ret (by simp [results, Try.results22, go_sem, e0, e1, e2, e3, e4, e5]; try rfl) rfl ?_
  exact HN.out.2

set_option maxRecDepth 100000 in
set_option maxHeartbeats 2000000 in
theorem walk_end_no {u2 u7 u8 u9 u10 u11 u12 u13 u14 u15 u16 u17 u18 u19 u20 u21 u22 u23 u24 u25 u26 u27 u28 u29 u30 u31 u32 u33 u34 u35 u36 u37 u38 u39 u40 u41 u42 u43 u44 u45 u46 u47 u48 u49 u50 u51 u52 u53 u54 u55 u56 u57 u58 u59 u60 u61 u62 u63 u64 u65 u66 u67 u68 u69 u70 u71 u72 u73 u74 u75 u76 u77 u78 u79 u80 u81 u82 u83 u84 u85 u86 u87 u88 u89 u90 u91 u92 u93 u94 u95 u96 u97 u98 u99 u100 u101 u102 u103 u104 u105 u106 u107 u108 u109 u110 u111 u112 u113 u114 u115 u116 u117 u118 u119 u120 u121 u122 u123 u124 u125 u126 u127 u128 u129 u130 u131 u132 u133 u134 u135 u136 : Value} (w0 W wr : World) (p g n0 : Nat) (d : ExD) (l ys : List Ex) (cs0 : List Value) (v0 v : Value) (A1 : Option Addr) (k1 : Nat) (gs : List Fu) (hI : (Ex.mk d l).In w0) (hb : Below w0.heap.size w0 wr) (hf : ¬ (d.kind = 4 ∨ d.kind = 7))
    (h : WS w0.heap.size W p v0 g d (d.numD (n0 - 1)) cs0 n0 [] l d.pn ys (.slice A1 d.pn k1) v gs wr) :
    Code.wp Try.prog (tlW 6) (bodyPost Try.prog Try.f22 (WkR w0.heap.size (.mk d l) p v0 n0 cs0 W)) ⟨#[.pointer (some ⟨p, 0, none⟩), .agg #[.int .i64 d.kind, .int .i64 d.n, .string (bstr d.s), .string (bstr d.t), .slice d.nA d.nn d.nc, .slice d.pA d.pn d.pc], u2, .pointer (some ⟨W.heap.size, 0, none⟩), .pointer (some ⟨W.heap.size + 1, 0, none⟩), .pointer (some ⟨g, 0, none⟩), .int .i64 (-1), u7, u8, u9, u10, u11, u12, u13, u14, u15, u16, u17, u18, u19, u20, u21, u22, u23, u24, u25, u26, u27, u28, u29, u30, u31, u32, u33, u34, u35, u36, u37, u38, u39, u40, u41, u42, u43, u44, u45, u46, u47, u48, u49, u50, u51, u52, u53, u54, u55, u56, u57, u58, u59, u60, u61, u62, u63, u64, u65, u66, u67, u68, u69, u70, u71, u72, u73, u74, u75, u76, u77, u78, u79, u80, u81, u82, u83, u84, u85, u86, u87, u88, u89, u90, u91, u92, u93, u94, u95, u96, u97, u98, u99, u100, u101, u102, u103, u104, u105, u106, u107, u108, u109, u110, u111, u112, u113, u114, u115, u116, u117, u118, u119, u120, u121, u122, u123, u124, u125, u126, u127, u128, u129, u130, u131, u132, u133, u134, u135, u136], []⟩ wr := by
  have hL : l.length = d.pn := hI.len
  rw [← hL] at h
  have HEN := Lib.hid (h.end_no hf (told_of hI hb h))
  have HD := Lib.hid h.hd
  have t5 := (cells6 h.hd).2.2.2.2.2
  clear h hI hb hf
  conv => arg 2; whnf
  go_upto_region 29 with fail
  exact walk_outh w0 W wr p g n0 d l cs0 v0 v _ gs HEN.out HD.out (by assumption)

set_option maxRecDepth 100000 in
set_option maxHeartbeats 2000000 in
theorem walk_end_fn {u2 u7 u8 u9 u10 u11 u12 u13 u14 u15 u16 u17 u18 u19 u20 u21 u22 u23 u24 u25 u26 u27 u28 u29 u30 u31 u32 u33 u34 u35 u36 u37 u38 u39 u40 u41 u42 u43 u44 u45 u46 u47 u48 u49 u50 u51 u52 u53 u54 u55 u56 u57 u58 u59 u60 u61 u62 u63 u64 u65 u66 u67 u68 u69 u70 u71 u72 u73 u74 u75 u76 u77 u78 u79 u80 u81 u82 u83 u84 u85 u86 u87 u88 u89 u90 u91 u92 u93 u94 u95 u96 u97 u98 u99 u100 u101 u102 u103 u104 u105 u106 u107 u108 u109 u110 u111 u112 u113 u114 u115 u116 u117 u118 u119 u120 u121 u122 u123 u124 u125 u126 u127 u128 u129 u130 u131 u132 u133 u134 u135 u136 : Value} (w0 W wr : World) (p g n0 : Nat) (d : ExD) (l ys : List Ex) (cs0 : List Value) (v0 v : Value) (A1 : Option Addr) (k1 : Nat) (gs : List Fu) (fz : Fu) (hI : (Ex.mk d l).In w0) (hb : Below w0.heap.size w0 wr) (hf : d.kind = 4 ∨ d.kind = 7) (hn0 : 1 ≤ n0) (hn4 : n0 + 1 + gs.length ≤ 4000000) (hc0 : cs0.length = n0 * 9) (hz : fz.y = zeroE) (hq : FunZ (numE (.mk d l) (n0 - 1)) fz)
    (h : WS w0.heap.size W p v0 g d (d.numD (n0 - 1)) (cs0 ++ fz.cells) (n0 + 1) [fz] l d.pn ys (.slice A1 d.pn k1) v gs wr) :
    Code.wp Try.prog (tlW 6) (bodyPost Try.prog Try.f22 (WkR w0.heap.size (.mk d l) p v0 n0 cs0 W)) ⟨#[.pointer (some ⟨p, 0, none⟩), .agg #[.int .i64 d.kind, .int .i64 d.n, .string (bstr d.s), .string (bstr d.t), .slice d.nA d.nn d.nc, .slice d.pA d.pn d.pc], u2, .pointer (some ⟨W.heap.size, 0, none⟩), .pointer (some ⟨W.heap.size + 1, 0, none⟩), .pointer (some ⟨g, 0, none⟩), .int .i64 (n0 : Int), u7, u8, u9, u10, u11, u12, u13, u14, u15, u16, u17, u18, u19, u20, u21, u22, u23, u24, u25, u26, u27, u28, u29, u30, u31, u32, u33, u34, u35, u36, u37, u38, u39, u40, u41, u42, u43, u44, u45, u46, u47, u48, u49, u50, u51, u52, u53, u54, u55, u56, u57, u58, u59, u60, u61, u62, u63, u64, u65, u66, u67, u68, u69, u70, u71, u72, u73, u74, u75, u76, u77, u78, u79, u80, u81, u82, u83, u84, u85, u86, u87, u88, u89, u90, u91, u92, u93, u94, u95, u96, u97, u98, u99, u100, u101, u102, u103, u104, u105, u106, u107, u108, u109, u110, u111, u112, u113, u114, u115, u116, u117, u118, u119, u120, u121, u122, u123, u124, u125, u126, u127, u128, u129, u130, u131, u132, u133, u134, u135, u136], []⟩ wr := by
  have hL : l.length = d.pn := hI.len
  rw [← hL] at h
  have hT := told_of hI hb h
  have hnn : (0 : Int) ≤ (n0 : Int) := by omega
  have HD := Lib.hid h.hd
  have t5 := (cells6 h.hd).2.2.2.2.2
  cases l with
  | nil =>
    have HEN := Lib.hid (h.end_nil hf hn0 hz hq hT)
    have t5 : wr.cell? ⟨g, 5, none⟩ = some (.slice A1 0 k1) := t5
    clear h hI hb hL hf hT hq hz hc0
    conv => arg 2; whnf
    go_upto_region 29 with fail
    exact walk_outh w0 W wr p g n0 d [] cs0 v0 v _ _ HEN.out HD.out (by assumption)
  | cons x m =>
    obtain ⟨y, ys, rfl⟩ : ∃ y ys', ys = y :: ys' := by
      cases ys with
      | nil => have := h.len; simp at this
      | cons y ys' => exact ⟨y, ys', rfl⟩
    obtain ⟨q, cf, rfl⟩ : ∃ q cf, v = .slice (some ⟨q, 0, none⟩) (n0 + 1 + gs.length) cf := by
      have ho := h.cs.own
      rw [show n0 + 1 + gs.length = (n0 + gs.length) + 1 from by omega] at ho ⊢
      exact own_some ho
    obtain ⟨rb, kk, hA⟩ : ∃ rb kk, Value.slice A1 (x :: m).length k1 = .slice (some ⟨rb, 0, none⟩) (m.length + 1) kk := own_some h.own
    obtain ⟨nf, hnf⟩ : ∃ nf, n0 + 1 + gs.length = nf := ⟨_, rfl⟩
    have ho := h.cs.own
    have hcp := h.cs.c
    have hvq := h.vlt q rfl
    have hgq : g ≠ q := fun e => h.gv.1 (by rw [e]; rfl)
    rw [hnf] at h hT ho hcp hn4
    obtain ⟨hk, hst⟩ := six_facts wr q n0 y
    have hro := row_six (y := y) ho hc0 (by omega)
    have HEN := Lib.hid (h.end_fn hf hn0 hc0 hq hT hk hst hro)
    have HD7 := Lib.hid (heap_drew ((hk g hgq).trans HD.out))
    have HE7 := Lib.hid HEN.out.drew_
    clear HEN
    injection hA with hA1 _ hA2
    subst hA1
    subst hA2
    have t5 : wr.cell? ⟨g, 5, none⟩ = some (.slice (some ⟨rb, 0, none⟩) (m.length + 1) k1) := t5
    have cp : wr.cell? ⟨p, 0, none⟩ = some (.slice (some ⟨q, 0, none⟩) nf cf) := by rw [Lib.cell_of_heap hcp]; rfl
    have hrow := h.own
    have y0 := (own_cell hrow (i := 0) (u := .int .i64 y.d.kind) rfl).1
    have y1 := (own_cell hrow (i := 1) (u := .int .i64 y.d.n) rfl).1
    have y2 := (own_cell hrow (i := 2) (u := .string (bstr y.d.s)) rfl).1
    have y3 := (own_cell hrow (i := 3) (u := .string (bstr y.d.t)) rfl).1
    have y4 := (own_cell hrow (i := 4) (u := .slice y.d.nA y.d.nn y.d.nc) rfl).1
    have y5 := (own_cell hrow (i := 5) (u := .slice y.d.pA y.d.pn y.d.pc) rfl).1
    have hat : ∀ j u, (fz.cells)[3 + j]? = some u → wr.cell? ⟨q, n0 * 9 + 3 + j, none⟩ = some u ∧ wr.frozen? ⟨q, n0 * 9 + 3 + j, none⟩ = false := fun j u hu => own_cell ho (by
      have hlt : 3 + j < fz.cells.length := (List.getElem?_eq_some_iff.1 hu).1
      rw [List.append_assoc, List.getElem?_append_right (by omega), List.getElem?_append_left (by omega), hc0, show n0 * 9 + 3 + j - n0 * 9 = 3 + j from by omega]
      exact hu)
    obtain ⟨a0, b0⟩ := hat 0 _ rfl
    obtain ⟨a1, b1⟩ := hat 1 _ rfl
    obtain ⟨a2, b2⟩ := hat 2 _ rfl
    obtain ⟨a3, b3⟩ := hat 3 _ rfl
    obtain ⟨a4, b4⟩ := hat 4 _ rfl
    obtain ⟨a5, b5⟩ := hat 5 _ rfl
    rw [Nat.add_zero] at a0 b0
    have hnq : (n0 : Int) < (nf : Int) := by omega
    have hnq4 : (n0 : Int) ≤ 4000000 := by omega
    have hpos : (0 : Int) < (m.length : Int) + 1 := by omega
    have hpos2 : 0 < m.length + 1 := by omega
    clear h hI hb hL hf hT hq hz hc0 hk hst hro hat ho hcp hrow hn4 hnf
    conv => arg 2; whnf
    go_upto_region 28 with fail
    go_region
    refine then_k (by assumption) ?_
    exact walk_out w0 W _ p g n0 d (x :: m) cs0 v0 _ _ _ HE7.out HD7.out
end Go.Proofs.Ytpnihimoekkepaa
