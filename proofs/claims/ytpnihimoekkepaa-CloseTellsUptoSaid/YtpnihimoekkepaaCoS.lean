/-
  A function by itself, by the code: walked.
-/
import Derived.Test.YtpnihimoekkepaaCoR
namespace Go.Proofs.Ytpnihimoekkepaa
open Go.ChangeShapes Go.WideShapes Go.ChangeAt Go.RowKit Go.Sort Go.Maps
set_option linter.unusedVariables false
set_option linter.unusedSimpArgs false

theorem drew3 {M : Nat} {W V : World} {i j : Nat} {a b : Option Obj} (h : Below M W V ∧ V.heap[i]? = a ∧ V.heap[j]? = b) : Below M W V.drew ∧ V.drew.heap[i]? = a ∧ V.drew.heap[j]? = b := ⟨h.1.drew, h.2.1, h.2.2⟩
theorem drew4 {M : Nat} {W V : World} {i : Nat} {a : Option Obj} {A : Option Addr} {n : Nat} {cs : List Value} {y : Ex} (h : V.heap[i]? = a ∧ Rd V 1 A n cs ∧ y.In V ∧ Below M W V) : V.drew.heap[i]? = a ∧ Rd V.drew 1 A n cs ∧ y.In V.drew ∧ Below M W V.drew := ⟨h.1, h.2.1.below (below_drew1 _), h.2.2.1.lower (below_drew1 _), h.2.2.2.drew⟩
theorem fin_ok7 {W wc : World} {y : Ex} {A : Option Addr} {n c : Nat} {ss : List Str} {B : Nat} (J : World) (m : Nat) (hsz : wc.heap.size ≤ J.heap.size) (hm : m + 2 < wc.heap.size) {x0 x1 x2 x3 x4 x5 x6 x7 x8 : Value} {T : TypeId} {fr : Nat × Nat} (hq : J.heap[m + 1]? = some (.cells #[x0, x1, x2, x3, x4, x5, x6, x7, x8] T fr))
    (hy : y.In J) (hb : y.Bl (fun b => m + 3 ≤ b)) (hrow : J.ownsRow B 9 1 (.slice A n c) n (strs ss)) (hB : wc.heap.size ≤ B) (hw : Below m W J) (a0 a1 a2 a3 a4 a5 a6 a7 a8 : Value) :
    (put9 J (m + 1) a0 a1 a2 a3 a4 a5 a6 a7 a8).drew.heap[m + 1]? = some (.cells #[a0, a1, a2, a3, a4, a5, a6, a7, a8] T fr) ∧ Rd (put9 J (m + 1) a0 a1 a2 a3 a4 a5 a6 a7 a8).drew 1 A n (strs ss) ∧ y.In (put9 J (m + 1) a0 a1 a2 a3 a4 a5 a6 a7 a8).drew ∧ Below m W (put9 J (m + 1) a0 a1 a2 a3 a4 a5 a6 a7 a8).drew :=
  drew4 (fin_ok J m hsz hm hq hy hb hrow hB hw a0 a1 a2 a3 a4 a5 a6 a7 a8)
set_option maxRecDepth 100000 in
set_option maxHeartbeats 4000000 in
theorem fun_any (t : Ex) (g : Nat) (W : World) (hI : t.In W) (hAt : t.d.At W g 0) (hnd : t.nodes ≤ 4000000) : Calls Try.prog 19 #[.pointer (some ⟨g, 0, none⟩)] W (FunR t W) := by
  obtain ⟨d, l⟩ := t
  have hAt : d.At W g 0 := hAt
  have hgW : g < W.heap.size := hAt.lt
  have hb1 : Below W.heap.size W (W.alloc (.cells #[.pointer (some ⟨g, 0, none⟩)] 45)) := (Below.refl _ _).alloc (Nat.le_refl _) _
  have hb2 : Below W.heap.size W ((W.alloc (.cells #[.pointer (some ⟨g, 0, none⟩)] 45)).alloc (.cells #[.string ⟨#[]⟩, .string ⟨#[]⟩, .slice none 0 0, .int .i64 0, .int .i64 0, .string ⟨#[]⟩, .string ⟨#[]⟩, .slice none 0 0, .slice none 0 0] 37)) := hb1.alloc hb1.size _
  have hb3 : Below W.heap.size W (((W.alloc (.cells #[.pointer (some ⟨g, 0, none⟩)] 45)).alloc (.cells #[.string ⟨#[]⟩, .string ⟨#[]⟩, .slice none 0 0, .int .i64 0, .int .i64 0, .string ⟨#[]⟩, .string ⟨#[]⟩, .slice none 0 0, .slice none 0 0] 37)).alloc (.cells #[.int .i64 0, .int .i64 0, .string ⟨#[]⟩, .string ⟨#[]⟩, .slice none 0 0, .slice none 0 0] 25)) := hb2.alloc hb2.size _
  have hs1 : (W.alloc (.cells #[.pointer (some ⟨g, 0, none⟩)] 45)).heap.size = W.heap.size + 1 := World.size_alloc _ _
  have hs2 : ((W.alloc (.cells #[.pointer (some ⟨g, 0, none⟩)] 45)).alloc (.cells #[.string ⟨#[]⟩, .string ⟨#[]⟩, .slice none 0 0, .int .i64 0, .int .i64 0, .string ⟨#[]⟩, .string ⟨#[]⟩, .slice none 0 0, .slice none 0 0] 37)).heap.size = W.heap.size + 2 := by simp
  have HBX := Lib.hid (show (((W.alloc (.cells #[.pointer (some ⟨g, 0, none⟩)] 45)).alloc (.cells #[.string ⟨#[]⟩, .string ⟨#[]⟩, .slice none 0 0, .int .i64 0, .int .i64 0, .string ⟨#[]⟩, .string ⟨#[]⟩, .slice none 0 0, .slice none 0 0] 37)).alloc (.cells #[.int .i64 0, .int .i64 0, .string ⟨#[]⟩, .string ⟨#[]⟩, .slice none 0 0, .slice none 0 0] 25)).heap[W.heap.size]? = some (.cells #[.pointer (some ⟨g, 0, none⟩)] 45) from (Below.heap_alloc _ _ _ (by rw [hs2]; omega)).trans ((Below.heap_alloc _ _ _ (by rw [hs1]; omega)).trans (heap_alloc_new W (.cells #[.pointer (some ⟨g, 0, none⟩)] 45))))
  have HR9 := Lib.hid (show (((W.alloc (.cells #[.pointer (some ⟨g, 0, none⟩)] 45)).alloc (.cells #[.string ⟨#[]⟩, .string ⟨#[]⟩, .slice none 0 0, .int .i64 0, .int .i64 0, .string ⟨#[]⟩, .string ⟨#[]⟩, .slice none 0 0, .slice none 0 0] 37)).alloc (.cells #[.int .i64 0, .int .i64 0, .string ⟨#[]⟩, .string ⟨#[]⟩, .slice none 0 0, .slice none 0 0] 25)).heap[W.heap.size + 1]? = some (.cells #[.string ⟨#[]⟩, .string ⟨#[]⟩, .slice none 0 0, .int .i64 0, .int .i64 0, .string ⟨#[]⟩, .string ⟨#[]⟩, .slice none 0 0, .slice none 0 0] 37) by
    have h := heap_alloc_new (W.alloc (.cells #[.pointer (some ⟨g, 0, none⟩)] 45)) (.cells #[.string ⟨#[]⟩, .string ⟨#[]⟩, .slice none 0 0, .int .i64 0, .int .i64 0, .string ⟨#[]⟩, .string ⟨#[]⟩, .slice none 0 0, .slice none 0 0] 37)
    rw [hs1] at h
    exact (Below.heap_alloc _ _ _ (by rw [hs2]; omega)).trans h)
  have HP6 := Lib.hid (show (((W.alloc (.cells #[.pointer (some ⟨g, 0, none⟩)] 45)).alloc (.cells #[.string ⟨#[]⟩, .string ⟨#[]⟩, .slice none 0 0, .int .i64 0, .int .i64 0, .string ⟨#[]⟩, .string ⟨#[]⟩, .slice none 0 0, .slice none 0 0] 37)).alloc (.cells #[.int .i64 0, .int .i64 0, .string ⟨#[]⟩, .string ⟨#[]⟩, .slice none 0 0, .slice none 0 0] 25)).heap[W.heap.size + 2]? = some (.cells #[.int .i64 0, .int .i64 0, .string ⟨#[]⟩, .string ⟨#[]⟩, .slice none 0 0, .slice none 0 0] 25) by
    have h := heap_alloc_new ((W.alloc (.cells #[.pointer (some ⟨g, 0, none⟩)] 45)).alloc (.cells #[.string ⟨#[]⟩, .string ⟨#[]⟩, .slice none 0 0, .int .i64 0, .int .i64 0, .string ⟨#[]⟩, .string ⟨#[]⟩, .slice none 0 0, .slice none 0 0] 37)) (.cells #[.int .i64 0, .int .i64 0, .string ⟨#[]⟩, .string ⟨#[]⟩, .slice none 0 0, .slice none 0 0] 25)
    rw [hs2] at h
    exact h)
  have HSZ := Lib.hid (show (((W.alloc (.cells #[.pointer (some ⟨g, 0, none⟩)] 45)).alloc (.cells #[.string ⟨#[]⟩, .string ⟨#[]⟩, .slice none 0 0, .int .i64 0, .int .i64 0, .string ⟨#[]⟩, .string ⟨#[]⟩, .slice none 0 0, .slice none 0 0] 37)).alloc (.cells #[.int .i64 0, .int .i64 0, .string ⟨#[]⟩, .string ⟨#[]⟩, .slice none 0 0, .slice none 0 0] 25)).heap.size = W.heap.size + 3 by simp)
  have HB3 := Lib.hid hb3
  have HI := Lib.hid hI
  have HE := Lib.hid (show ∀ V, Below W.heap.size W V → d.At V g 0 from fun V h => hAt.lower h)
  have HND := Lib.hid hnd
  have HG := Lib.hid hgW
  have HL := Lib.hid (show l.length = d.pn from hI.len)
  have HPT := Lib.hid (show ∀ x m, l = x :: m → ∃ pb po, d.pA = some ⟨pb, po, none⟩ ∧ x.d.At W pb po ∧ x.In W ∧ x.nodes ≤ 4000000 from fun x m e => by
    subst e
    obtain ⟨pb, po, hpA, hAtP⟩ := hI.part (k := 0) (by simp [Ex.l])
    have h0 := hAtP 0 (by simp [Ex.l])
    rw [Nat.zero_mul, Nat.add_zero] at h0
    exact ⟨pb, po, hpA, h0, hI.sub x (by simp [Ex.l]), by unfold Ex.nodes at hnd; unfold enodesL at hnd; omega⟩)
  clear hb1 hb2 hb3 hs1 hs2 hI hAt hnd hgW
  go_enter Try.func19, Try.ntmps19
  go_upto_region 2 with fail
  generalize (((W.alloc (.cells #[.pointer (some ⟨g, 0, none⟩)] 45)).alloc (.cells #[.string ⟨#[]⟩, .string ⟨#[]⟩, .slice none 0 0, .int .i64 0, .int .i64 0, .string ⟨#[]⟩, .string ⟨#[]⟩, .slice none 0 0, .slice none 0 0] 37)).alloc (.cells #[.int .i64 0, .int .i64 0, .string ⟨#[]⟩, .string ⟨#[]⟩, .slice none 0 0, .slice none 0 0] 25)) = w1 at *
  have b0 : w1.cell? ⟨W.heap.size, 0, none⟩ = some (.pointer (some ⟨g, 0, none⟩)) := by rw [Lib.cell_of_heap HBX.out]; rfl
  have c5 := (HE.out _ HB3.out).c5
  go_upto_if 10 with fail
  go_cut [] from 5 to 16 (fun wx => ∃ y : Ex, y.In wx ∧ y.Bl (fun b => W.heap.size + 3 ≤ b) ∧ y.eqv (partOf (.mk d l)) ∧ wx.heap[W.heap.size + 2]? = some (.cells #[.int .i64 y.d.kind, .int .i64 y.d.n, .string (bstr y.d.s), .string (bstr y.d.t), .slice y.d.nA y.d.nn y.d.nc, .slice y.d.pA y.d.pn y.d.pc] 25) ∧ wx.heap[W.heap.size]? = some (.cells #[.pointer (some ⟨g, 0, none⟩)] 45) ∧ wx.heap[W.heap.size + 1]? = some (.cells #[.string ⟨#[]⟩, .string ⟨#[]⟩, .slice none 0 0, .int .i64 0, .int .i64 0, .string ⟨#[]⟩, .string ⟨#[]⟩, .slice none 0 0, .slice none 0 0] 37) ∧ Below W.heap.size W wx)
  case first =>
    cases l with
    | nil =>
      have hp0 : d.pn = 0 := HL.out.symm
      have q0 : ¬ (0 : Int) < (d.pn : Int) := by omega
      go_wp2_with fail
      go_meet
      exact ⟨zeroE, zeroE_in _, zeroE_bl _, eqv_refl _, HP6.out, HBX.out, HR9.out, HB3.out⟩
    | cons x m =>
      obtain ⟨pb, po, hpA, hAtx, hIx, hnx⟩ := HPT.out x m rfl
      have hp1 : d.pn = m.length + 1 := HL.out.symm
      have q0 : (0 : Int) < (d.pn : Int) := by omega
      have q1 : 0 < d.pn := by omega
      rw [hpA] at c5
      have HCP := Lib.hid (copied_any W x hIx pb po w1 hAtx HB3.out)
      clear hpA hAtx hIx hnx hp1
      go_wp2_with fail
      refine HCP.out.mono ?_
      rintro e w2 ⟨y, rfl, hin, hbl, he, hb2⟩
      have H2 := Lib.hid (And.intro hin (And.intro hbl (And.intro he hb2)))
      have hq := (hb2.block (W.heap.size + 2) (by rw [HSZ.out]; omega)).trans HP6.out
      have HQ := Lib.hid hq
      obtain ⟨r0, r1, r2, r3, r4, r5⟩ := cells6 hq
      obtain ⟨z0, z1, z2, z3, z4, z5⟩ := frozen6 hq
      clear hin hbl he hb2 hq b0 c5 HCP
      go_wp2_with fail
      clear r0 r1 r2 r3 r4 r5 z0 z1 z2 z3 z4 z5
      go_meet
      have hs := HSZ.out
      refine ⟨y, H2.out.1.keepP H2.out.2.1 (fun b hb _ => put6_other w2 (W.heap.size + 2) _ _ _ _ _ _ (by omega)), H2.out.2.1.imp H2.out.1 (fun b hb _ => by omega), H2.out.2.2.1, put6_box w2 (W.heap.size + 2) HQ.out _ _ _ _ _ _, ?_, ?_, put6_below (below_then HB3.out H2.out.2.2.2) (by omega) _ _ _ _ _ _⟩
      · exact (put6_other w2 (W.heap.size + 2) _ _ _ _ _ _ (by omega)).trans ((H2.out.2.2.2.block _ (by omega)).trans HBX.out)
      · exact (put6_other w2 (W.heap.size + 2) _ _ _ _ _ _ (by omega)).trans ((H2.out.2.2.2.block _ (by omega)).trans HR9.out)
  case rest =>
  obtain ⟨y, hyi, hyb, hye, hp6, hbx, hr9, hbw⟩ := hcut
  have HY := Lib.hid (And.intro hyi (And.intro hyb hye))
  have HC := Lib.hid (And.intro hp6 (And.intro hbx (And.intro hr9 hbw)))
  have HNY := Lib.hid (show y.nodes ≤ 4000000 by rw [nodes_eqv y _ hye]; exact part_nodes HND.out)
  clear b0 c5 hyi hyb hye hp6 hbx hr9 hbw HP6 HBX HR9 HB3 HSZ HPT
  have HSC := Lib.hid (show ∀ V, (Below W.heap.size W V ∧ V.heap[W.heap.size + 2]? = some (.cells #[.int .i64 y.d.kind, .int .i64 y.d.n, .string (bstr y.d.s), .string (bstr y.d.t), .slice y.d.nA y.d.nn y.d.nc, .slice y.d.pA y.d.pn y.d.pc] 25) ∧ V.heap[W.heap.size]? = some (.cells #[.pointer (some ⟨g, 0, none⟩)] 45)) → V.cell? ⟨W.heap.size, 0, none⟩ = some (.pointer (some ⟨g, 0, none⟩)) ∧ V.cell? ⟨g, 0, none⟩ = some (.int .i64 d.kind) ∧ V.cell? ⟨g, 0 + 1, none⟩ = some (.int .i64 d.n) ∧ V.cell? ⟨g, 0 + 2, none⟩ = some (.string (bstr d.s)) ∧ V.cell? ⟨g, 0 + 3, none⟩ = some (.string (bstr d.t)) ∧ V.cell? ⟨g, 0 + 4, none⟩ = some (.slice d.nA d.nn d.nc) ∧ V.cell? ⟨g, 0 + 5, none⟩ = some (.slice d.pA d.pn d.pc) ∧ V.cell? ⟨g, 2, none⟩ = some (.string (bstr d.s)) ∧ V.cell? ⟨g, 3, none⟩ = some (.string (bstr d.t)) ∧ V.cell? ⟨W.heap.size + 2, 0, none⟩ = some (.int .i64 y.d.kind) ∧ V.cell? ⟨W.heap.size + 2, 0 + 1, none⟩ = some (.int .i64 y.d.n) ∧ V.cell? ⟨W.heap.size + 2, 0 + 2, none⟩ = some (.string (bstr y.d.s)) ∧ V.cell? ⟨W.heap.size + 2, 0 + 3, none⟩ = some (.string (bstr y.d.t)) ∧ V.cell? ⟨W.heap.size + 2, 0 + 4, none⟩ = some (.slice y.d.nA y.d.nn y.d.nc) ∧ V.cell? ⟨W.heap.size + 2, 0 + 5, none⟩ = some (.slice y.d.pA y.d.pn y.d.pc) from fun V h => by
    obtain ⟨c0, c1, c2, c3, c4, c5⟩ := HE.out V h.1
    obtain ⟨y0, y1, y2, y3, y4, y5⟩ := cells6 h.2.1
    exact ⟨by rw [Lib.cell_of_heap h.2.2]; rfl, c0, c1, c2, c3, c4, c5, by simpa using c2, by simpa using c3, y0, y1, y2, y3, y4, y5⟩)
  have HBE := Lib.hid (show ∀ V, Below wc.heap.size wc V → (Below W.heap.size W V ∧ V.heap[W.heap.size + 2]? = some (.cells #[.int .i64 y.d.kind, .int .i64 y.d.n, .string (bstr y.d.s), .string (bstr y.d.t), .slice y.d.nA y.d.nn y.d.nc, .slice y.d.pA y.d.pn y.d.pc] 25) ∧ V.heap[W.heap.size]? = some (.cells #[.pointer (some ⟨g, 0, none⟩)] 45)) from fun V h => ⟨below_then HC.out.2.2.2 h, (h.block _ (lt_of_heap HC.out.1)).trans HC.out.1, (h.block _ (lt_of_heap HC.out.2.1)).trans HC.out.2.1⟩)
  have HPU := Lib.hid (show ∀ V a0 a1 a2 a3 a4 a5 a6 a7 a8, (Below W.heap.size W V ∧ V.heap[W.heap.size + 2]? = some (.cells #[.int .i64 y.d.kind, .int .i64 y.d.n, .string (bstr y.d.s), .string (bstr y.d.t), .slice y.d.nA y.d.nn y.d.nc, .slice y.d.pA y.d.pn y.d.pc] 25) ∧ V.heap[W.heap.size]? = some (.cells #[.pointer (some ⟨g, 0, none⟩)] 45)) → (Below W.heap.size W (put9 V (W.heap.size + 1) a0 a1 a2 a3 a4 a5 a6 a7 a8) ∧ (put9 V (W.heap.size + 1) a0 a1 a2 a3 a4 a5 a6 a7 a8).heap[W.heap.size + 2]? = some (.cells #[.int .i64 y.d.kind, .int .i64 y.d.n, .string (bstr y.d.s), .string (bstr y.d.t), .slice y.d.nA y.d.nn y.d.nc, .slice y.d.pA y.d.pn y.d.pc] 25) ∧ (put9 V (W.heap.size + 1) a0 a1 a2 a3 a4 a5 a6 a7 a8).heap[W.heap.size]? = some (.cells #[.pointer (some ⟨g, 0, none⟩)] 45)) from fun V a0 a1 a2 a3 a4 a5 a6 a7 a8 h => ⟨put9_below h.1 (by omega) _ _ _ _ _ _ _ _ _, (put9_other V _ _ _ _ _ _ _ _ _ _ (by omega)).trans h.2.1, (put9_other V _ _ _ _ _ _ _ _ _ _ (by omega)).trans h.2.2⟩)
  have HB0 := Lib.hid (show wc.cell? ⟨W.heap.size, 0, none⟩ = some (.pointer (some ⟨g, 0, none⟩)) ∧ wc.cell? ⟨g, 0, none⟩ = some (.int .i64 d.kind) from ⟨(HSC.out _ (HBE.out _ (Below.refl _ _))).1, (HSC.out _ (HBE.out _ (Below.refl _ _))).2.1⟩)
  obtain ⟨b0, b1⟩ := HB0.out
  by_cases h4 : d.kind = 4
  · have q4 : (d.kind == 4) = true := by simpa using h4
    have HK4 := Lib.hid h4
    clear h4
    have HFR := Lib.hid (show Calls Try.prog 13 #[.agg #[.int .i64 d.kind, .int .i64 d.n, .string (bstr d.s), .string (bstr d.t), .slice d.nA d.nn d.nc, .slice d.pA d.pn d.pc]] wc.drew (fun e w' => FrR (.mk d l) wc.drew e w') from Free_any (.mk d l) wc.drew (HI.out.lower (below_then HC.out.2.2.2 (below_drew1 _))) HND.out)
    have HSD := Lib.hid (HSC.out _ (HBE.out _ (below_drew1 wc)))
    go_upto_region 5 with fail
    clear b0 b1
    go_region_held3 (fun V => V.cell? ⟨W.heap.size, 0, none⟩ = some (.pointer (some ⟨g, 0, none⟩)) ∧ V.cell? ⟨g, 0, none⟩ = some (.int .i64 d.kind) ∧ V.cell? ⟨g, 0 + 1, none⟩ = some (.int .i64 d.n) ∧ V.cell? ⟨g, 0 + 2, none⟩ = some (.string (bstr d.s)) ∧ V.cell? ⟨g, 0 + 3, none⟩ = some (.string (bstr d.t)) ∧ V.cell? ⟨g, 0 + 4, none⟩ = some (.slice d.nA d.nn d.nc) ∧ V.cell? ⟨g, 0 + 5, none⟩ = some (.slice d.pA d.pn d.pc) ∧ V.cell? ⟨g, 2, none⟩ = some (.string (bstr d.s)) ∧ V.cell? ⟨g, 3, none⟩ = some (.string (bstr d.t)) ∧ V.cell? ⟨W.heap.size + 2, 0, none⟩ = some (.int .i64 y.d.kind) ∧ V.cell? ⟨W.heap.size + 2, 0 + 1, none⟩ = some (.int .i64 y.d.n) ∧ V.cell? ⟨W.heap.size + 2, 0 + 2, none⟩ = some (.string (bstr y.d.s)) ∧ V.cell? ⟨W.heap.size + 2, 0 + 3, none⟩ = some (.string (bstr y.d.t)) ∧ V.cell? ⟨W.heap.size + 2, 0 + 4, none⟩ = some (.slice y.d.nA y.d.nn y.d.nc) ∧ V.cell? ⟨W.heap.size + 2, 0 + 5, none⟩ = some (.slice y.d.pA y.d.pn y.d.pc))
      (first | with_reducible exact HSD.out | with_reducible exact HSJ.out | with_reducible exact HSE.out _ _ _ _ _ _ _ _ _ | fail)
      (first
      | (go_at_call 13; (with_reducible refine HFR.out.mono ?_); rintro e J ⟨A, n, c, ss, rfl, hrow, hn4, hf1, hf2, hbj, hnd⟩; have HJ := Lib.hid (below_then (below_drew1 wc) hbj); have HF := Lib.hid (And.intro hrow (And.intro hn4 (And.intro hf1 (And.intro hf2 hnd)))); have hq := (HJ.out.block _ (lt_of_heap HC.out.2.2.1)).trans HC.out.2.2.1; have HQ := Lib.hid hq; have HSJ := Lib.hid (HSC.out _ (HBE.out _ HJ.out)); have HSE := Lib.hid (fun a0 a1 a2 a3 a4 a5 a6 a7 a8 => HSC.out _ (HPU.out J a0 a1 a2 a3 a4 a5 a6 a7 a8 (HBE.out _ HJ.out))); obtain ⟨r0, r1, r2, r3, r4, r5, r6, r7, r8⟩ := cells9 hq; obtain ⟨z0, z1, z2, z3, z4, z5, z6, z7, z8⟩ : J.frozen? ⟨W.heap.size + 1, 0, none⟩ = false ∧ J.frozen? ⟨W.heap.size + 1, 1, none⟩ = false ∧ J.frozen? ⟨W.heap.size + 1, 2, none⟩ = false ∧ J.frozen? ⟨W.heap.size + 1, 3, none⟩ = false ∧ J.frozen? ⟨W.heap.size + 1, 4, none⟩ = false ∧ J.frozen? ⟨W.heap.size + 1, 5, none⟩ = false ∧ J.frozen? ⟨W.heap.size + 1, 6, none⟩ = false ∧ J.frozen? ⟨W.heap.size + 1, 7, none⟩ = false ∧ J.frozen? ⟨W.heap.size + 1, 8, none⟩ = false := ⟨frozen9 hq 0, frozen9 hq 1, frozen9 hq 2, frozen9 hq 3, frozen9 hq 4, frozen9 hq 5, frozen9 hq 6, frozen9 hq 7, frozen9 hq 8⟩; clear hrow hn4 hf1 hf2 hbj hnd hq)
      | fail)
    all_goals
      go_wp2_with fail
      clear r0 r1 r2 r3 r4 r5 r6 r7 r8 z0 z1 z2 z3 z4 z5 z6 z7 z8
      have HW3 := Lib.hid (lt_of_heap HC.out.1)
      have HN := Lib.hid (show (((((((((J.setCell ⟨W.heap.size + 1, 0, none⟩ (.string ⟨#[]⟩)).setCell ⟨W.heap.size + 1, 1, none⟩ (.string (bstr d.s))).setCell ⟨W.heap.size + 1, 2, none⟩ (.slice A n c)).setCell ⟨W.heap.size + 1, 3, none⟩ (.int .i64 y.d.kind)).setCell ⟨W.heap.size + 1, 4, none⟩ (.int .i64 y.d.n)).setCell ⟨W.heap.size + 1, 5, none⟩ (.string (bstr y.d.s))).setCell ⟨W.heap.size + 1, 6, none⟩ (.string (bstr y.d.t))).setCell ⟨W.heap.size + 1, 7, none⟩ (.slice y.d.nA y.d.nn y.d.nc)).setCell ⟨W.heap.size + 1, 8, none⟩ (.slice y.d.pA y.d.pn y.d.pc)).heap[W.heap.size + 1]? = some (.cells #[.string ⟨#[]⟩, .string (bstr d.s), .slice A n c, .int .i64 y.d.kind, .int .i64 y.d.n, .string (bstr y.d.s), .string (bstr y.d.t), .slice y.d.nA y.d.nn y.d.nc, .slice y.d.pA y.d.pn y.d.pc] 37) ∧ Rd (((((((((J.setCell ⟨W.heap.size + 1, 0, none⟩ (.string ⟨#[]⟩)).setCell ⟨W.heap.size + 1, 1, none⟩ (.string (bstr d.s))).setCell ⟨W.heap.size + 1, 2, none⟩ (.slice A n c)).setCell ⟨W.heap.size + 1, 3, none⟩ (.int .i64 y.d.kind)).setCell ⟨W.heap.size + 1, 4, none⟩ (.int .i64 y.d.n)).setCell ⟨W.heap.size + 1, 5, none⟩ (.string (bstr y.d.s))).setCell ⟨W.heap.size + 1, 6, none⟩ (.string (bstr y.d.t))).setCell ⟨W.heap.size + 1, 7, none⟩ (.slice y.d.nA y.d.nn y.d.nc)).setCell ⟨W.heap.size + 1, 8, none⟩ (.slice y.d.pA y.d.pn y.d.pc)) 1 A n (strs ss) ∧ y.In (((((((((J.setCell ⟨W.heap.size + 1, 0, none⟩ (.string ⟨#[]⟩)).setCell ⟨W.heap.size + 1, 1, none⟩ (.string (bstr d.s))).setCell ⟨W.heap.size + 1, 2, none⟩ (.slice A n c)).setCell ⟨W.heap.size + 1, 3, none⟩ (.int .i64 y.d.kind)).setCell ⟨W.heap.size + 1, 4, none⟩ (.int .i64 y.d.n)).setCell ⟨W.heap.size + 1, 5, none⟩ (.string (bstr y.d.s))).setCell ⟨W.heap.size + 1, 6, none⟩ (.string (bstr y.d.t))).setCell ⟨W.heap.size + 1, 7, none⟩ (.slice y.d.nA y.d.nn y.d.nc)).setCell ⟨W.heap.size + 1, 8, none⟩ (.slice y.d.pA y.d.pn y.d.pc)) ∧ Below W.heap.size W (((((((((J.setCell ⟨W.heap.size + 1, 0, none⟩ (.string ⟨#[]⟩)).setCell ⟨W.heap.size + 1, 1, none⟩ (.string (bstr d.s))).setCell ⟨W.heap.size + 1, 2, none⟩ (.slice A n c)).setCell ⟨W.heap.size + 1, 3, none⟩ (.int .i64 y.d.kind)).setCell ⟨W.heap.size + 1, 4, none⟩ (.int .i64 y.d.n)).setCell ⟨W.heap.size + 1, 5, none⟩ (.string (bstr y.d.s))).setCell ⟨W.heap.size + 1, 6, none⟩ (.string (bstr y.d.t))).setCell ⟨W.heap.size + 1, 7, none⟩ (.slice y.d.nA y.d.nn y.d.nc)).setCell ⟨W.heap.size + 1, 8, none⟩ (.slice y.d.pA y.d.pn y.d.pc)) from fin_ok J W.heap.size HJ.out.size HW3.out HQ.out (HY.out.1.lower HJ.out) HY.out.2.1 HF.out.1 (show wc.heap.size ≤ wc.drew.heap.size from Nat.le_refl _) (below_then HC.out.2.2.2 HJ.out) (.string ⟨#[]⟩) (.string (bstr d.s)) (.slice A n c) (.int .i64 y.d.kind) (.int .i64 y.d.n) (.string (bstr y.d.s)) (.string (bstr y.d.t)) (.slice y.d.nA y.d.nn y.d.nc) (.slice y.d.pA y.d.pn y.d.pc))
      have HCA := Lib.hid (show CapsOk (.mk d l) ss from ⟨fun x hx => ⟨by unfold capB; rw [if_pos (show (Ex.mk d l).d.kind = 4 from HK4.out)]; exact (HF.out.2.2.1 x hx).1, (HF.out.2.2.1 x hx).2⟩, fun x hl hx => by unfold capB at hx; rw [if_pos (show (Ex.mk d l).d.kind = 4 from HK4.out)] at hx; exact HF.out.2.2.2.1 x hl hx, HF.out.2.2.2.2⟩)
      have HSM := Lib.hid (show n ≤ c ∧ c ≤ maxLen ∧ n ≤ 4000000 by
        obtain ⟨A', c', e, k1, k2, _⟩ := own_cap HF.out.1
        injection e with _ _ e
        subst e
        exact ⟨k1, k2, HF.out.2.1⟩)
      have HYE := Lib.hid HY.out.2.2
      have HK5 := Lib.hid HK4.out
      have HUB := Lib.hid (show Fu.Bl (fun b => W.heap.size ≤ b) ⟨[], d.s, A, n, c, ss, y⟩ from ⟨fun hn a ha => by have h1 := (HF.out.1.lt a.block (by rw [show A = some a from ha]; rfl)).1; have h2 := HW3.out; have h3 : wc.drew.heap.size = wc.heap.size := rfl; omega, HY.out.2.1.imp HY.out.1 (fun b hb _ => by omega)⟩)
      clear HJ HF HQ HSJ HSE HSD HFR HC HSC HBE HPU HY
      generalize (((((((((J.setCell ⟨W.heap.size + 1, 0, none⟩ (.string ⟨#[]⟩)).setCell ⟨W.heap.size + 1, 1, none⟩ (.string (bstr d.s))).setCell ⟨W.heap.size + 1, 2, none⟩ (.slice A n c)).setCell ⟨W.heap.size + 1, 3, none⟩ (.int .i64 y.d.kind)).setCell ⟨W.heap.size + 1, 4, none⟩ (.int .i64 y.d.n)).setCell ⟨W.heap.size + 1, 5, none⟩ (.string (bstr y.d.s))).setCell ⟨W.heap.size + 1, 6, none⟩ (.string (bstr y.d.t))).setCell ⟨W.heap.size + 1, 7, none⟩ (.slice y.d.nA y.d.nn y.d.nc)).setCell ⟨W.heap.size + 1, 8, none⟩ (.slice y.d.pA y.d.pn y.d.pc)) = w7 at *
      obtain ⟨e0, e1, e2, e3, e4, e5, e6, e7, e8⟩ := cells9 HN.out.1
      refine bodyPost_ret (by simp [results, Try.results19, go_sem, e0, e1, e2, e3, e4, e5, e6, e7, e8]; try rfl) rfl ?_
      exact ⟨⟨[], d.s, A, n, c, ss, y⟩, rfl, ⟨HN.out.2.1, HSM.out, HN.out.2.2.1⟩, (if_pos HK5.out).symm, (if_pos HK5.out).symm, HYE.out, HCA.out, HN.out.2.2.2, HUB.out⟩
  · have q4 : (d.kind == 4) = false := by simpa using h4
    have HK4 := Lib.hid h4
    clear h4
    obtain ⟨_, _, _, _, _, _, _, _, _, y0, y1, y2, y3, y4, y5⟩ := HSC.out _ (HBE.out _ (Below.refl _ _))
    go_wp2_with fail
    refine (Free_any y wc HY.out.1 HNY.out).mono ?_
    rintro e J ⟨A, n, c, ss, rfl, hrow, hn4, hf1, hf2, hbj, hnd⟩
    obtain rfl : n = ss.length := own_len hrow
    have HF := Lib.hid (And.intro hf1 (And.intro hf2 hnd))
    have HWZ := Lib.hid (lt_of_heap HC.out.1)
    have hcj := HBE.out _ hbj
    obtain ⟨k0, _, _, k2, k3, _⟩ := HSC.out _ hcj
    have HDL := Lib.hid (del_any d g 0 W.heap.size wc.heap.size (.slice A ss.length c) ss J hrow hbj.size hn4 (by have := HWZ.out; omega) (by have := HWZ.out; have := HG.out; omega) k0 k2 k3)
    have HJ := Lib.hid (And.intro hbj hn4)
    clear b0 b1 y0 y1 y2 y3 y4 y5 hrow hf1 hf2 hbj hnd hcj k0 k2 k3 hn4
    go_wp2_with fail
    refine HDL.out.mono ?_
    rintro e J2 ⟨v2, rfl, hrow2, hb2⟩
    obtain ⟨A2, c2, rfl, hc1, hc2, _⟩ := own_cap hrow2
    have HJ2 := Lib.hid (HJ.out.1.trans hb2)
    have HR2 := Lib.hid (And.intro hrow2 (And.intro hc1 hc2))
    have HCJ := Lib.hid (HBE.out _ HJ2.out)
    have HSD := Lib.hid (HSC.out _ (show (Below W.heap.size W J2.drew ∧ J2.drew.heap[W.heap.size + 2]? = some (.cells #[.int .i64 y.d.kind, .int .i64 y.d.n, .string (bstr y.d.s), .string (bstr y.d.t), .slice y.d.nA y.d.nn y.d.nc, .slice y.d.pA y.d.pn y.d.pc] 25) ∧ J2.drew.heap[W.heap.size]? = some (.cells #[.pointer (some ⟨g, 0, none⟩)] 45)) from ⟨HCJ.out.1.drew, HCJ.out.2.1, HCJ.out.2.2⟩))
    have HSE := Lib.hid (fun a0 a1 a2 a3 a4 a5 a6 a7 a8 => HSC.out _ (drew3 (HPU.out J2 a0 a1 a2 a3 a4 a5 a6 a7 a8 HCJ.out)))
    have HQ := Lib.hid (show J2.drew.heap[W.heap.size + 1]? = some (.cells #[.string ⟨#[]⟩, .string ⟨#[]⟩, .slice none 0 0, .int .i64 0, .int .i64 0, .string ⟨#[]⟩, .string ⟨#[]⟩, .slice none 0 0, .slice none 0 0] 37) from (HJ2.out.block _ (lt_of_heap HC.out.2.2.1)).trans HC.out.2.2.1)
    have HQ2 := Lib.hid (show J2.heap[W.heap.size + 1]? = some (.cells #[.string ⟨#[]⟩, .string ⟨#[]⟩, .slice none 0 0, .int .i64 0, .int .i64 0, .string ⟨#[]⟩, .string ⟨#[]⟩, .slice none 0 0, .slice none 0 0] 37) from HQ.out)
    clear hrow2 hb2 hc1 hc2 HDL
    obtain ⟨r0, r1, r2, r3, r4, r5, r6, r7, r8⟩ := cells9 HQ2.out
    obtain ⟨z0, z1, z2, z3, z4, z5, z6, z7, z8⟩ : J2.frozen? ⟨W.heap.size + 1, 0, none⟩ = false ∧ J2.frozen? ⟨W.heap.size + 1, 1, none⟩ = false ∧ J2.frozen? ⟨W.heap.size + 1, 2, none⟩ = false ∧ J2.frozen? ⟨W.heap.size + 1, 3, none⟩ = false ∧ J2.frozen? ⟨W.heap.size + 1, 4, none⟩ = false ∧ J2.frozen? ⟨W.heap.size + 1, 5, none⟩ = false ∧ J2.frozen? ⟨W.heap.size + 1, 6, none⟩ = false ∧ J2.frozen? ⟨W.heap.size + 1, 7, none⟩ = false ∧ J2.frozen? ⟨W.heap.size + 1, 8, none⟩ = false := ⟨frozen9 HQ2.out 0, frozen9 HQ2.out 1, frozen9 HQ2.out 2, frozen9 HQ2.out 3, frozen9 HQ2.out 4, frozen9 HQ2.out 5, frozen9 HQ2.out 6, frozen9 HQ2.out 7, frozen9 HQ2.out 8⟩
    go_upto_region 7 with fail
    go_region_held3 (fun V => V.cell? ⟨W.heap.size, 0, none⟩ = some (.pointer (some ⟨g, 0, none⟩)) ∧ V.cell? ⟨g, 0, none⟩ = some (.int .i64 d.kind) ∧ V.cell? ⟨g, 0 + 1, none⟩ = some (.int .i64 d.n) ∧ V.cell? ⟨g, 0 + 2, none⟩ = some (.string (bstr d.s)) ∧ V.cell? ⟨g, 0 + 3, none⟩ = some (.string (bstr d.t)) ∧ V.cell? ⟨g, 0 + 4, none⟩ = some (.slice d.nA d.nn d.nc) ∧ V.cell? ⟨g, 0 + 5, none⟩ = some (.slice d.pA d.pn d.pc) ∧ V.cell? ⟨g, 2, none⟩ = some (.string (bstr d.s)) ∧ V.cell? ⟨g, 3, none⟩ = some (.string (bstr d.t)) ∧ V.cell? ⟨W.heap.size + 2, 0, none⟩ = some (.int .i64 y.d.kind) ∧ V.cell? ⟨W.heap.size + 2, 0 + 1, none⟩ = some (.int .i64 y.d.n) ∧ V.cell? ⟨W.heap.size + 2, 0 + 2, none⟩ = some (.string (bstr y.d.s)) ∧ V.cell? ⟨W.heap.size + 2, 0 + 3, none⟩ = some (.string (bstr y.d.t)) ∧ V.cell? ⟨W.heap.size + 2, 0 + 4, none⟩ = some (.slice y.d.nA y.d.nn y.d.nc) ∧ V.cell? ⟨W.heap.size + 2, 0 + 5, none⟩ = some (.slice y.d.pA y.d.pn y.d.pc))
      (first | with_reducible exact HSD.out | with_reducible exact HSE.out _ _ _ _ _ _ _ _ _ | fail)
      (first | fail | fail)
    all_goals
      go_wp2_with fail
      clear r0 r1 r2 r3 r4 r5 r6 r7 r8 z0 z1 z2 z3 z4 z5 z6 z7 z8
      have HN := Lib.hid (show ((((((((((J2.setCell ⟨W.heap.size + 1, 0, none⟩ (.string (bstr d.s))).setCell ⟨W.heap.size + 1, 1, none⟩ (.string (bstr d.t))).setCell ⟨W.heap.size + 1, 2, none⟩ (.slice A2 (ss.filter fun s => !ownB d s).length c2)).setCell ⟨W.heap.size + 1, 3, none⟩ (.int .i64 y.d.kind)).setCell ⟨W.heap.size + 1, 4, none⟩ (.int .i64 y.d.n)).setCell ⟨W.heap.size + 1, 5, none⟩ (.string (bstr y.d.s))).setCell ⟨W.heap.size + 1, 6, none⟩ (.string (bstr y.d.t))).setCell ⟨W.heap.size + 1, 7, none⟩ (.slice y.d.nA y.d.nn y.d.nc)).setCell ⟨W.heap.size + 1, 8, none⟩ (.slice y.d.pA y.d.pn y.d.pc)).drew).heap[W.heap.size + 1]? = some (.cells #[.string (bstr d.s), .string (bstr d.t), .slice A2 (ss.filter fun s => !ownB d s).length c2, .int .i64 y.d.kind, .int .i64 y.d.n, .string (bstr y.d.s), .string (bstr y.d.t), .slice y.d.nA y.d.nn y.d.nc, .slice y.d.pA y.d.pn y.d.pc] 37) ∧ Rd ((((((((((J2.setCell ⟨W.heap.size + 1, 0, none⟩ (.string (bstr d.s))).setCell ⟨W.heap.size + 1, 1, none⟩ (.string (bstr d.t))).setCell ⟨W.heap.size + 1, 2, none⟩ (.slice A2 (ss.filter fun s => !ownB d s).length c2)).setCell ⟨W.heap.size + 1, 3, none⟩ (.int .i64 y.d.kind)).setCell ⟨W.heap.size + 1, 4, none⟩ (.int .i64 y.d.n)).setCell ⟨W.heap.size + 1, 5, none⟩ (.string (bstr y.d.s))).setCell ⟨W.heap.size + 1, 6, none⟩ (.string (bstr y.d.t))).setCell ⟨W.heap.size + 1, 7, none⟩ (.slice y.d.nA y.d.nn y.d.nc)).setCell ⟨W.heap.size + 1, 8, none⟩ (.slice y.d.pA y.d.pn y.d.pc)).drew) 1 A2 (ss.filter fun s => !ownB d s).length (strs (ss.filter fun s => !ownB d s)) ∧ y.In ((((((((((J2.setCell ⟨W.heap.size + 1, 0, none⟩ (.string (bstr d.s))).setCell ⟨W.heap.size + 1, 1, none⟩ (.string (bstr d.t))).setCell ⟨W.heap.size + 1, 2, none⟩ (.slice A2 (ss.filter fun s => !ownB d s).length c2)).setCell ⟨W.heap.size + 1, 3, none⟩ (.int .i64 y.d.kind)).setCell ⟨W.heap.size + 1, 4, none⟩ (.int .i64 y.d.n)).setCell ⟨W.heap.size + 1, 5, none⟩ (.string (bstr y.d.s))).setCell ⟨W.heap.size + 1, 6, none⟩ (.string (bstr y.d.t))).setCell ⟨W.heap.size + 1, 7, none⟩ (.slice y.d.nA y.d.nn y.d.nc)).setCell ⟨W.heap.size + 1, 8, none⟩ (.slice y.d.pA y.d.pn y.d.pc)).drew) ∧ Below W.heap.size W ((((((((((J2.setCell ⟨W.heap.size + 1, 0, none⟩ (.string (bstr d.s))).setCell ⟨W.heap.size + 1, 1, none⟩ (.string (bstr d.t))).setCell ⟨W.heap.size + 1, 2, none⟩ (.slice A2 (ss.filter fun s => !ownB d s).length c2)).setCell ⟨W.heap.size + 1, 3, none⟩ (.int .i64 y.d.kind)).setCell ⟨W.heap.size + 1, 4, none⟩ (.int .i64 y.d.n)).setCell ⟨W.heap.size + 1, 5, none⟩ (.string (bstr y.d.s))).setCell ⟨W.heap.size + 1, 6, none⟩ (.string (bstr y.d.t))).setCell ⟨W.heap.size + 1, 7, none⟩ (.slice y.d.nA y.d.nn y.d.nc)).setCell ⟨W.heap.size + 1, 8, none⟩ (.slice y.d.pA y.d.pn y.d.pc)).drew) from fin_ok7 J2 W.heap.size HJ2.out.size HWZ.out HQ2.out (HY.out.1.lower HJ2.out) HY.out.2.1 HR2.out.1 (Nat.le_refl _) HCJ.out.1 (.string (bstr d.s)) (.string (bstr d.t)) (.slice A2 (ss.filter fun s => !ownB d s).length c2) (.int .i64 y.d.kind) (.int .i64 y.d.n) (.string (bstr y.d.s)) (.string (bstr y.d.t)) (.slice y.d.nA y.d.nn y.d.nc) (.slice y.d.pA y.d.pn y.d.pc))
      have HCA := Lib.hid (show CapsOk (.mk d l) (ss.filter fun s => !ownB d s) from caps_rest HI.out HK4.out HY.out.1.nm HY.out.2.2 HF.out.1 HF.out.2.1 HF.out.2.2)
      have HYE := Lib.hid HY.out.2.2
      have HK5 := Lib.hid HK4.out
      have HSM := Lib.hid (show (ss.filter fun s => !ownB d s).length ≤ c2 ∧ c2 ≤ maxLen ∧ (ss.filter fun s => !ownB d s).length ≤ 4000000 from ⟨HR2.out.2.1, HR2.out.2.2, Nat.le_trans (List.length_filter_le _ _) HJ.out.2⟩)
      have HUB := Lib.hid (show Fu.Bl (fun b => W.heap.size ≤ b) ⟨d.s, d.t, A2, (ss.filter fun s => !ownB d s).length, c2, ss.filter fun s => !ownB d s, y⟩ from ⟨fun hn a ha => by have h1 := (HR2.out.1.lt a.block (by rw [show A2 = some a from ha]; rfl)).1; have h2 := HWZ.out; omega, HY.out.2.1.imp HY.out.1 (fun b hb _ => by omega)⟩)
      clear HJ HF HQ HQ2 HSE HSD HC HSC HBE HPU HY HJ2 HCJ HR2
      generalize ((((((((((J2.setCell ⟨W.heap.size + 1, 0, none⟩ (.string (bstr d.s))).setCell ⟨W.heap.size + 1, 1, none⟩ (.string (bstr d.t))).setCell ⟨W.heap.size + 1, 2, none⟩ (.slice A2 (ss.filter fun s => !ownB d s).length c2)).setCell ⟨W.heap.size + 1, 3, none⟩ (.int .i64 y.d.kind)).setCell ⟨W.heap.size + 1, 4, none⟩ (.int .i64 y.d.n)).setCell ⟨W.heap.size + 1, 5, none⟩ (.string (bstr y.d.s))).setCell ⟨W.heap.size + 1, 6, none⟩ (.string (bstr y.d.t))).setCell ⟨W.heap.size + 1, 7, none⟩ (.slice y.d.nA y.d.nn y.d.nc)).setCell ⟨W.heap.size + 1, 8, none⟩ (.slice y.d.pA y.d.pn y.d.pc)).drew) = w7 at *
      obtain ⟨e0, e1, e2, e3, e4, e5, e6, e7, e8⟩ := cells9 HN.out.1
      refine bodyPost_ret (by simp [results, Try.results19, go_sem, e0, e1, e2, e3, e4, e5, e6, e7, e8]; try rfl) rfl ?_
      exact ⟨⟨d.s, d.t, A2, _, c2, _, y⟩, rfl, ⟨HN.out.2.1, HSM.out, HN.out.2.2.1⟩, (if_neg HK5.out).symm, (if_neg HK5.out).symm, HYE.out, HCA.out, HN.out.2.2.2, HUB.out⟩
end Go.Proofs.Ytpnihimoekkepaa
