/-
  The document's numbering of a variable.
-/
import Derived.Test.YtaglmmcjhlehjaaGreatDoorK19
import Derived.BigQuiet
namespace Go.Proofs.YtaglmmcjhlehjaaGreatDoor
open Go.ChangeShapes Go.WideShapes Go.ChangeAt Go.RowKit Go.Sort
set_option linter.unusedVariables false
set_option linter.unusedSimpArgs false

/-- Where it stands at the start. -/
structure DW (N : Nat) (W : World) (d : ExD) (ol : List Str) (s : Int × Bool) (v : Value) (A : Option Addr) (env : List Bd) (w w3 : World) (E r gt : Nat) : Prop where
  bd : BD N w v gt r d.bar0 ol s [] nE v w3
  ee : d.At w E 0
  eN : E ≠ N ∧ some E ≠ v.ownBlock ∧ E < w.heap.size
  hW : Below W.heap.size W w
  hN : N + 1 ≤ W.heap.size
  en : Rd w 2 A env.length (bds env)
  eB : 0 < env.length → ∀ a, A = some a → a.block ≠ N ∧ some a.block ≠ v.ownBlock
/-- What lies below stays, but the numbers'. -/
theorem DW.at_ {N : Nat} {W : World} {d : ExD} {ol : List Str} {s : Int × Bool} {v : Value} {A : Option Addr} {env : List Bd} {w w3 : World} {E r gt : Nat} (h : DW N W d ol s v A env w w3 E r gt) {wx : World} (ho : ∀ g, g < w.heap.size → g ≠ N → some g ≠ v.ownBlock → wx.heap[g]? = w.heap[g]?) : d.At wx E 0 := by
  have hk : wx.heap[E]? = w.heap[E]? := ho E h.eN.2.2 h.eN.1 h.eN.2.1
  obtain ⟨c0, c1, c2, c3, c4, c5, c6, c7⟩ := h.ee
  exact ⟨(World.cell?_of_block (a := ⟨E, 0, none⟩) hk).trans c0, (World.cell?_of_block (a := ⟨E, 0 + 1, none⟩) hk).trans c1, (World.cell?_of_block (a := ⟨E, 0 + 2, none⟩) hk).trans c2, (World.cell?_of_block (a := ⟨E, 0 + 3, none⟩) hk).trans c3, (World.cell?_of_block (a := ⟨E, 0 + 4, none⟩) hk).trans c4, (World.cell?_of_block (a := ⟨E, 0 + 5, none⟩) hk).trans c5, (World.cell?_of_block (a := ⟨E, 0 + 6, none⟩) hk).trans c6, (World.cell?_of_block (a := ⟨E, 0 + 7, none⟩) hk).trans c7⟩
theorem DW.env {N : Nat} {W : World} {d : ExD} {ol : List Str} {s : Int × Bool} {v : Value} {A : Option Addr} {env : List Bd} {w w3 : World} {E r gt : Nat} (h : DW N W d ol s v A env w w3 E r gt) {wx : World} (ho : ∀ g, g < w.heap.size → g ≠ N → some g ≠ v.ownBlock → wx.heap[g]? = w.heap[g]?) : Rd wx 2 A env.length (bds env) :=
  rd_keepP (P := fun b => b ≠ N ∧ some b ≠ v.ownBlock) h.en h.eB (fun b hp hb => ho b hb hp.1 hp.2)
theorem DW.start {N : Nat} {w0 W : World} {d : ExD} {l : List Ex} {ol : List Str} {s : Int × Bool} {v : Value} {A : Option Addr} {env : List Bd} (hI : (Ex.mk d l).In w0) (hN : w0.heap.size ≤ N) (hb : Below w0.heap.size w0 W) (hn : NR W N ol s.1 s.2 v) (hE : Rd W 2 A env.length (bds env)) (hEB : 0 < env.length → ∀ a, A = some a → a.block ≠ N ∧ some a.block ≠ v.ownBlock) :
    DW N W d ol s v A env (W.alloc (.cells d.arr 25)) (((W.alloc (.cells d.arr 25)).alloc (.cells dZ.arr 25)).alloc (.cells d.bar0.arr 25)) W.heap.size (W.heap.size + 1) (W.heap.size + 2) := by
  have hlt := hn.o.lt
  have hb1 : Below W.heap.size W (W.alloc (.cells d.arr 25)) := (Below.refl _ _).alloc (Nat.le_refl _) _
  have hs1 : (W.alloc (.cells d.arr 25)).heap.size = W.heap.size + 1 := World.size_alloc _ _
  have hb2 : Below (W.alloc (.cells d.arr 25)).heap.size (W.alloc (.cells d.arr 25)) ((W.alloc (.cells d.arr 25)).alloc (.cells dZ.arr 25)) := (Below.refl _ _).alloc (Nat.le_refl _) _
  have hs2 : ((W.alloc (.cells d.arr 25)).alloc (.cells dZ.arr 25)).heap.size = W.heap.size + 2 := by rw [World.size_alloc, hs1]
  have hcl : Cl (((W.alloc (.cells d.arr 25)).alloc (.cells dZ.arr 25)).alloc (.cells d.bar0.arr 25)) (W.heap.size + 2) d.bar0 := by
    have := Cl.new ((W.alloc (.cells d.arr 25)).alloc (.cells dZ.arr 25)) d.bar0
    rwa [hs2] at this
  have hrz : Cl ((W.alloc (.cells d.arr 25)).alloc (.cells dZ.arr 25)) (W.heap.size + 1) dZ := by
    have := Cl.new (W.alloc (.cells d.arr 25)) dZ
    rwa [hs1] at this
  have hc := hI.cap
  have hlab := ((show Rd w0 1 d.lA d.ln (strs d.labels) from hI.lab).below hb).below hb1
  have hlb : 0 < d.ln → ∀ a, d.lA = some a → a.block < N := fun h0 a ha => by
    have hl : Rd w0 1 d.lA d.ln (strs d.labels) := hI.lab
    obtain ⟨a', e, hb, _⟩ := hl.addr (by rw [hl.1]; omega)
    rw [ha] at e; cases e; omega
  refine ⟨BD.start (hn.below hb1) hs1 hb2 hs2 (by omega) ((Below.refl _ _).alloc (Nat.le_refl _) _) hcl ⟨_, hrz⟩ hlab hlb ⟨⟨hc.1.1, hc.1.2.1⟩, hc.2.2.2.1, hc.2.2.2.2.1, hc.2.2.2.2.2.1⟩, ex_box W d, ⟨by omega, fun e => by have := (hn.o.own.lt _ e.symm).2; omega, by rw [hs1]; omega⟩, hb1, by omega, hE.below hb1, hEB⟩
theorem bar0_num {d : ExD} {k : Nat} (h4 : d.kind ≠ 4) (h6 : d.kind ≠ 6) (h7 : d.kind ≠ 7) (h14 : d.kind ≠ 14) : NumD d k d.bar0 :=
  ⟨rfl, rfl, rfl, rfl, by rw [if_neg (by omega)]; rfl, by rw [if_neg h7, if_neg (fun q => h14 q.1)]; rfl, by rw [if_neg h14]; rfl⟩
theorem var_lk {d : ExD} {k : Nat} {env : List Bd} (h3 : d.kind = 3) : (Ex.mk { d.bar0 with s := nowF d.s env } []).lk (.mk (d.numV k env) []) := by
  have h := bar0_num (d := d) (k := k) (by omega) (by omega) (by omega) (by omega)
  simp only [Ex.lk]
  refine ⟨?_, by simp [lkL]⟩
  unfold ExD.numV; rw [if_pos h3]
  exact ⟨h.kind, h.at_, h.n, rfl, h.t, h.labels, h.names⟩

set_option maxRecDepth 100000 in
set_option maxHeartbeats 1000000 in
theorem do_var (w0 : World) (d : ExD) (l : List Ex) (hI : (Ex.mk d l).In w0) (N : Nat) (hN : w0.heap.size ≤ N) (env : List Bd) (A : Option Addr) (cA : Nat) (ol : List Str) (s : Int × Bool) (v : Value) (W : World) (hb : Below w0.heap.size w0 W) (hn : NR W N ol s.1 s.2 v) (hE : Rd W 2 A env.length (bds env)) (hEB : 0 < env.length → ∀ a, A = some a → a.block ≠ N ∧ some a.block ≠ v.ownBlock)
    (hEL : ∀ p ∈ env, p.2.length ≤ 9223372036854775807) (hl : l = []) (hd : env.length ≤ 4000000) (h3 : d.kind = 3) :
    Calls Tryz.prog 22 #[.pointer (some ⟨N, 0, none⟩), .agg d.arr, .slice A env.length cA] W fun e w' => DoR N ol s v env (.mk d l) W e w' := by
  subst hl
  have HDW := Lib.hid (show DW N W d ol s v A env (W.alloc (.cells #[.int .i64 d.kind, .int .i64 d.at_, .int .i64 d.n, .string (bstr d.s), .string (bstr d.t), .slice d.lA d.ln d.lc, .slice d.nA d.nn d.nc, .slice d.pA d.pn d.pc] 25)) (((W.alloc (.cells #[.int .i64 d.kind, .int .i64 d.at_, .int .i64 d.n, .string (bstr d.s), .string (bstr d.t), .slice d.lA d.ln d.lc, .slice d.nA d.nn d.nc, .slice d.pA d.pn d.pc] 25)).alloc (.cells #[.int .i64 0, .int .i64 0, .int .i64 0, .string ⟨#[]⟩, .string ⟨#[]⟩, .slice none 0 0, .slice none 0 0, .slice none 0 0] 25)).alloc (.cells #[.int .i64 d.kind, .int .i64 d.at_, .int .i64 d.n, .string (bstr d.s), .string (bstr d.t), .slice d.lA d.ln d.lc, .slice none 0 0, .slice none 0 0] 25)) W.heap.size (W.heap.size + 1) (W.heap.size + 2) from DW.start hI hN hb hn hE hEB)
  have HEL := Lib.hid (nowF_len d.s env hI.cap.2.2.2.1 hEL)
  have HD := Lib.hid hd
  have HLK := Lib.hid (var_lk (k := ol.length) (env := env) h3)
  have HBS := Lib.hid (show ol ++ d.bs = ol by unfold ExD.bs; rw [if_neg (by omega), if_neg (by omega), if_neg (by omega), List.append_nil])
  have q3 : (d.kind == 3) = true := by simpa using h3
  have HFF := Lib.hid (show (Ex.mk d []).firstF (env.map (·.1)) = if d.s ∉ env.map (·.1) then some d.at_ else none by
    unfold Ex.firstF
    by_cases hm : d.s ∉ env.map (·.1)
    · rw [if_pos ⟨h3, hm⟩, if_pos hm]
    · rw [if_neg (fun q => hm q.2), if_neg hm]; rfl)
  clear hI hN hb hn hE hEB hEL h3
  go_enter Tryz.func22, Tryz.ntmps22
  go_upto_region 1 with fail
  have hs1 : (W.alloc (.cells #[.int .i64 d.kind, .int .i64 d.at_, .int .i64 d.n, .string (bstr d.s), .string (bstr d.t), .slice d.lA d.ln d.lc, .slice d.nA d.nn d.nc, .slice d.pA d.pn d.pc] 25)).heap.size = W.heap.size + 1 := World.size_alloc _ _
  have hs2 : ((W.alloc (.cells #[.int .i64 d.kind, .int .i64 d.at_, .int .i64 d.n, .string (bstr d.s), .string (bstr d.t), .slice d.lA d.ln d.lc, .slice d.nA d.nn d.nc, .slice d.pA d.pn d.pc] 25)).alloc (.cells #[.int .i64 0, .int .i64 0, .int .i64 0, .string ⟨#[]⟩, .string ⟨#[]⟩, .slice none 0 0, .slice none 0 0, .slice none 0 0] 25)).heap.size = W.heap.size + 2 := by rw [World.size_alloc, hs1]
  have HS := Lib.hid (And.intro hs1 hs2)
  obtain ⟨c0, c1, c2, c3, c4, c5, c6, c7⟩ := HDW.out.ee.lower ((Below.refl _ _).alloc (Nat.le_refl _) (.cells #[.int .i64 0, .int .i64 0, .int .i64 0, .string ⟨#[]⟩, .string ⟨#[]⟩, .slice none 0 0, .slice none 0 0, .slice none 0 0] 25))
  go_upto_region 2 with fail
  clear c0 c1 c2 c3 c4 c5 c6 c7 hs1 hs2
  clear HS
  generalize ((W.alloc (.cells #[.int .i64 d.kind, .int .i64 d.at_, .int .i64 d.n, .string (bstr d.s), .string (bstr d.t), .slice d.lA d.ln d.lc, .slice d.nA d.nn d.nc, .slice d.pA d.pn d.pc] 25)).alloc (.cells #[.int .i64 0, .int .i64 0, .int .i64 0, .string ⟨#[]⟩, .string ⟨#[]⟩, .slice none 0 0, .slice none 0 0, .slice none 0 0] 25)).alloc (.cells #[.int .i64 d.kind, .int .i64 d.at_, .int .i64 d.n, .string (bstr d.s), .string (bstr d.t), .slice d.lA d.ln d.lc, .slice none 0 0, .slice none 0 0] 25) = w3 at *
  generalize W.alloc (.cells #[.int .i64 d.kind, .int .i64 d.at_, .int .i64 d.n, .string (bstr d.s), .string (bstr d.t), .slice d.lA d.ln d.lc, .slice d.nA d.nn d.nc, .slice d.pA d.pn d.pc] 25) = w at *
  obtain ⟨gt, hgt⟩ : ∃ gt, W.heap.size + 2 = gt := ⟨_, rfl⟩
  obtain ⟨r, hr⟩ : ∃ r, W.heap.size + 1 = r := ⟨_, rfl⟩
  obtain ⟨E, hE⟩ : ∃ E, W.heap.size = E := ⟨_, rfl⟩
  rw [hgt, hr, hE] at HDW ⊢
  clear hgt hr hE
  obtain ⟨c0, _, _, _, _, _, _, _⟩ := HDW.out.at_ HDW.out.bd.bs.wo.oth
  have f0 : wrap64 ((env.length : Int) - 1) = (env.length : Int) - 1 := by unfold wrap64; omega
  clear hd
  obtain ⟨fr, any⟩ := s
  go_wp2_with fail
  clear f0 c0
  go_loopw [8] (fun i wr => ∃ k : Nat, i = .int .i64 ((k : Int) - 1) ∧ k ≤ env.length ∧ lookF d.s env = lookF d.s (env.take k) ∧ Below w3.heap.size w3 wr) (fun i _ => (intOf i + 1).toNat)
  case atStart => exact ⟨env.length, rfl, Nat.le_refl _, by rw [List.take_of_length_le (Nat.le_refl _)], Below.refl _ _⟩
  case round =>
    obtain ⟨k, rfl, hk, hl, hb⟩ := hrel
    obtain ⟨wk, rfl⟩ : ∃ wk, wk = wr := ⟨wr, rfl⟩
    have HBD := Lib.hid (HDW.out.bd.below hb)
    have HB := Lib.hid (And.intro hl hb)
    clear hl
    obtain ⟨c0, c1, _, c3, _, _, _, _⟩ := HDW.out.at_ HBD.out.bs.wo.oth
    cases k with
    | zero =>
      have z1 : ¬ (0 : Int) ≤ ((0 : Nat) : Int) - 1 := by omega
      have hlo : lookF d.s env = none := by
        have h5 := HB.out.1
        rwa [List.take_zero, lookF_nil] at h5
      have hno := lookF_none.1 hlo
      have HFN := Lib.hid (show (Ex.mk d []).firstF (env.map (·.1)) = some d.at_ by rw [HFF.out, if_pos hno])
      have HSN := Lib.hid (show nowF d.s env = d.s by unfold nowF; rw [hlo]; rfl)
      have n1 := HBD.out.nr.c1
      have n2 := HBD.out.nr.c2
      have m1 := HBD.out.nr.f1
      have m2 := HBD.out.nr.f2
      clear hb hlo hno HFF
      cases any with
      | true =>
        go_upto_region 12 with fail
        have H5 := Lib.hid (HBD.out.bind (s1 := (fr, true)) (HBD.out.nr.setA true).1 (HBD.out.nr.setA true).2)
        have HFU := Lib.hid (show (fr, true) = ffU ((Ex.mk d []).firstF (env.map (·.1))) (fr, true) by rw [HFN.out]; rfl)
        generalize wk.setCell ⟨N, 2, none⟩ (.bool true) = w5 at *
        clear n1 n2 m1 m2 c0 c1 c3
        have H6 := Lib.hid (show BD N w v gt r { d.bar0 with s := nowF d.s env } ol (fr, true) [] nE v w5 by rw [HSN.out]; exact H5.out)
        obtain ⟨k0, k1, k2, k3, k4, k5, k6, k7⟩ := H5.out.bs.cl.load
        obtain ⟨dr, hdr⟩ := H5.out.bs.rz
        obtain ⟨y0, y1, y2, y3, y4, y5, y6, y7⟩ := hdr.load
        obtain ⟨f0, f1, f2, f3, f4, f5, f6, f7⟩ := hdr.free
        have HDR := Lib.hid hdr
        clear hdr
        go_wp2_with fail
        obtain ⟨w9, hw9, hcl9, hk9, _, hb9⟩ := set8 HDR.out d.bar0
        rw [hw9]
        obtain ⟨x0, x1, x2, x3, x4, x5, x6, x7⟩ := hcl9.load
        refine bodyPost_ret (v := .agg d.bar0.arr) (by simp [results, Tryz.results22, go_sem, x0, x1, x2, x3, x4, x5, x6, x7]) rfl ?_
        obtain ⟨oA, oc, _, hds⟩ := H6.out.ds
        have := hds.done (W := W) (s := (fr, true)) (env := env) HDW.out.hW HDW.out.hN (.mk d []) HLK.out (by simp only [Ex.num, numL]; exact HBS.out.symm) HFU.out hk9 hb9
        rw [HSN.out] at this
        exact this
      | false =>
        go_upto_region 12 with fail
        have H4 := Lib.hid (HBD.out.bind (s1 := (d.at_, false)) (HBD.out.nr.setF d.at_).1 (HBD.out.nr.setF d.at_).2)
        have H5 := Lib.hid (H4.out.bind (s1 := (d.at_, true)) (H4.out.nr.setA true).1 (H4.out.nr.setA true).2)
        clear H4
        have HFU := Lib.hid (show (d.at_, true) = ffU ((Ex.mk d []).firstF (env.map (·.1))) (fr, false) by rw [HFN.out]; rfl)
        generalize (wk.setCell ⟨N, 1, none⟩ (.int .i64 d.at_)).setCell ⟨N, 2, none⟩ (.bool true) = w5 at *
        clear n1 n2 m1 m2 c0 c1 c3
        have H6 := Lib.hid (show BD N w v gt r { d.bar0 with s := nowF d.s env } ol (d.at_, true) [] nE v w5 by rw [HSN.out]; exact H5.out)
        obtain ⟨k0, k1, k2, k3, k4, k5, k6, k7⟩ := H5.out.bs.cl.load
        obtain ⟨dr, hdr⟩ := H5.out.bs.rz
        obtain ⟨y0, y1, y2, y3, y4, y5, y6, y7⟩ := hdr.load
        obtain ⟨f0, f1, f2, f3, f4, f5, f6, f7⟩ := hdr.free
        have HDR := Lib.hid hdr
        clear hdr
        go_wp2_with fail
        obtain ⟨w9, hw9, hcl9, hk9, _, hb9⟩ := set8 HDR.out d.bar0
        rw [hw9]
        obtain ⟨x0, x1, x2, x3, x4, x5, x6, x7⟩ := hcl9.load
        refine bodyPost_ret (v := .agg d.bar0.arr) (by simp [results, Tryz.results22, go_sem, x0, x1, x2, x3, x4, x5, x6, x7]) rfl ?_
        obtain ⟨oA, oc, _, hds⟩ := H6.out.ds
        have := hds.done (W := W) (s := (fr, false)) (env := env) HDW.out.hW HDW.out.hN (.mk d []) HLK.out (by simp only [Ex.num, numL]; exact HBS.out.symm) HFU.out hk9 hb9
        rw [HSN.out] at this
        exact this
    | succ k =>
      have hkl : k < env.length := by omega
      obtain ⟨b, o, rfl, hcel⟩ := bd_cells (HDW.out.env HBD.out.bs.wo.oth) hkl
      obtain ⟨h1, h2⟩ := hcel k hkl
      have e1 : (((k + 1 : Nat) : Int) - 1) = (k : Int) := by omega
      rw [e1]
      have z1 : (0 : Int) ≤ (k : Int) := by omega
      have z2 : (k : Int) < (env.length : Int) := by omega
      have z3 : wrap64 ((k : Int) - 1) = (k : Int) - 1 := by have := HD.out; unfold wrap64; omega
      have ht := lookF_take (s := d.s) hkl
      by_cases he : (env[k]).1 = d.s
      · have q := (ne_bstr (env[k]).1 d.s true (decide_eq_true he))
        have hlo : lookF d.s env = some (env[k]).2 := by rw [HB.out.1, ht, if_pos he]
        have HSN := Lib.hid (show nowF d.s env = (env[k]).2 by unfold nowF; rw [hlo]; rfl)
        have HFN := Lib.hid (show (Ex.mk d []).firstF (env.map (·.1)) = none by
          rw [HFF.out, if_neg]
          intro hm
          rw [lookF_none.2 hm] at hlo; cases hlo)
        obtain ⟨x, hx⟩ : ∃ x, (env[k]).1 = x := ⟨_, rfl⟩
        obtain ⟨y, hy⟩ : ∃ y, (env[k]).2 = y := ⟨_, rfl⟩
        rw [hx] at h1 q
        rw [hy] at h2 HSN
        clear hx hy he ht hcel hkl hb e1 hlo HFF
        have k3 := HBD.out.bs.cl.load.2.2.2.1
        have z9 := HBD.out.bs.cl.fz 3
        go_upto_region 6 with fail
        go_quiet (fail)
        go_upto_region 8 with fail
        have H5 := Lib.hid ((HBD.out.below (below_drewN (Below.refl _ _) nq)).setS y (by rw [← HSN.out]; exact HEL.out))
        generalize (wk.drewN nq).setCell ⟨gt, 3, none⟩ (.string (bstr y)) = w5 at *
        clear c0 c1 c3 h1 h2 q k3 z9
        obtain ⟨dc, hdc⟩ : ∃ dc, ({ d.bar0 with s := y } : ExD) = dc := ⟨_, rfl⟩
        rw [HSN.out] at HLK
        rw [hdc] at H5 HLK
        clear hdc
        obtain ⟨k0, k1, k2, k3, k4, k5, k6, k7⟩ := H5.out.bs.cl.load
        obtain ⟨dr, hdr⟩ := H5.out.bs.rz
        obtain ⟨y0, y1, y2, y3, y4, y5, y6, y7⟩ := hdr.load
        obtain ⟨f0, f1, f2, f3, f4, f5, f6, f7⟩ := hdr.free
        have HDR := Lib.hid hdr
        clear hdr
        go_wp2_with fail
        obtain ⟨w9, hw9, hcl9, hk9, _, hb9⟩ := set8 HDR.out dc
        rw [hw9]
        obtain ⟨x0, x1, x2, x3, x4, x5, x6, x7⟩ := hcl9.load
        refine bodyPost_ret (v := .agg dc.arr) (by simp [results, Tryz.results22, go_sem, x0, x1, x2, x3, x4, x5, x6, x7]) rfl ?_
        obtain ⟨oA, oc, _, hds⟩ := H5.out.ds
        exact hds.done (W := W) (s := (fr, any)) (env := env) HDW.out.hW HDW.out.hN (.mk d []) (by simp only [Ex.num, numL]; exact HLK.out) (by simp only [Ex.num, numL]; exact HBS.out.symm) (by rw [HFN.out, ffU_none]) hk9 hb9
      · have q := (ne_bstr (env[k]).1 d.s false (decide_eq_false he))
        have HN := Lib.hid (show lookF d.s env = lookF d.s (env.take k) by rw [HB.out.1, ht, if_neg he])
        obtain ⟨x, hx⟩ : ∃ x, (env[k]).1 = x := ⟨_, rfl⟩
        rw [hx] at h1 q
        clear hx he ht hcel hkl hb h2 e1
        go_upto_region 6 with fail
        go_quiet (fail)
        go_wp2_with fail
        go_roundw
        case rel => exact ⟨k, by rw [z3], by omega, HN.out, below_drewN HB.out.2 _⟩
        case measure => simp [intOf, z3] <;> omega
end Go.Proofs.YtaglmmcjhlehjaaGreatDoor
