/-
  Numbers for the binders of a Match, by the code; for any expression's own binders.
  Where the numbering of an expression stands, by the code. About no program.
  A part more, in the numbering of an expression. About no program.
  Numbers for the binders of an expression and its parts, by the code.
  Bindings put behind those that are there: what becomes of the room. About no program.
  A part's call, in the numbering of an expression. About no program.
  What the walk of the numbers' giver asks for. About no program.
  The document's numbering of an expression: what it comes to. About no program.
  The document's numbering of an expression: where it stands. About no program.
-/
import Derived.Test.YtaglmmcjhlehjaaGreatDoorK18
import Derived.Deep.RegionLaw
namespace Go.Proofs.YtaglmmcjhlehjaaGreatDoor
open Go.ChangeShapes Go.WideShapes Go.ChangeAt Go.RowKit Go.Sort
set_option linter.unusedVariables false
set_option linter.unusedSimpArgs false

theorem BS.app {N gt r : Nat} {w wx w7 : World} {v0 v : Value} {dc : ExD} {ol : List Str} (h : BS N w v0 gt r dc ol v wx) {o : Obj} {A7 : Option Addr} {c7 : Nat} {x : Str} (hx : x.length ≤ 9223372036854775807)
    (ho : w7.ownsRow (N + 1) 9 1 (.slice A7 (dc.nn + 1) c7) (dc.nn + 1) (strs dc.names ++ strs [x])) (hg : (wx.alloc o).grownBy w7 dc.nV.ownBlock) (hat : (Value.slice A7 (dc.nn + 1) c7).ownBlock = dc.nV.ownBlock ∨ (Value.slice A7 (dc.nn + 1) c7).ownBlock = some (wx.alloc o).heap.size) :
    BS N w v0 gt r { dc with nA := A7, nn := dc.nn + 1, nc := c7, names := dc.names ++ [x] } ol v (w7.setCell ⟨gt, 6, none⟩ (.slice A7 (dc.nn + 1) c7)) := by
  obtain ⟨hN, hgt, hr, hne, hv1, hv2⟩ := h.gtN
  have hsz : w.heap.size ≤ wx.heap.size := h.wo.b.size
  have hsa : (wx.alloc o).heap.size = wx.heap.size + 1 := by rw [World.size_alloc]
  have h7 : wx.heap.size + 1 ≤ w7.heap.size := by have := hg.size; omega
  have hnl : ∀ k, dc.nV.ownBlock = some k → N + 1 ≤ k ∧ k < wx.heap.size := fun k hk => h.own.lt k hk
  have hkeep : ∀ b, b < wx.heap.size → some b ≠ dc.nV.ownBlock → w7.heap[b]? = wx.heap[b]? := fun b hb hv => (hg.block b (by omega) hv).trans (Below.heap_alloc wx o b hb)
  have hkeep2 : ∀ b, b < wx.heap.size → some b ≠ dc.nV.ownBlock → b ≠ gt → (w7.setCell ⟨gt, 6, none⟩ (.slice A7 (dc.nn + 1) c7)).heap[b]? = wx.heap[b]? := fun b hb hv hg => (heap_set_ne w7 _ hg).trans (hkeep b hb hv)
  have hown : ∀ k, (Value.slice A7 (dc.nn + 1) c7).ownBlock = some k → dc.nV.ownBlock = some k ∨ k = wx.heap.size + 1 := fun k hk => by
    rcases hat with q | q
    · exact .inl (q ▸ hk)
    · rw [q, hsa] at hk; injection hk with hk; exact .inr hk.symm
  have hvl : ∀ k, v.ownBlock = some k → k < wx.heap.size := fun k hk => (h.no.own.lt k hk).2
  have hgl := h.cl.lt
  have gnv : some gt ≠ dc.nV.ownBlock := fun e => (h.namB gt e.symm).2.1 rfl
  have rnv : some r ≠ dc.nV.ownBlock := fun e => (h.namB r e.symm).2.2.1 rfl
  have hlab : ∀ a, 0 < dc.ln → dc.lA = some a → a.block < wx.heap.size := fun a h0 ha => by
    obtain ⟨a', e, hb, _⟩ := h.lab.addr (by rw [h.lab.1]; omega)
    rw [ha] at e; cases e; exact hb
  refine ⟨(h.cl.kept (hkeep gt hgl gnv)).setNam A7 (dc.nn + 1) c7 (dc.names ++ [x]), ?_, h.no.kept fun g hgg => ?_, ⟨?_, fun g hg1 hg2 hg3 => ?_, h.wo.new⟩, h.gtN, ?_, ?_, ?_, ?_, ?_, h.par⟩
  · obtain ⟨dr, hd⟩ := h.rz
    exact ⟨dr, hd.kept (hkeep2 r hd.lt rnv (Ne.symm hne))⟩
  · rcases hgg with rfl | hgg
    · exact hkeep2 _ (by omega) (fun e => by have := (hnl _ e.symm).1; omega) (by omega)
    · exact hkeep2 g (hvl g hgg) (fun e => (h.namB g e.symm).2.2.2 hgg.symm) (fun e => hv1 (e ▸ hgg.symm))
  · have hb : Below N wx w7 := ((Below.refl N wx).alloc (by omega) o).grown hg (by omega) (fun k hk => Nat.le_of_succ_le (hnl k hk).1)
    exact h.wo.b.trans (hb.trans ⟨rfl, rfl, rfl, Nat.le_of_eq (World.size_setCell _ _ _).symm, fun k hk => Below.heap_setCell w7 _ _ k (by show k ≠ gt; omega)⟩)
  · refine (hkeep2 g (by omega) (fun e => ?_) (by omega)).trans (h.wo.oth g hg1 hg2 hg3)
    have h1 := (h.namB g e.symm).1
    have h2 := (hnl g e.symm).1
    omega
  · exact rd_keepP (P := fun b => b ≠ gt ∧ some b ≠ dc.nV.ownBlock) h.lab (fun h0 a ha => ⟨(h.labB h0 a ha).1.2.1, (h.labB h0 a ha).2⟩) (fun b hp hb => hkeep2 b hb hp.2 hp.1)
  · intro h0 a ha
    refine ⟨(h.labB h0 a ha).1, fun e => ?_⟩
    rcases hown _ e.symm with q | q
    · exact (h.labB h0 a ha).2 q.symm
    · have := hlab a h0 ha; omega
  · show (w7.setCell ⟨gt, 6, none⟩ (.slice A7 (dc.nn + 1) c7)).ownsRow (N + 1) 9 1 (.slice A7 (dc.nn + 1) c7) (dc.nn + 1) (strs (dc.names ++ [x]))
    rw [strs_append]
    refine ownsRow_kept ho fun g hgg => heap_set_ne w7 _ ?_
    rcases hown g hgg with q | q
    · exact (h.namB g q).2.1
    · omega
  · intro k hk
    rcases hown k hk with q | q
    · exact h.namB k q
    · obtain ⟨dr, hd⟩ := h.rz
      have := hd.lt
      exact ⟨.inr (by omega), by omega, by omega, fun e => by have := hvl k e.symm; omega⟩
  · refine ⟨h.cap.1, h.cap.2.1, h.cap.2.2.1, h.cap.2.2.2.1, fun s hs => ?_⟩
    rcases List.mem_append.1 hs with hs | hs
    · exact h.cap.2.2.2.2 s hs
    · obtain rfl := List.mem_singleton.1 hs; exact hx
theorem BS.below {N gt r : Nat} {w wx wy : World} {v0 v : Value} {dc : ExD} {ol : List Str} (h : BS N w v0 gt r dc ol v wx) (hb : Below wx.heap.size wx wy) : BS N w v0 gt r dc ol v wy :=
  h.call (h.no.below hb) (WO.below (by have := h.gtN; have := h.wo.b.size; omega) hb)
theorem BS.appN {N gt r : Nat} {w wx : World} {v0 v : Value} {dc : ExD} {ol : List Str} (h : BS N w v0 gt r dc ol v wx) (o : Obj) : N + 1 ≤ (wx.alloc o).heap.size := by
  have := h.gtN; have := h.wo.b.size; rw [World.size_alloc]; omega
theorem BS.far {N gt r : Nat} {w wx w7 : World} {v0 v : Value} {dc : ExD} {ol : List Str} {o : Obj} (h : BS N w v0 gt r dc ol v wx) (hg : (wx.alloc o).grownBy w7 dc.nV.ownBlock) : w7.heap[gt]? = wx.heap[gt]? :=
  (hg.block gt (by rw [World.size_alloc]; have := h.cl.lt; omega) (fun e => (h.namB gt e.symm).2.1 rfl)).trans (Below.heap_alloc wx o gt h.cl.lt)
theorem BS.far6 {N gt r : Nat} {w wx w7 : World} {v0 v : Value} {dc : ExD} {ol : List Str} {o : Obj} (h : BS N w v0 gt r dc ol v wx) (hg : (wx.alloc o).grownBy w7 dc.nV.ownBlock) : w7.cell? ⟨gt, 6, none⟩ = some (.slice dc.nA dc.nn dc.nc) :=
  (World.cell?_of_block (a := ⟨gt, 6, none⟩) (h.far hg)).trans h.cl.load.2.2.2.2.2.2.1
theorem BS.far6z {N gt r : Nat} {w wx w7 : World} {v0 v : Value} {dc : ExD} {ol : List Str} {o : Obj} (h : BS N w v0 gt r dc ol v wx) (hg : (wx.alloc o).grownBy w7 dc.nV.ownBlock) : w7.frozen? ⟨gt, 6, none⟩ = false :=
  (World.frozen?_of_block (a := ⟨gt, 6, none⟩) (h.far hg)).trans (h.cl.fz 6)
/-- The struct of a Match with so many names. -/
def ExD.with (d : ExD) (A : Option Addr) (c : Nat) (An : Option Addr) (cn k o : Nat) : ExD := { d.bare A c with nA := An, nn := k, nc := cn, names := vNames k o }
theorem with_next (d : ExD) (A : Option Addr) (c : Nat) (An : Option Addr) (cn : Nat) (A7 : Option Addr) (c7 k o : Nat) : ({ d.with A c An cn k o with nA := A7, nn := (d.with A c An cn k o).nn + 1, nc := c7, names := (d.with A c An cn k o).names ++ [vName (o + k)] } : ExD) = d.with A c A7 c7 (k + 1) o := by
  unfold ExD.with
  rw [vNames_snoc]

set_option maxRecDepth 100000 in
set_option maxHeartbeats 2000000 in
theorem binders_14 (w0 : World) (d : ExD) (l : List Ex) (hI : (Ex.mk d l).In w0) (b o : Nat) (hA : d.At w0 b o) (N : Nat) (hN : w0.heap.size ≤ N) (ol : List Str) (v : Value) (w : World) (hb : Below w0.heap.size w0 w) (hO : NO w N ol v) (hT : TB N w) (hm : ol.length + d.bs.length ≤ 4000000) (hln : d.ln ≤ 4000000) (hk : d.kind = 14) :
    Calls Tryz.prog 71 #[.pointer (some ⟨N, 0, none⟩), .pointer (some ⟨b, o, none⟩)] w fun e w' => BinR N ol v d w e w' := by
  have HI := Lib.hid hI
  have HA := Lib.hid hA
  have HN := Lib.hid hN
  have HO := Lib.hid hO
  have HT := Lib.hid hT
  have HM := Lib.hid hm
  have HLN := Lib.hid hln
  have HB := Lib.hid hb
  have q4 : (d.kind == 4) = false := by rw [hk]; rfl
  have q6 : (d.kind == 6) = false := by rw [hk]; rfl
  have q7 : (d.kind == 7) = false := by rw [hk]; rfl
  have q14 : (d.kind == 14) = true := by rw [hk]; rfl
  have HK := Lib.hid hk
  have HBS := Lib.hid (show d.bs = d.names ++ (if d.t = [] then [] else [d.t]) by unfold ExD.bs; rw [if_neg (by omega), if_neg (by omega), if_pos hk])
  clear hk
  obtain ⟨c0, c1, c2, c3, c4, c5, c6, c7⟩ := hA.lower (hb.alloc hb.size (.cells #[.int .i64 0, .int .i64 0, .int .i64 0, .string ⟨#[]⟩, .string ⟨#[]⟩, .slice none 0 0, .slice none 0 0, .slice none 0 0] 25))
  have HZ := Lib.hid (show Cl (w.alloc (.cells #[.int .i64 0, .int .i64 0, .int .i64 0, .string ⟨#[]⟩, .string ⟨#[]⟩, .slice none 0 0, .slice none 0 0, .slice none 0 0] 25)) w.heap.size dZ from Cl.new w dZ)
  have HB1 := Lib.hid (show Below w.heap.size w (w.alloc (.cells #[.int .i64 0, .int .i64 0, .int .i64 0, .string ⟨#[]⟩, .string ⟨#[]⟩, .slice none 0 0, .slice none 0 0, .slice none 0 0] 25)) from (Below.refl _ _).alloc (Nat.le_refl _) _)
  have hs1 : (w.alloc (.cells #[.int .i64 0, .int .i64 0, .int .i64 0, .string ⟨#[]⟩, .string ⟨#[]⟩, .slice none 0 0, .slice none 0 0, .slice none 0 0] 25)).heap.size = w.heap.size + 1 := by simp
  have HS1 := Lib.hid hs1
  clear hI hA hN hO hT hm hln hb hs1
  go_enter Tryz.func71, Tryz.ntmps71
  go_upto_region 1 with fail
  generalize w.alloc (.cells #[.int .i64 0, .int .i64 0, .int .i64 0, .string ⟨#[]⟩, .string ⟨#[]⟩, .slice none 0 0, .slice none 0 0, .slice none 0 0] 25) = w1 at *
  obtain ⟨r, hr⟩ : ∃ r, w.heap.size = r := ⟨_, rfl⟩
  have HR := Lib.hid hr
  rw [hr] at HZ HS1 ⊢
  clear hr
  go_upto_region 2 with fail
  have HZ2 := Lib.hid (show Cl (w1.alloc (.cells #[.int .i64 d.kind, .int .i64 d.at_, .int .i64 d.n, .string (bstr d.s), .string (bstr d.t), .slice d.lA d.ln d.lc, .slice d.nA d.nn d.nc, .slice d.pA d.pn d.pc] 25)) w1.heap.size d from Cl.new w1 d)
  have HB2 := Lib.hid (show Below w1.heap.size w1 (w1.alloc (.cells #[.int .i64 d.kind, .int .i64 d.at_, .int .i64 d.n, .string (bstr d.s), .string (bstr d.t), .slice d.lA d.ln d.lc, .slice d.nA d.nn d.nc, .slice d.pA d.pn d.pc] 25)) from (Below.refl _ _).alloc (Nat.le_refl _) _)
  have hs2 : (w1.alloc (.cells #[.int .i64 d.kind, .int .i64 d.at_, .int .i64 d.n, .string (bstr d.s), .string (bstr d.t), .slice d.lA d.ln d.lc, .slice d.nA d.nn d.nc, .slice d.pA d.pn d.pc] 25)).heap.size = w1.heap.size + 1 := by simp
  have HS2 := Lib.hid hs2
  have HE2 := Lib.hid (HA.out.lower ((HB.out.trans (HB1.out.mono HB.out.size)).trans (HB2.out.mono (Nat.le_trans HB.out.size HB1.out.size))))
  clear c0 c1 c2 c3 c4 c5 c6 c7 hs2
  generalize w1.alloc (.cells #[.int .i64 d.kind, .int .i64 d.at_, .int .i64 d.n, .string (bstr d.s), .string (bstr d.t), .slice d.lA d.ln d.lc, .slice d.nA d.nn d.nc, .slice d.pA d.pn d.pc] 25) = w2 at *
  obtain ⟨gt, hgt⟩ : ∃ gt, w1.heap.size = gt := ⟨_, rfl⟩
  have HGT := Lib.hid hgt
  rw [hgt] at HZ2 HS2 ⊢
  have hb2 : Below w1.heap.size w1 w2 := HB2.out
  have HBW := Lib.hid (show Below w.heap.size w w2 from below_then HB1.out hb2)
  have HZR := Lib.hid (show ∃ dr, Cl w2 r dr from ⟨_, HZ.out.below hb2⟩)
  clear hgt hb2
  have HC := Lib.hid (clone_any d.lA d.labels d.ln d.lc w2 ((show Rd w0 1 d.lA d.ln (strs d.labels) from HI.out.lab).below (HB.out.trans (HBW.out.mono HB.out.size))) HLN.out)
  obtain ⟨c0, c1, c2, c3, c4, c5, c6, c7⟩ := HE2.out
  go_wp2_with fail
  refine HC.out.mono ?_
  rintro e w3 ⟨A3, cc3, rfl, hr3, hf3, hnc3, hcm3, hb3⟩
  have HSTART := Lib.hid (BS.start HO.out HR.out (by have := HGT.out; have := HS1.out; omega) HBW.out HS2.out HZ2.out HZR.out hb3 hr3 hf3 ⟨hnc3, hcm3⟩ ⟨HI.out.cap.2.2.2.1, HI.out.cap.2.2.2.2.1, HI.out.cap.2.2.2.2.2.1⟩)
  have HB3 := Lib.hid hb3
  obtain ⟨_, _, _, _, _, k5, k6, k7⟩ := (HZ2.out.below hb3).load
  obtain ⟨_, _, _, _, _, z5, z6, z7⟩ := (HZ2.out.below hb3).free
  clear c0 c1 c2 c3 c4 c5 c6 c7 hr3 hf3 hnc3 hcm3 hb3 HC
  go_upto_region 3 with fail
  have HWX := Lib.hid (show Below N w (((w3.setCell ⟨gt, 7, none⟩ (.slice none 0 0)).setCell ⟨gt, 6, none⟩ (.slice none 0 0)).setCell ⟨gt, 5, none⟩ (.slice A3 d.ln cc3)) from HSTART.out.wo.b)
  generalize ((w3.setCell ⟨gt, 7, none⟩ (.slice none 0 0)).setCell ⟨gt, 6, none⟩ (.slice none 0 0)).setCell ⟨gt, 5, none⟩ (.slice A3 d.ln cc3) = w4 at *
  clear k5 k6 k7 z5 z6 z7
  have HEX := Lib.hid (fun (W : World) (h : Below N w W) => HA.out.lower (HB.out.trans (h.mono HN.out)))
  have hbl : d.names.length ≤ d.bs.length := by rw [HBS.out, List.length_append]; omega
  have HBL := Lib.hid hbl
  have HNL := Lib.hid (show d.names.length = d.nn from HI.out.namLen)
  obtain ⟨c0, c1, c2, c3, c4, c5, c6, c7⟩ := HEX.out _ HWX.out
  go_upto_region 12 with fail
  clear c0 c1 c2 c3 c4 c5 c6 c7 hbl
  go_loopw [56] (fun i wr => ∃ (k : Nat) (An : Option Addr) (cn : Nat) (vk : Value), i = .int .i64 k ∧ k ≤ d.nn ∧ BS N w v gt r (d.with A3 cc3 An cn k ol.length) (ol ++ d.names.take k) vk wr) (fun i _ => d.nn - (intOf i).toNat)
  case atStart => exact ⟨0, none, 0, v, rfl, Nat.zero_le _, by rw [List.take_zero, List.append_nil]; exact HSTART.out⟩
  case round =>
    obtain ⟨k, An, cn, vk, rfl, hk, hbs⟩ := hrel
    have HBSk := Lib.hid hbs
    clear hbs
    by_cases hlt : k < d.nn
    · have hkl : k < d.names.length := by rw [HNL.out]; exact hlt
      obtain ⟨nb, no, hnA, hcel⟩ := (show Rd w0 1 d.nA d.nn (strs d.names) from HI.out.nam).str (k := k) hkl
      have hx := cell_below (HB.out.trans (HBSk.out.wo.b.mono HN.out)) (hcel k hkl)
      have htk : d.names.take (k + 1) = d.names.take k ++ [d.names[k]] := by rw [List.take_succ_eq_append_getElem hkl]
      obtain ⟨x, hxx⟩ : ∃ x, d.names[k] = x := ⟨_, rfl⟩
      rw [hxx] at hx htk
      have HTK := Lib.hid htk
      have hnA' : d.nA = some ⟨nb, no, none⟩ := hnA
      rw [hnA']
      have hll : (ol ++ d.names.take k).length = ol.length + k := by rw [List.length_append, List.length_take]; omega
      have hml : ol.length + k + 1 ≤ 4000000 := by have h := HM.out; have h2 := HBL.out; omega
      have hnx := numNext_any N (ol ++ d.names.take k) vk x wr.drew (HBSk.out.no.below ((Below.refl _ _).drew)) (HT.out.keep (HBSk.out.wo.b.trans ((Below.refl _ _).drew))) (by rw [hll]; exact hml)
      rw [hll] at hnx
      have HNX := Lib.hid hnx
      have HVL := Lib.hid (vName_len (k := ol.length + k) (by omega))
      have HML := Lib.hid (show (k + 1) * 16 ≤ 140737488355328 by omega)
      have g6 := HBSk.out.cl.load.2.2.2.2.2.2.1
      have z6 := HBSk.out.cl.fz 6
      have HDW := Lib.hid (show (d.with A3 cc3 An cn k ol.length).nA = An ∧ (d.with A3 cc3 An cn k ol.length).nn = k ∧ (d.with A3 cc3 An cn k ol.length).nc = cn from ⟨rfl, rfl, rfl⟩)
      have g6' : wr.cell? ⟨gt, 6, none⟩ = some (.slice An k cn) := g6
      have hki : (k : Int) < (d.nn : Int) := by omega
      have hk0 : (0 : Int) ≤ (k : Int) := by omega
      have hk9 : (k : Int) ≤ 9223372036854775806 := by omega
      clear g6 hkl hnA hnA' hcel htk hxx hll hml hnx
      have BSD := Lib.hid (HBSk.out.below ((Below.refl _ _).drew))
      have g6d : wr.drew.cell? ⟨gt, 6, none⟩ = some (.slice An k cn) := g6'
      go_wp2_with fail
      go_region_law (first
        | (refine step_app elStr (w5.alloc (.cells #[.string (bstr (vName (ol.length + k)))] 9)) (by rfl) (.tmp 61) (.tmp 65) (by rfl) (N + 1) (.slice An k cn) k (strs (vNames k ol.length)) (by rfl) (H5.out.own.alloc _) (some ⟨w5.heap.size, 0, none⟩) 1 1 (strs [vName (ol.length + k)]) (by rfl) (Rd.lit w5 #[.string (bstr (vName (ol.length + k)))] _ rfl) (strs_one _) HML.out (H5.out.appN _) ?_; intro v7 w7 hown7 hg7 hat7; obtain ⟨A7, c7, hv7, _⟩ := own_cap hown7; rw [hv7] at hown7 hat7 ⊢; clear hv7; have H8 := Lib.hid (H5.out.app HVL.out hown7 hg7 hat7); have g7 : w7.cell? ⟨gt, 6, none⟩ = some (.slice An k cn) := H5.out.far6 hg7; have z7 : w7.frozen? ⟨gt, 6, none⟩ = false := H5.out.far6z hg7; clear hown7 hg7 hat7)
        | (go_simp; go_at_call 100; refine HNX.out.mono ?_; rintro e w5 ⟨rfl, v5, hn5, hk5⟩; have H5 := Lib.hid (BSD.out.call hn5 hk5); have g5 : w5.cell? ⟨gt, 6, none⟩ = some (.slice An k cn) := H5.out.cl.load.2.2.2.2.2.2.1; have g5a : (w5.alloc (.cells #[.string (bstr (vName (ol.length + k)))] 9)).cell? ⟨gt, 6, none⟩ = some (.slice An k cn) := cell_alloc g5; clear hn5 hk5)
        | fail)
      all_goals
        go_wp2_with fail
        refine ⟨⟨k + 1, A7, c7, v5, by go_num, hlt, ?_⟩, by simp [intOf] <;> omega⟩
        have h8 := H8.out
        rw [List.append_assoc, ← HTK.out] at h8
        exact with_next d A3 cc3 An cn A7 c7 k ol.length ▸ h8
    · have hkk : k = d.nn := by omega
      subst hkk
      have hki : ¬ (d.nn : Int) < (d.nn : Int) := by omega
      have hbs := HBSk.out
      rw [List.take_of_length_le (by rw [HNL.out]; exact Nat.le_refl _)] at hbs
      have HBN := Lib.hid hbs
      have HNM := Lib.hid (show vNames d.nn ol.length = vNames d.names.length ol.length by rw [HNL.out])
      obtain ⟨c0, c1, c2, c3, c4, c5, c6, c7⟩ := HEX.out _ HBSk.out.wo.b
      clear hbs
      by_cases ht : d.t = []
      · have p4 : (bstr d.t).toList.isEmpty = true := by rw [ht, bstr_toList]; rfl
        have p5 : (!(bstr d.t).toList.isEmpty) = false := by rw [p4]; rfl
        have HB2 := Lib.hid (show d.bs = d.names by rw [HBS.out, if_pos ht, List.append_nil])
        have HTE := Lib.hid ht
        clear ht
        go_upto_region 18 with fail
        clear c0 c1 c2 c3 c4 c5 c6 c7 p4 p5
        have H6 := Lib.hid HBN.out
        have HND := Lib.hid (show NumD d ol.length (d.with A3 cc3 An cn d.nn ol.length : ExD) from ⟨rfl, rfl, rfl, rfl, by rw [if_neg (by have := HK.out; omega)]; rfl, by rw [if_neg (by have := HK.out; omega), if_neg (fun h => h.2 HTE.out)]; rfl, by rw [if_pos HK.out]; exact HNM.out⟩)
        obtain ⟨dc, hdc⟩ : ∃ dc, (d.with A3 cc3 An cn d.nn ol.length : ExD) = dc := ⟨_, rfl⟩
        rw [hdc] at H6 HND
        clear hdc
        obtain ⟨k0, k1, k2, k3, k4, k5, k6, k7⟩ := H6.out.cl.load
        obtain ⟨dr, hdr⟩ := H6.out.rz
        obtain ⟨y0, y1, y2, y3, y4, y5, y6, y7⟩ := hdr.load
        obtain ⟨f0, f1, f2, f3, f4, f5, f6, f7⟩ := hdr.free
        have HDR := Lib.hid hdr
        clear hdr
        go_wp2_with fail
        obtain ⟨w9, hw9, hcl9, hk9, _, hb9⟩ := set8 HDR.out dc
        rw [hw9]
        obtain ⟨x0, x1, x2, x3, x4, x5, x6, x7⟩ := hcl9.load
        refine bodyPost_ret (v := .agg dc.arr) (by simp [results, Tryz.results71, go_sem, x0, x1, x2, x3, x4, x5, x6, x7]) rfl ?_
        exact H6.out.done HND.out (by rw [HB2.out]) hk9 hb9

      · have p4 : (bstr d.t).toList.isEmpty = false := str_empty ht
        have p5 : (!(bstr d.t).toList.isEmpty) = true := by rw [p4]; rfl
        have HB2 := Lib.hid (show d.bs = d.names ++ [d.t] by rw [HBS.out, if_neg ht])
        have HTE := Lib.hid ht
        have hll : (ol ++ d.names).length = ol.length + d.names.length := by rw [List.length_append]
        have hml : ol.length + d.names.length + 1 ≤ 4000000 := by have h := HM.out; rw [HB2.out, List.length_append] at h; simpa [Nat.add_assoc] using h
        have hnx := numNext_any N (ol ++ d.names) vk d.t wr HBN.out.no (HT.out.keep HBN.out.wo.b) (by rw [hll]; exact hml)
        rw [hll] at hnx
        have HNX := Lib.hid hnx
        have HVL := Lib.hid (vName_len (k := ol.length + d.names.length) (by omega))
        clear ht hll hml hnx
        go_wp2_with fail
        refine HNX.out.mono ?_
        rintro e w7 ⟨rfl, v7, hn7, hk7⟩
        have H7 := Lib.hid (HBN.out.call hn7 hk7)
        clear c0 c1 c2 c3 c4 c5 c6 c7 hn7 hk7 HNX p4 p5
        have k4 := H7.out.cl.load.2.2.2.2.1
        have z4 := H7.out.cl.fz 4
        go_upto_region 18 with fail
        have H8 := Lib.hid (H7.out.setT (vName (ol.length + d.names.length)) HVL.out)
        generalize w7.setCell ⟨gt, 4, none⟩ (.string (bstr (vName (ol.length + d.names.length)))) = w8 at *
        clear k4 z4
        have HND := Lib.hid (show NumD d ol.length ({ d.with A3 cc3 An cn d.nn ol.length with t := vName (ol.length + d.names.length) } : ExD) from ⟨rfl, rfl, rfl, rfl, by rw [if_neg (by have := HK.out; omega)]; rfl, by rw [if_neg (by have := HK.out; omega), if_pos ⟨HK.out, HTE.out⟩], by rw [if_pos HK.out]; exact HNM.out⟩)
        obtain ⟨dc, hdc⟩ : ∃ dc, ({ d.with A3 cc3 An cn d.nn ol.length with t := vName (ol.length + d.names.length) } : ExD) = dc := ⟨_, rfl⟩
        rw [hdc] at H8 HND
        clear hdc
        obtain ⟨k0, k1, k2, k3, k4, k5, k6, k7⟩ := H8.out.cl.load
        obtain ⟨dr, hdr⟩ := H8.out.rz
        obtain ⟨y0, y1, y2, y3, y4, y5, y6, y7⟩ := hdr.load
        obtain ⟨f0, f1, f2, f3, f4, f5, f6, f7⟩ := hdr.free
        have HDR := Lib.hid hdr
        clear hdr
        go_wp2_with fail
        obtain ⟨w9, hw9, hcl9, hk9, _, hb9⟩ := set8 HDR.out dc
        rw [hw9]
        obtain ⟨x0, x1, x2, x3, x4, x5, x6, x7⟩ := hcl9.load
        refine bodyPost_ret (v := .agg dc.arr) (by simp [results, Tryz.results71, go_sem, x0, x1, x2, x3, x4, x5, x6, x7]) rfl ?_
        exact H8.out.done HND.out (by rw [HB2.out, List.append_assoc]) hk9 hb9


set_option maxRecDepth 100000 in
/-- Numbers for any expression's own binders. -/
theorem binders_any (w0 : World) (d : ExD) (l : List Ex) (hI : (Ex.mk d l).In w0) (b o : Nat) (hA : d.At w0 b o) (N : Nat) (hN : w0.heap.size ≤ N) (ol : List Str) (v : Value) (w : World) (hb : Below w0.heap.size w0 w) (hO : NO w N ol v) (hT : TB N w) (hm : ol.length + d.bs.length ≤ 4000000) (hln : d.ln ≤ 4000000) :
    Calls Tryz.prog 71 #[.pointer (some ⟨N, 0, none⟩), .pointer (some ⟨b, o, none⟩)] w fun e w' => BinR N ol v d w e w' := by
  by_cases h4 : d.kind = 4
  · exact binders_4 w0 d l hI b o hA N hN ol v w hb hO hT hm hln h4
  by_cases h6 : d.kind = 6
  · exact binders_6 w0 d l hI b o hA N hN ol v w hb hO hT hm hln h6
  by_cases h7 : d.kind = 7
  · exact binders_7 w0 d l hI b o hA N hN ol v w hb hO hT hm hln h7
  by_cases h14 : d.kind = 14
  · exact binders_14 w0 d l hI b o hA N hN ol v w hb hO hT hm hln h14
  · exact binders_o w0 d l hI b o hA N hN ol v w hb hO hT hm hln h4 h6 h7 h14
end Go.Proofs.YtaglmmcjhlehjaaGreatDoor

namespace Go.Proofs.YtaglmmcjhlehjaaGreatDoor
open Go.ChangeShapes Go.WideShapes Go.ChangeAt Go.RowKit Go.Sort
set_option linter.unusedVariables false
set_option linter.unusedSimpArgs false

/-- All but a row's room, and some blocks, is as it was. -/
structure FX (X : Nat → Prop) (B N : Nat) (e : TypeId) (size : Nat) (v : Value) (n : Nat) (xs : List Value) (w w' : World) : Prop where
  b : Below N w w'
  oth : ∀ g, g < w.heap.size → ¬ X g → some g ≠ v.ownBlock → w'.heap[g]? = w.heap[g]?
  own : w'.ownsRow B e size v n xs
section
variable {X : Nat → Prop} {B N : Nat} {e : TypeId} {size n m : Nat} {v v3 : Value} {xs news : List Value} {w w1 w2 w3 w4 : World}
theorem FX.app (h : w.ownsRow B e size v n xs) (hN : N ≤ B) (hB : B ≤ w.heap.size) (hX : ∀ g, v.ownBlock = some g → ¬ X g) (hg : w.grownBy w3 v.ownBlock) (ha : AppR w w3 v v3 n m) (hn : news.length = m * size) (k : FX X B N e size v3 (n + m) (xs ++ news) w3 w4) : FX X B N e size v n xs w w4 := by
  have hb3 : Below N w w3 := (Below.refl N w).grown hg (Nat.le_trans hN hB) (fun k hk => Nat.le_trans hN (h.lt k hk).1)
  refine ⟨hb3.trans k.b, fun g hg1 hgx hgv => ?_, ?_⟩
  · refine (k.oth g (Nat.lt_of_lt_of_le hg1 hg.size) hgx ?_).trans (hg.block g hg1 hgv)
    rcases ha with ⟨rfl, _, _⟩ | ⟨q, _⟩ | ⟨g', cap, rfl, rfl⟩
    · exact hgv
    · rw [q]; intro e; injection e with e; omega
    · exact hgv
  · rcases ha with ⟨rfl, rfl, rfl⟩ | ⟨q, hb⟩ | ⟨g', cap, rfl, rfl⟩
    · have hnil : news = [] := List.eq_nil_of_length_eq_zero (by omega)
      subst hnil
      have := k.own
      rwa [Nat.add_zero, List.append_nil] at this
    · refine ownsRow_kept h fun g hg1 => ?_
      have hlt := (h.lt g hg1).2
      refine (k.oth g (Nat.lt_of_lt_of_le hlt hg.size) (hX g hg1) ?_).trans (hb.block g hlt)
      rw [q]; intro e; injection e with e; omega
    · exact own_back h.1 k.own
theorem FX.pre (h : w.ownsRow B e size v n xs) (hN : N ≤ w.heap.size) (hb : Below w.heap.size w w1) (k : FX X B N e size v n xs w1 w2) : FX X B N e size v n xs w w2 :=
  ⟨(hb.mono hN).trans k.b, fun g hg hx hv => (k.oth g (Nat.lt_of_lt_of_le hg hb.size) hx hv).trans (hb.block g hg), k.own⟩
end
/-- The value of the parts' list. -/
def ExD.lV (d : ExD) : Value := .slice d.pA d.pn d.pc
/-- A block that is none of those that change. -/
def PL (N W gt r : Nat) (v vL : Value) (b : Nat) : Prop := (b < N ∨ W ≤ b) ∧ b ≠ gt ∧ b ≠ r ∧ some b ≠ v.ownBlock ∧ some b ≠ vL.ownBlock
/-- An expression without its parts. -/
def ExD.noL (d : ExD) : ExD := { d with pA := none, pn := 0, pc := 0 }
/-- Where it stands: the struct lies in gt, the result's in r, so many parts are there; the names that are bound lie in ne. -/
structure OS (N : Nat) (w : World) (v0 ne : Value) (env : List Bd) (gt r : Nat) (dc : ExD) (ts : List Ex) (ol : List Str) (v : Value) (wx : World) : Prop where
  cl : Cl wx gt dc
  rz : ∃ dr, Cl wx r dr
  no : NO wx N ol v
  b : Below N w wx
  oth : ∀ g, g < w.heap.size → g ≠ N → some g ≠ v0.ownBlock → some g ≠ ne.ownBlock → wx.heap[g]? = w.heap[g]?
  new : ∀ k, v.ownBlock = some k → v0.ownBlock = some k ∨ w.heap.size ≤ k
  env : wx.ownsRow (N + 1) 115 2 ne env.length (bds env)
  envB : ∀ k, ne.ownBlock = some k → k < w.heap.size ∧ some k ≠ v.ownBlock
  gtN : N < w.heap.size ∧ w.heap.size ≤ gt ∧ w.heap.size ≤ r ∧ gt ≠ r ∧ some gt ≠ v.ownBlock ∧ some r ≠ v.ownBlock
  x0 : (Ex.mk dc.noL []).In wx
  x0B : (Ex.mk dc.noL []).Bl (PL N w.heap.size gt r v dc.lV)
  own : wx.ownsRow (N + 1) 25 8 dc.lV dc.pn (ts.flatMap Ex.cells)
  ownB : ∀ k, dc.lV.ownBlock = some k → w.heap.size ≤ k ∧ k ≠ gt ∧ k ≠ r ∧ some k ≠ v.ownBlock
  kids : ∀ x ∈ ts, x.In wx ∧ x.Bl (PL N w.heap.size gt r v dc.lV)
section
variable {N gt r : Nat} {w wx wy : World} {v0 v v1 ne : Value} {env : List Bd} {dc : ExD} {ts : List Ex} {ol ol1 : List Str}
/-- The numbers' blocks and the names' room have changed. -/
theorem OS.call (h : OS N w v0 ne env gt r dc ts ol v wx) (hn : NO wy N ol1 v1) (k : FX (fun g => g = N ∨ some g = v.ownBlock) (N + 1) N 115 2 ne env.length (bds env) wx wy) (new : ∀ k, v1.ownBlock = some k → v.ownBlock = some k ∨ wx.heap.size ≤ k) : OS N w v0 ne env gt r dc ts ol1 v1 wy := by
  obtain ⟨hN, hgt, hr, hne, hv1, hv2⟩ := h.gtN
  have hsz : w.heap.size ≤ wx.heap.size := h.b.size
  have hnew : ∀ b, b < wx.heap.size → some b ≠ v.ownBlock → some b ≠ v1.ownBlock := fun b hb hv e => by
    rcases new b e.symm with q | q
    · exact hv q.symm
    · omega
  have hev : ∀ b, some b = ne.ownBlock → N + 1 ≤ b ∧ b < w.heap.size := fun b e => ⟨(h.env.lt b e.symm).1, (h.envB b e.symm).1⟩
  have hk0 : ∀ b, b < wx.heap.size → b ≠ N → some b ≠ v.ownBlock → some b ≠ ne.ownBlock → wy.heap[b]? = wx.heap[b]? := fun b hb h1 h2 h3 => k.oth b hb (fun q => q.elim h1 h2) h3
  have hkeep : ∀ b, PL N w.heap.size gt r v dc.lV b → b < wx.heap.size → wy.heap[b]? = wx.heap[b]? := fun b hp hb => hk0 b hb (by rcases hp.1 with q | q <;> omega) hp.2.2.2.1 (fun e => by have := hev b e; rcases hp.1 with q | q <;> omega)
  have hP : ∀ b, PL N w.heap.size gt r v dc.lV b → b < wx.heap.size → PL N w.heap.size gt r v1 dc.lV b := fun b hp hb => ⟨hp.1, hp.2.1, hp.2.2.1, hnew b hb hp.2.2.2.1, hp.2.2.2.2⟩
  have hgl := h.cl.lt
  refine ⟨h.cl.kept (hk0 gt hgl (by omega) hv1 (fun e => by have := hev gt e; omega)), ?_, hn, h.b.trans k.b, fun g hg h1 h2 h3 => ?_, fun k hk => ?_, k.own, fun b hb => ⟨(h.envB b hb).1, hnew b (by have := (h.envB b hb).1; omega) (h.envB b hb).2⟩, ⟨hN, hgt, hr, hne, hnew gt hgl hv1, ?_⟩, h.x0.keepP h.x0B hkeep, h.x0B.imp h.x0 hP, ?_, fun b hb => ?_, fun x hx => ⟨(h.kids x hx).1.keepP (h.kids x hx).2 hkeep, (h.kids x hx).2.imp (h.kids x hx).1 hP⟩⟩
  · obtain ⟨dr, hd⟩ := h.rz
    exact ⟨dr, hd.kept (hk0 r hd.lt (by omega) hv2 (fun e => by have := hev r e; omega))⟩
  · refine (hk0 g (by omega) h1 (fun e => ?_) h3).trans (h.oth g hg h1 h2 h3)
    rcases h.new g e.symm with q | q
    · exact h2 q.symm
    · omega
  · rcases new k hk with q | q
    · exact h.new k q
    · exact .inr (by omega)
  · obtain ⟨dr, hd⟩ := h.rz
    exact hnew r hd.lt hv2
  · refine ownsRow_kept h.own fun g hg => ?_
    have h1 := h.ownB g hg
    exact hk0 g (h.own.lt g hg).2 (by omega) h1.2.2.2 (fun e => by have := hev g e; omega)
  · have h1 := h.ownB b hb
    exact ⟨h1.1, h1.2.1, h1.2.2.1, hnew b (h.own.lt b hb).2 h1.2.2.2⟩
end
end Go.Proofs.YtaglmmcjhlehjaaGreatDoor

namespace Go.Proofs.YtaglmmcjhlehjaaGreatDoor
open Go.ChangeShapes Go.WideShapes Go.ChangeAt Go.RowKit Go.Sort
set_option linter.unusedVariables false
set_option linter.unusedSimpArgs false

theorem own_set {w : World} {base size n g cap i : Nat} {e : TypeId} {xs : List Value} (h : w.ownsRow base e size (.slice (some ⟨g, 0, none⟩) n cap) n xs) (hi : i < n * size) (u : Value) : (w.setCell ⟨g, i, none⟩ u).ownsRow base e size (.slice (some ⟨g, 0, none⟩) n cap) n (xs.set i u) := by
  refine ⟨by rw [List.length_set]; exact h.1, .inr ?_⟩
  rcases h.2 with ⟨q, _⟩ | ⟨g', cap', cur, hv, hb, hg, hnc, hcm, hcs, ht⟩
  · cases q
  · injection hv with q1 q2 q3
    injection q1 with q1
    injection q1 with q1
    subst q1 q3
    refine ⟨g, cap, _, rfl, hb, Go.heap_setCell_same w g i cur e u hg, hnc, hcm, by simpa using hcs, ?_⟩
    rw [← ht]
    simp [List.take_set]
theorem own_frozen {w : World} {base size n g cap i : Nat} {e : TypeId} {xs : List Value} (h : w.ownsRow base e size (.slice (some ⟨g, 0, none⟩) n cap) n xs) : w.frozen? ⟨g, i, none⟩ = false := by
  rcases h.2 with ⟨q, _⟩ | ⟨g', cap', cur, hv, hb, hg, _⟩
  · cases q
  · injection hv with q1 q2 q3
    injection q1 with q1
    injection q1 with q1
    subst q1
    simp [World.frozen?, hg]
theorem own_cell {w : World} {base size n g cap i : Nat} {e : TypeId} {xs : List Value} (h : w.ownsRow base e size (.slice (some ⟨g, 0, none⟩) n cap) n xs) {u : Value} (hi : xs[i]? = some u) : w.cell? ⟨g, i, none⟩ = some u := by
  have := h.cells (g := g) rfl i u hi
  rwa [Addr.add_lit, Nat.zero_add] at this
/-- Eight cells are laid behind a row's. -/
def put8 (w : World) (g i : Nat) (d : ExD) : World := (((((((w.setCell ⟨g, i, none⟩ (.int .i64 d.kind)).setCell ⟨g, i + 1, none⟩ (.int .i64 d.at_)).setCell ⟨g, i + 2, none⟩ (.int .i64 d.n)).setCell ⟨g, i + 3, none⟩ (.string (bstr d.s))).setCell ⟨g, i + 4, none⟩ (.string (bstr d.t))).setCell ⟨g, i + 5, none⟩ (.slice d.lA d.ln d.lc)).setCell ⟨g, i + 6, none⟩ (.slice d.nA d.nn d.nc)).setCell ⟨g, i + 7, none⟩ (.slice d.pA d.pn d.pc)
theorem put8_ne (w : World) {g b i : Nat} (d : ExD) (h : b ≠ g) : (put8 w g i d).heap[b]? = w.heap[b]? := by
  unfold put8
  simp only [heap_set_ne _ _ h]
theorem put8_size (w : World) (g i : Nat) (d : ExD) : (put8 w g i d).heap.size = w.heap.size := by
  unfold put8; simp only [World.size_setCell]
theorem put8_below (w : World) {g i B : Nat} (d : ExD) (hB : B ≤ g) : Below B w (put8 w g i d) := by
  have key : ∀ (w1 w2 : World) (i : Nat) (u : Value), Below B w1 w2 → Below B w1 (w2.setCell ⟨g, i, none⟩ u) := fun w1 w2 i u hb => hb.trans ⟨rfl, rfl, rfl, Nat.le_of_eq (World.size_setCell _ _ _).symm, fun k hk => Below.heap_setCell w2 _ _ k (by show k ≠ g; omega)⟩
  exact key _ _ _ _ (key _ _ _ _ (key _ _ _ _ (key _ _ _ _ (key _ _ _ _ (key _ _ _ _ (key _ _ _ _ (key _ _ _ _ (Below.refl _ _))))))))
theorem set_at {l m : List Value} {u : Value} {j : Nat} : (l ++ m).set (l.length + j) u = l ++ m.set j u := by
  rw [List.set_append_right _ _ (by omega)]; simp
theorem put8_own {w : World} {base g cap n : Nat} {e : TypeId} {xs : List Value} {z0 z1 z2 z3 z4 z5 z6 z7 : Value} (d : ExD) (hx : xs.length = n * 8) (h : w.ownsRow base e 8 (.slice (some ⟨g, 0, none⟩) (n + 1) cap) (n + 1) (xs ++ [z0, z1, z2, z3, z4, z5, z6, z7])) :
    (put8 w g (n * 8) d).ownsRow base e 8 (.slice (some ⟨g, 0, none⟩) (n + 1) cap) (n + 1) (xs ++ d.cells) := by
  unfold put8
  have s0 := own_set h (i := n * 8) (by omega) (.int .i64 d.kind)
  rw [show n * 8 = xs.length + 0 from by omega, set_at] at s0
  have s1 := own_set s0 (i := n * 8 + 1) (by omega) (.int .i64 d.at_)
  rw [show n * 8 + 1 = xs.length + 1 from by omega, set_at] at s1
  have s2 := own_set s1 (i := n * 8 + 2) (by omega) (.int .i64 d.n)
  rw [show n * 8 + 2 = xs.length + 2 from by omega, set_at] at s2
  have s3 := own_set s2 (i := n * 8 + 3) (by omega) (.string (bstr d.s))
  rw [show n * 8 + 3 = xs.length + 3 from by omega, set_at] at s3
  have s4 := own_set s3 (i := n * 8 + 4) (by omega) (.string (bstr d.t))
  rw [show n * 8 + 4 = xs.length + 4 from by omega, set_at] at s4
  have s5 := own_set s4 (i := n * 8 + 5) (by omega) (.slice d.lA d.ln d.lc)
  rw [show n * 8 + 5 = xs.length + 5 from by omega, set_at] at s5
  have s6 := own_set s5 (i := n * 8 + 6) (by omega) (.slice d.nA d.nn d.nc)
  rw [show n * 8 + 6 = xs.length + 6 from by omega, set_at] at s6
  have s7 := own_set s6 (i := n * 8 + 7) (by omega) (.slice d.pA d.pn d.pc)
  rw [show n * 8 + 7 = xs.length + 7 from by omega, set_at] at s7
  rw [← hx]
  exact s7
section
attribute [local irreducible] put8
variable {N gt r : Nat} {w wx wa w7 : World} {v0 v ne : Value} {env : List Bd} {dc : ExD} {ts : List Ex} {ol : List Str}
set_option maxHeartbeats 1000000 in
/-- A part more. -/
theorem OS.push (h : OS N w v0 ne env gt r dc ts ol v wx) (hwa : Below wx.heap.size wx wa) {g7 c7 : Nat} {z0 z1 z2 z3 z4 z5 z6 z7 : Value} (t' : Ex) (ht : t'.In wx) (htB : t'.Bl (PL N w.heap.size gt r v dc.lV))
    (ho : w7.ownsRow (N + 1) 25 8 (.slice (some ⟨g7, 0, none⟩) (dc.pn + 1) c7) (dc.pn + 1) (ts.flatMap Ex.cells ++ [z0, z1, z2, z3, z4, z5, z6, z7])) (hg : wa.grownBy w7 dc.lV.ownBlock) (hat : (Value.slice (some ⟨g7, 0, none⟩) (dc.pn + 1) c7).ownBlock = dc.lV.ownBlock ∨ (Value.slice (some ⟨g7, 0, none⟩) (dc.pn + 1) c7).ownBlock = some wa.heap.size) :
    OS N w v0 ne env gt r { dc with pA := some ⟨g7, 0, none⟩, pn := dc.pn + 1, pc := c7 } (ts ++ [t']) ol v ((put8 w7 g7 (dc.pn * 8) t'.d).setCell ⟨gt, 7, none⟩ (.slice (some ⟨g7, 0, none⟩) (dc.pn + 1) c7)) := by
  obtain ⟨hN, hgt, hr, hne, hv1, hv2⟩ := h.gtN
  have hsz : w.heap.size ≤ wx.heap.size := h.b.size
  have hsa : wx.heap.size ≤ wa.heap.size := hwa.size
  have h7 : wx.heap.size ≤ w7.heap.size := by have := hg.size; omega
  have hgl := h.cl.lt
  have hg7 : dc.lV.ownBlock = some g7 ∨ wx.heap.size ≤ g7 := by
    rcases hat with q | q
    · exact .inl q.symm
    · injection q with q; have q' : g7 = wa.heap.size := q; exact .inr (by omega)
  have hb7 : w.heap.size ≤ g7 ∧ g7 ≠ gt ∧ g7 ≠ r ∧ some g7 ≠ v.ownBlock := by
    rcases hg7 with q | q
    · exact h.ownB g7 q
    · obtain ⟨dr, hd⟩ := h.rz
      have := hd.lt
      exact ⟨by omega, by omega, by omega, fun e => by have := (h.no.own.lt g7 e.symm).2; omega⟩
  have hev : ∀ b, some b = ne.ownBlock → N + 1 ≤ b ∧ b < w.heap.size := fun b e => ⟨(h.env.lt b e.symm).1, (h.envB b e.symm).1⟩
  -- what is neither the row's, nor the struct's
  have hk : ∀ b, b < wx.heap.size → some b ≠ dc.lV.ownBlock → b ≠ gt → ((put8 w7 g7 (dc.pn * 8) t'.d).setCell ⟨gt, 7, none⟩ (.slice (some ⟨g7, 0, none⟩) (dc.pn + 1) c7)).heap[b]? = wx.heap[b]? := fun b hb h1 h2 => by
    have hb7' : b ≠ g7 := by
      rcases hg7 with q | q
      · intro e; exact h1 (e ▸ q.symm)
      · omega
    exact (heap_set_ne _ _ h2).trans ((put8_ne w7 _ hb7').trans ((hg.block b (by omega) h1).trans (hwa.block b hb)))
  have hkeep : ∀ b, PL N w.heap.size gt r v dc.lV b → b < wx.heap.size → ((put8 w7 g7 (dc.pn * 8) t'.d).setCell ⟨gt, 7, none⟩ (.slice (some ⟨g7, 0, none⟩) (dc.pn + 1) c7)).heap[b]? = wx.heap[b]? := fun b hp hb => hk b hb hp.2.2.2.2 hp.2.1
  have hP : ∀ b, PL N w.heap.size gt r v dc.lV b → b < wx.heap.size → PL N w.heap.size gt r v (.slice (some ⟨g7, 0, none⟩) (dc.pn + 1) c7) b := fun b hp hb => ⟨hp.1, hp.2.1, hp.2.2.1, hp.2.2.2.1, fun e => by
    injection e with e
    rcases hg7 with q | q
    · exact hp.2.2.2.2 (e ▸ q.symm)
    · have e' : b = g7 := e
      omega⟩
  have hcl7 : Cl (put8 w7 g7 (dc.pn * 8) t'.d) gt dc := h.cl.kept ((put8_ne w7 _ (Ne.symm hb7.2.1)).trans ((hg.block gt (by omega) (fun e => (h.ownB gt e.symm).2.1 rfl)).trans (hwa.block gt hgl)))
  have hpl : (ts.flatMap Ex.cells).length = dc.pn * 8 := h.own.1
  have nol : ({ dc with pA := some ⟨g7, 0, none⟩, pn := dc.pn + 1, pc := c7 } : ExD).noL = dc.noL := rfl
  refine ⟨hcl7.setPar _ _ _, ?_, h.no.kept fun g hgg => ?_, ?_, fun g hg1 hg2 hg3 hg4 => ?_, h.new, ?_, h.envB, h.gtN, ?_, ?_, ?_, ?_, ?_⟩
  · obtain ⟨dr, hd⟩ := h.rz
    exact ⟨dr, hd.kept (hk r hd.lt (fun e => (h.ownB r e.symm).2.2.1 rfl) (Ne.symm hne))⟩
  · rcases hgg with rfl | hgg
    · exact hk _ (by omega) (fun e => by have := (h.ownB _ e.symm).1; omega) (by omega)
    · exact hk g ((h.no.own.lt g hgg).2) (fun e => (h.ownB g e.symm).2.2.2 hgg.symm) (fun e => hv1 (e ▸ hgg.symm))
  · have hb : Below N wx w7 := (hwa.mono (show N ≤ wx.heap.size by omega)).grown hg (by omega) (fun k hk => by have := (h.ownB k hk).1; omega)
    exact ((h.b.trans hb).trans (put8_below w7 t'.d (by omega))).setCell (show N ≤ gt by omega) _
  · exact (hk g (by omega) (fun e => by have := (h.ownB g e.symm).1; omega) (by omega)).trans (h.oth g hg1 hg2 hg3 hg4)
  · exact ownsRow_kept h.env fun g hgg => by
      have := hev g hgg.symm
      exact hk g (by omega) (fun e => by have := (h.ownB g e.symm).1; omega) (by omega)
  · rw [nol]; exact h.x0.keepP h.x0B hkeep
  · rw [nol]; exact h.x0B.imp h.x0 hP
  · have h8 := put8_own t'.d hpl ho
    have e8 : (ts ++ [t']).flatMap Ex.cells = ts.flatMap Ex.cells ++ t'.d.cells := by rw [List.flatMap_append]; simp [Ex.cells]
    rw [e8]
    refine ownsRow_kept h8 fun g hgg => heap_set_ne _ _ ?_
    have e9 : g = g7 := by
      have : some g7 = some g := hgg
      injection this with this; exact this.symm
    rw [e9]; exact hb7.2.1
  · intro k hk
    have : some g7 = some k := hk
    injection this with this
    subst this
    exact hb7
  · intro x hx
    rcases List.mem_append.1 hx with hx | hx
    · exact ⟨(h.kids x hx).1.keepP (h.kids x hx).2 hkeep, (h.kids x hx).2.imp (h.kids x hx).1 hP⟩
    · obtain rfl := List.mem_singleton.1 hx
      exact ⟨ht.keepP htB hkeep, htB.imp ht hP⟩
end
end Go.Proofs.YtaglmmcjhlehjaaGreatDoor

namespace Go.Proofs.YtaglmmcjhlehjaaGreatDoor
open Go.ChangeShapes Go.WideShapes Go.ChangeAt Go.RowKit Go.Sort
set_option linter.unusedVariables false
set_option linter.unusedSimpArgs false

/-- What changes but a row's room. -/
abbrev XV (N : Nat) (v : Value) : Nat → Prop := fun g => g = N ∨ some g = v.ownBlock
abbrev FE (N : Nat) (v ne : Value) (env : List Bd) (w w' : World) : Prop := FX (XV N v) (N + 1) N 115 2 ne env.length (bds env) w w'
/-- What 'of' tells. -/
def OfR (N : Nat) (ol : List Str) (v ne : Value) (env : List Bd) (t : Ex) (W : World) (e : Ending) (w' : World) : Prop :=
  ∃ (t' : Ex) (v' : Value), e = .returned (.agg t'.d.arr) ∧ t'.lk (t.num env ol).1 ∧ t'.In w' ∧ t'.Bl (fun b => (b < N ∨ W.heap.size ≤ b) ∧ some b ≠ v'.ownBlock) ∧ NO w' N (t.num env ol).2 v' ∧ FE N v ne env W w' ∧ (∀ k, v'.ownBlock = some k → v.ownBlock = some k ∨ W.heap.size ≤ k)
/-- The children's part of the walk. -/
def KidsO (w0 : World) (N : Nat) (l : List Ex) : Prop :=
  ∀ x ∈ l, ∀ (env : List Bd) (ne : Value) (ol : List Str) (v : Value) (W : World) (b o : Nat), Below w0.heap.size w0 W → NO W N ol v → TB N W → W.ownsRow (N + 1) 115 2 ne env.length (bds env) → (∀ k, ne.ownBlock = some k → some k ≠ v.ownBlock) → (∀ p ∈ env, p.2.length ≤ 9223372036854775807) → x.d.At w0 b o → x.fineE = true → ol.length + x.bsN ≤ 4000000 → env.length + 2 * x.depth ≤ 4000000 →
    Calls Tryz.prog 48 #[.pointer (some ⟨N, 0, none⟩), .pointer (some ⟨b, o, none⟩), ne] W fun e w' => OfR N ol v ne env x W e w'
theorem bsN_take (l : List Ex) (k : Nat) (h : k < l.length) : bsNL (l.take k) + (l[k]).bsN ≤ bsNL l := by
  have ha : ∀ a b : List Ex, bsNL (a ++ b) = bsNL a + bsNL b := by
    intro a b
    induction a with
    | nil => simp [bsNL]
    | cons x a ih => simp only [List.cons_append, bsNL, ih]; omega
  have h1 := ha (l.take k) (l.drop k)
  rw [List.take_append_drop, List.drop_eq_getElem_cons h, bsNL] at h1
  omega
section
variable {N gt r : Nat} {w wx wy w1 w2 w3 : World} {v0 v v1 ne vi : Value} {env envi : List Bd} {dc d : ExD} {ts : List Ex} {ol : List Str}
theorem FX.refl {X : Nat → Prop} {B N : Nat} {e : TypeId} {size : Nat} {v : Value} {n : Nat} {xs : List Value} (h : w.ownsRow B e size v n xs) : FX X B N e size v n xs w w := ⟨Below.refl _ _, fun _ _ _ _ => rfl, h⟩
/-- The start: the struct has its own names' numbers. -/
theorem OS.start (hO : NO w N ol v) (hE : w.ownsRow (N + 1) 115 2 ne env.length (bds env)) (hEv : ∀ k, ne.ownBlock = some k → some k ≠ v.ownBlock) (hr : w.heap.size = r) (hb1 : Below w.heap.size w w1) (hs1 : w1.heap.size = r + 1) (hz : ∃ dr, Cl w1 r dr)
    (hnum : (Ex.mk dc []).In w2) (hbl : (Ex.mk dc []).Bl (fun b => (b < N ∨ w1.heap.size ≤ b) ∧ some b ≠ v1.ownBlock)) {ol1 : List Str} (hno : NO w2 N ol1 v1) (hwo : WO N w1 v w2 v1) (hp : dc.pA = none ∧ dc.pn = 0 ∧ dc.pc = 0) (hb3 : Below w2.heap.size w2 w3) (hgt : w2.heap.size = gt) (hcl : Cl w3 gt dc) :
    OS N w v ne env gt r dc [] ol1 v1 w3 := by
  have hlt := hO.lt
  have hsz2 : w1.heap.size ≤ w2.heap.size := hwo.b.size
  have hov : ∀ b, v.ownBlock = some b → b < w.heap.size := fun b hb => (hO.own.lt b hb).2
  have hev : ∀ b, ne.ownBlock = some b → N + 1 ≤ b ∧ b < w.heap.size := fun b hb => hE.lt b hb
  have hk2 : ∀ b, b < w.heap.size → b ≠ N → some b ≠ v.ownBlock → w3.heap[b]? = w.heap[b]? := fun b hb h1 h2 => (hb3.block b (by omega)).trans ((hwo.oth b (by omega) h1 h2).trans (hb1.block b hb))
  have hv1 : ∀ b, b < w1.heap.size → some b ≠ v.ownBlock → some b ≠ v1.ownBlock := fun b hb h e => by
    rcases hwo.new b e.symm with q | q
    · exact h q.symm
    · omega
  have hv1l : ∀ b, v1.ownBlock = some b → b < w2.heap.size := fun b hb => (hno.own.lt b hb).2
  have hnv : some r ≠ v.ownBlock := fun e => by have := hov r e.symm; omega
  have lv : dc.lV.ownBlock = none := by unfold ExD.lV; rw [hp.1]; rfl
  have nol : dc.noL = dc := by
    obtain ⟨a, b, c⟩ := hp
    cases dc
    simp only at a b c
    subst a b c
    rfl
  refine ⟨hcl, ?_, hno.below hb3, ?_, fun g hg h1 h2 _ => hk2 g hg h1 h2, fun k hk => ?_, ?_, fun k hk => ⟨(hev k hk).2, hv1 k (by have := (hev k hk).2; omega) (hEv k hk)⟩, ⟨hlt, by omega, by omega, by omega, fun e => by have := hv1l gt e.symm; omega, hv1 r (by omega) hnv⟩, ?_, ?_, ?_, ?_, ?_⟩
  · obtain ⟨dr, hd⟩ := hz
    exact ⟨dr, hd.kept ((hb3.block r (by omega)).trans (hwo.oth r (by omega) (by omega) hnv))⟩
  · exact ((hb1.mono (Nat.le_of_lt hlt)).trans hwo.b).trans (hb3.mono (by omega))
  · rcases hwo.new k hk with q | q
    · exact .inl q
    · exact .inr (by omega)
  · exact ownsRow_kept hE fun g hg => hk2 g (hev g hg).2 (by have := hev g hg; omega) (hEv g hg)
  · rw [nol]; exact hnum.lower hb3
  · rw [nol]
    refine hbl.imp hnum (fun b hp hb => ⟨?_, by omega, ?_, hp.2, by rw [lv]; intro e; cases e⟩)
    · rcases hp.1 with q | q
      · exact .inl q
      · exact .inr (by omega)
    · rcases hp.1 with q | q <;> omega
  · have : dc.lV = .slice none 0 0 := by unfold ExD.lV; rw [hp.1, hp.2.1, hp.2.2]
    rw [this, hp.2.1]
    exact World.ownsRow_nil _ _ _ _
  · intro k hk; rw [lv] at hk; cases hk
  · intro x hx; cases hx
/-- The whole tree as it stands. -/
theorem OS.inn (h : OS N w v0 ne env gt r dc ts ol v wx) : (Ex.mk dc ts).In wx := by
  obtain ⟨A, c, hv, hnc, hcm, _⟩ := own_cap h.own
  have hv' : dc.pc = c := by unfold ExD.lV at hv; injection hv
  have hx := h.x0
  have hcap := hx.cap
  have h1 : (dc.noL.ln ≤ dc.noL.lc ∧ dc.noL.lc ≤ maxLen ∧ dc.noL.ln ≤ 9223372036854775807) := hcap.1
  refine .mk dc ts hx.lab hx.nam (Rd.of_own h.own) ⟨hcap.1, hcap.2.1, ⟨by omega, by omega, ?_⟩, hcap.2.2.2⟩ (fun x hx => (h.kids x hx).1)
  simp only [maxLen] at hcm; omega
theorem OS.blt (h : OS N w v0 ne env gt r dc ts ol v wx) : (Ex.mk dc ts).Bl (fun b => (b < N ∨ w.heap.size ≤ b) ∧ b ≠ r ∧ some b ≠ v.ownBlock) := by
  have h0 := h.x0B
  cases h0 with
  | mk _ _ p1 p2 p3 ps =>
    refine .mk dc ts (fun q a ha => ?_) (fun q a ha => ?_) (fun q a ha => ?_) (fun x hx => (h.kids x hx).2.imp (h.kids x hx).1 (fun b hp _ => ⟨hp.1, hp.2.2.1, hp.2.2.2.1⟩))
    · have := p1 q a ha; exact ⟨this.1, this.2.2.1, this.2.2.2.1⟩
    · have := p2 q a ha; exact ⟨this.1, this.2.2.1, this.2.2.2.1⟩
    · have := h.ownB a.block (by unfold ExD.lV; rw [ha]; rfl); exact ⟨.inr this.1, this.2.2.1, this.2.2.2⟩
/-- A store into the struct's name. -/
theorem OS.setS (h : OS N w v0 ne env gt r dc ts ol v wx) (x : Str) (hx : x.length ≤ 9223372036854775807) : OS N w v0 ne env gt r { dc with s := x } ts ol v (wx.setCell ⟨gt, 3, none⟩ (.string (bstr x))) := by
  obtain ⟨hN, hgt, hr, hne, hv1, hv2⟩ := h.gtN
  have hk : ∀ b, b ≠ gt → (wx.setCell ⟨gt, 3, none⟩ (.string (bstr x))).heap[b]? = wx.heap[b]? := fun b hb => heap_set_ne wx _ hb
  have hev : ∀ b, ne.ownBlock = some b → b < w.heap.size := fun b hb => (h.envB b hb).1
  refine ⟨h.cl.setS x, ?_, h.no.kept fun g hg => hk g ?_, h.b.setCell (show N ≤ gt by omega) _, fun g hg h1 h2 h3 => (hk g (by omega)).trans (h.oth g hg h1 h2 h3), h.new, ownsRow_kept h.env fun g hg => hk g (by have := hev g hg; omega), h.envB, h.gtN, ?_, ?_, ?_, h.ownB, fun y hy => ⟨(h.kids y hy).1.keepP (h.kids y hy).2 (fun b hp _ => hk b hp.2.1), (h.kids y hy).2⟩⟩
  · obtain ⟨dr, hd⟩ := h.rz
    exact ⟨dr, hd.kept (hk r (Ne.symm hne))⟩
  · rcases hg with rfl | hg
    · omega
    · intro e; exact hv1 (e ▸ hg.symm)
  · have h1 := h.x0.keepP h.x0B (fun b hp _ => hk b hp.2.1)
    have hc := h1.cap
    refine .mk _ [] h1.lab h1.nam h1.par ⟨hc.1, hc.2.1, hc.2.2.1, hx, hc.2.2.2.2⟩ (fun x hx => by cases hx)
  · have h0 := h.x0B
    cases h0 with
    | mk _ _ p1 p2 p3 ps => exact .mk _ [] p1 p2 p3 (fun x hx => by cases hx)
  · exact ownsRow_kept h.own fun g hg => hk g (h.ownB g hg).2.1
end
end Go.Proofs.YtaglmmcjhlehjaaGreatDoor

namespace Go.Proofs.YtaglmmcjhlehjaaGreatDoor
open Go.ChangeShapes Go.WideShapes Go.ChangeAt Go.RowKit Go.Sort
set_option linter.unusedVariables false
set_option linter.unusedSimpArgs false

/-- From the names ne in w to the names vi in wx: what a call leaves of vi, leaves ne whole. -/
structure UP (N : Nat) (w : World) (ne : Value) (env : List Bd) (wx : World) (vi : Value) (envi : List Bd) : Prop where
  own : wx.ownsRow (N + 1) 115 2 vi envi.length (bds envi)
  b : Below (N + 1) w wx
  sz : N + 1 ≤ w.heap.size
  oth : ∀ g, g < w.heap.size → some g ≠ ne.ownBlock → wx.heap[g]? = w.heap[g]?
  nev : ∀ k, vi.ownBlock = some k → ne.ownBlock = some k ∨ w.heap.size ≤ k
  up : ∀ (X : Nat → Prop) (w4 : World), (∀ g, ne.ownBlock = some g → ¬ X g) → (∀ g, X g → g < w.heap.size) → FX X (N + 1) N 115 2 vi envi.length (bds envi) wx w4 → FX X (N + 1) N 115 2 ne env.length (bds env) w w4
section
variable {N : Nat} {w wx wy w7 : World} {ne vi v7 : Value} {env envi : List Bd}
theorem UP.refl (h : w.ownsRow (N + 1) 115 2 ne env.length (bds env)) (hN : N + 1 ≤ w.heap.size) : UP N w ne env w ne env :=
  ⟨h, Below.refl _ _, hN, fun _ _ _ => rfl, fun k hk => .inl hk, fun _ _ _ _ k => k⟩
theorem UP.below (h : UP N w ne env wx vi envi) (hb : Below wx.heap.size wx wy) : UP N w ne env wy vi envi := by
  have hs := h.sz
  have hb2 : w.heap.size ≤ wx.heap.size := h.b.size
  exact ⟨own_below h.own hb, h.b.trans (hb.mono (by omega)), hs, fun g hg hv => (hb.block g (by omega)).trans (h.oth g hg hv), h.nev, fun X w4 h1 h2 k => h.up X w4 h1 h2 (FX.pre h.own (by omega) hb k)⟩
theorem UP.app (h : UP N w ne env wx vi envi) {p : Bd} (ho : w7.ownsRow (N + 1) 115 2 v7 (envi.length + 1) (bds envi ++ bd2 p)) (hg : wx.grownBy w7 vi.ownBlock) (ha : AppR wx w7 vi v7 envi.length 1) : UP N w ne env w7 v7 (envi ++ [p]) := by
  have hs := h.sz
  have hb2 : w.heap.size ≤ wx.heap.size := h.b.size
  have e1 : (envi ++ [p]).length = envi.length + 1 := by rw [List.length_append]; rfl
  have hown : ∀ k, v7.ownBlock = some k → vi.ownBlock = some k ∨ wx.heap.size ≤ k := fun k hk => by
    rcases ha with ⟨rfl, _, _⟩ | ⟨q, _⟩ | ⟨g', cap, rfl, rfl⟩
    · exact .inl hk
    · rw [q] at hk; injection hk with hk; exact .inr (by omega)
    · exact .inl hk
  refine ⟨by rw [e1, bds_snoc]; exact ho, h.b.trans ((Below.refl (N + 1) wx).grown hg (by omega) (fun k hk => (h.own.lt k hk).1)), hs, fun g hg1 hv => ?_, fun k hk => ?_, fun X w4 h1 h2 k => ?_⟩
  · refine (hg.block g (by omega) (fun e => ?_)).trans (h.oth g hg1 hv)
    rcases h.nev g e.symm with q | q
    · exact hv q.symm
    · omega
  · rcases hown k hk with q | q
    · exact h.nev k q
    · exact .inr (by omega)
  · rw [e1, bds_snoc] at k
    refine h.up X w4 h1 h2 (FX.app (m := 1) (news := bd2 p) h.own (by omega) (by omega) (fun g hgv hx => ?_) hg ha rfl k)
    rcases h.nev g hgv with q | q
    · exact h1 g q hx
    · have := h2 g hx; omega
end
end Go.Proofs.YtaglmmcjhlehjaaGreatDoor

namespace Go.Proofs.YtaglmmcjhlehjaaGreatDoor
open Go.ChangeShapes Go.WideShapes Go.ChangeAt Go.RowKit Go.Sort
set_option linter.unusedVariables false
set_option linter.unusedSimpArgs false

section
variable {N gt r : Nat} {w w6 wr W0 w4 : World} {v0 v v4 ne vi : Value} {env envi : List Bd} {dc : ExD} {ts : List Ex} {ol ol4 : List Str}
theorem OS.xlt (h : OS N w v0 ne env gt r dc ts ol v w6) : ∀ g, XV N v g → g < w6.heap.size := fun g hg => by
  have := h.gtN; have := h.b.size
  rcases hg with q | q
  · omega
  · exact (h.no.own.lt g q.symm).2
theorem OS.xne (h : OS N w v0 ne env gt r dc ts ol v w6) : ∀ g, ne.ownBlock = some g → ¬ XV N v g := fun g hg hx => by
  have h1 := (h.env.lt g hg).1
  rcases hx with q | q
  · omega
  · exact (h.envB g hg).2 q
/-- The names have been put behind. -/
theorem OS.upd (h : OS N w v0 ne env gt r dc ts ol v w6) (u : UP N w6 ne env wr vi envi) : OS N w v0 ne env gt r dc ts ol v wr := by
  refine h.call (h.no.kept fun g hg => u.oth g (h.xlt g ?_) ?_) (u.up _ _ h.xne h.xlt (FX.refl u.own)) (fun k hk => .inl hk)
  · rcases hg with q | q
    · exact .inl q
    · exact .inr q.symm
  · intro e
    rcases hg with q | q
    · exact h.xne g e.symm (.inl q)
    · exact h.xne g e.symm (.inr q.symm)
/-- The new names' row is not the old names'. -/
theorem OS.upn (h : OS N w v0 ne env gt r dc ts ol v w6) (u : UP N w6 ne env wr vi envi) : ∀ k, vi.ownBlock = some k → some k ≠ v.ownBlock := fun k hk e => by
  rcases u.nev k hk with q | q
  · exact (h.envB k q).2 e
  · have := (h.no.own.lt k e.symm).2; omega
/-- Behind a part's call. -/
theorem OS.kid (h : OS N w v0 ne env gt r dc ts ol v w6) (u : UP N w6 ne env wr vi envi) (hb : Below wr.heap.size wr W0) (hn : NO w4 N ol4 v4) (fx : FE N v vi envi W0 w4) (new : ∀ k, v4.ownBlock = some k → v.ownBlock = some k ∨ W0.heap.size ≤ k) {t' : Ex} (ht : t'.In w4) (hbl : t'.Bl (fun b => (b < N ∨ W0.heap.size ≤ b) ∧ some b ≠ v4.ownBlock)) :
    OS N w v0 ne env gt r dc ts ol4 v4 w4 ∧ t'.Bl (PL N w.heap.size gt r v4 dc.lV) := by
  have hs := u.sz
  have h6 : w6.heap.size ≤ wr.heap.size := u.b.size
  have h0 : wr.heap.size ≤ W0.heap.size := hb.size
  have hsz : w.heap.size ≤ w6.heap.size := h.b.size
  obtain ⟨hN, hgt, hr, hne, hv1, hv2⟩ := h.gtN
  have hgl := h.cl.lt
  have hrl : r < w6.heap.size := by obtain ⟨dr, hd⟩ := h.rz; exact hd.lt
  refine ⟨h.call hn (u.up _ _ h.xne h.xlt (FX.pre u.own (by omega) hb fx)) (fun k hk => ?_), hbl.imp ht (fun b hp _ => ⟨?_, ?_, ?_, hp.2, fun e => ?_⟩)⟩
  · rcases new k hk with q | q
    · exact .inl q
    · exact .inr (by omega)
  · rcases hp.1 with q | q
    · exact .inl q
    · exact .inr (by omega)
  · rcases hp.1 with q | q <;> omega
  · rcases hp.1 with q | q <;> omega
  · have h1 := (h.ownB b e.symm).1
    have h2 := (h.own.lt b e.symm).2
    rcases hp.1 with q | q <;> omega
end
theorem z8_one : ∀ u ∈ (#[.int .i64 0, .int .i64 0, .int .i64 0, .string ⟨#[]⟩, .string ⟨#[]⟩, .slice none 0 0, .slice none 0 0, .slice none 0 0] : Array Value).toList, u.oneCell' = true := by
  intro u hu; simp only [List.mem_cons, List.not_mem_nil, or_false] at hu; rcases hu with rfl | rfl | rfl | rfl | rfl | rfl | rfl | rfl <;> rfl
section
variable {N gt r : Nat} {w wx wa w7 w6 wr W0 w4 : World} {v0 v ne vi : Value} {env envi : List Bd} {dc : ExD} {ts : List Ex} {ol : List Str}
theorem OS.appM (h : OS N w v0 ne env gt r dc ts ol v wx) : N + 1 ≤ wx.heap.size := by
  have := h.gtN; have := h.b.size; omega
theorem OS.appN (h : OS N w v0 ne env gt r dc ts ol v wx) (o : Obj) : N + 1 ≤ (wx.alloc o).heap.size := by
  have := h.appM; rw [World.size_alloc]; omega
/-- What the stores ask for. -/
theorem OS.stores (h : OS N w v0 ne env gt r dc ts ol v wx) (hwa : Below wx.heap.size wx wa) {g7 c7 : Nat} (ho : w7.ownsRow (N + 1) 25 8 (.slice (some ⟨g7, 0, none⟩) (dc.pn + 1) c7) (dc.pn + 1) (ts.flatMap Ex.cells ++ (#[.int .i64 0, .int .i64 0, .int .i64 0, .string ⟨#[]⟩, .string ⟨#[]⟩, .slice none 0 0, .slice none 0 0, .slice none 0 0] : Array Value).toList)) (hg : wa.grownBy w7 dc.lV.ownBlock) :
    ((w7.cell? ⟨g7, dc.pn * 8, none⟩ = some (.int .i64 0)) ∧ (w7.cell? ⟨g7, dc.pn * 8 + 1, none⟩ = some (.int .i64 0)) ∧ (w7.cell? ⟨g7, dc.pn * 8 + 2, none⟩ = some (.int .i64 0)) ∧ (w7.cell? ⟨g7, dc.pn * 8 + 3, none⟩ = some (.string ⟨#[]⟩)) ∧ (w7.cell? ⟨g7, dc.pn * 8 + 4, none⟩ = some (.string ⟨#[]⟩)) ∧ (w7.cell? ⟨g7, dc.pn * 8 + 5, none⟩ = some (.slice none 0 0)) ∧ (w7.cell? ⟨g7, dc.pn * 8 + 6, none⟩ = some (.slice none 0 0)) ∧ (w7.cell? ⟨g7, dc.pn * 8 + 7, none⟩ = some (.slice none 0 0))) ∧
    ((w7.frozen? ⟨g7, dc.pn * 8, none⟩ = false) ∧ (w7.frozen? ⟨g7, dc.pn * 8 + 1, none⟩ = false) ∧ (w7.frozen? ⟨g7, dc.pn * 8 + 2, none⟩ = false) ∧ (w7.frozen? ⟨g7, dc.pn * 8 + 3, none⟩ = false) ∧ (w7.frozen? ⟨g7, dc.pn * 8 + 4, none⟩ = false) ∧ (w7.frozen? ⟨g7, dc.pn * 8 + 5, none⟩ = false) ∧ (w7.frozen? ⟨g7, dc.pn * 8 + 6, none⟩ = false) ∧ (w7.frozen? ⟨g7, dc.pn * 8 + 7, none⟩ = false)) ∧
    w7.cell? ⟨gt, 7, none⟩ = some (.slice dc.pA dc.pn dc.pc) ∧ w7.frozen? ⟨gt, 7, none⟩ = false := by
  have hl : (ts.flatMap Ex.cells).length = dc.pn * 8 := h.own.1
  have hc : ∀ (j : Nat) (u : Value), (#[.int .i64 0, .int .i64 0, .int .i64 0, .string ⟨#[]⟩, .string ⟨#[]⟩, .slice none 0 0, .slice none 0 0, .slice none 0 0] : Array Value).toList[j]? = some u → w7.cell? ⟨g7, dc.pn * 8 + j, none⟩ = some u := fun j u hu => own_cell ho (by rw [List.getElem?_append_right (by omega), hl, Nat.add_sub_cancel_left]; exact hu)
  have hgt : w7.heap[gt]? = wx.heap[gt]? := (hg.block gt (by have := hwa.size; have := h.cl.lt; omega) (fun e => (h.ownB gt e.symm).2.1 rfl)).trans (hwa.block gt h.cl.lt)
  exact ⟨⟨hc 0 _ rfl, hc 1 _ rfl, hc 2 _ rfl, hc 3 _ rfl, hc 4 _ rfl, hc 5 _ rfl, hc 6 _ rfl, hc 7 _ rfl⟩, ⟨own_frozen ho, own_frozen ho, own_frozen ho, own_frozen ho, own_frozen ho, own_frozen ho, own_frozen ho, own_frozen ho⟩,
    (World.cell?_of_block (a := ⟨gt, 7, none⟩) hgt).trans h.cl.load.2.2.2.2.2.2.2, (World.frozen?_of_block (a := ⟨gt, 7, none⟩) hgt).trans (h.cl.fz 7)⟩
/-- A literal that was laid ahead of the call. -/
theorem UP.lit (u : UP N w6 ne env wr vi envi) (h : OS N w v0 ne env gt r dc ts ol v w6) {size n q : Nat} {cs : List Value} (hr : Rd W0 size (some ⟨q, 0, none⟩) n cs) (hq : q < W0.heap.size) (hq2 : wr.heap.size ≤ q) (fx : FE N v vi envi W0 w4) : Rd w4 size (some ⟨q, 0, none⟩) n cs := by
  have hk : w4.heap[q]? = W0.heap[q]? := fx.oth q hq (fun hx => by have := h.xlt q hx; have := u.b.size; omega) (fun e => by have := (u.own.lt q e.symm).2; omega)
  refine ⟨hr.1, fun h0 => ?_⟩
  obtain ⟨a, e, hh⟩ := hr.2 h0
  cases e
  refine ⟨_, rfl, fun j x hx => ?_⟩
  rw [← hh j x hx]
  exact World.cell?_of_block (by rw [add_block]; exact hk)
end
theorem boundC_str {d : ExD} {l : List Ex} {w : World} (h : (Ex.mk d l).In w) (i : Nat) : ∀ y ∈ d.boundC i, y.length ≤ 9223372036854775807 := by
  have hc := h.cap
  have h1 : d.s.length ≤ 9223372036854775807 := hc.2.2.2.1
  have h2 : d.t.length ≤ 9223372036854775807 := hc.2.2.2.2.1
  have h3 : ∀ s ∈ d.names, s.length ≤ 9223372036854775807 := hc.2.2.2.2.2.2
  intro y hy
  unfold ExD.boundC at hy
  split at hy
  · obtain rfl := List.mem_singleton.1 hy; exact h1
  split at hy
  · simp only [List.mem_cons, List.not_mem_nil, or_false] at hy
    rcases hy with rfl | rfl
    · exact h1
    · exact h2
  split at hy
  · obtain rfl := List.mem_singleton.1 hy; exact h2
  split at hy
  · exact h3 y (List.mem_of_mem_drop (List.mem_of_mem_take hy))
  · cases hy
theorem setCell_comm (w : World) (a b : Addr) (u v : Value) (h : a.block ≠ b.block) : (w.setCell a u).setCell b v = (w.setCell b v).setCell a u := by
  unfold World.setCell
  simp only
  congr 1
  apply Array.ext_getElem?
  intro i
  simp only [Array.getElem?_modify]
  by_cases h1 : b.block = i
  · by_cases h2 : a.block = i
    · omega
    · simp [h1, h2]
  · by_cases h2 : a.block = i
    · simp [h1, h2]
    · simp [h1, h2]
theorem put8_comm (w : World) {g i gt j : Nat} (d : ExD) (u : Value) (h : gt ≠ g) : put8 (w.setCell ⟨gt, j, none⟩ u) g i d = (put8 w g i d).setCell ⟨gt, j, none⟩ u := by
  unfold put8
  simp only [setCell_comm _ ⟨gt, j, none⟩ ⟨g, _, none⟩ u _ h]
end Go.Proofs.YtaglmmcjhlehjaaGreatDoor

namespace Go.Proofs.YtaglmmcjhlehjaaGreatDoor
open Go.ChangeShapes Go.WideShapes Go.ChangeAt Go.RowKit Go.Sort
set_option linter.unusedVariables false
set_option linter.unusedSimpArgs false

/-- What the struct tells behind its own names' numbers. -/
def VD (d : ExD) (k : Nat) (env : List Bd) (dV : ExD) : Prop := dV.lk (d.numV k env) ∧ ∀ i, dV.boundC i = (d.numD k).boundC i
theorem boundC_3 {d : ExD} (h : d.kind = 3) {i : Nat} : d.boundC i = [] := by unfold ExD.boundC; simp [h]
theorem vd_other {d dB : ExD} {k : Nat} (h : NumD d k dB) (hn : dB.noL.names.length = dB.noL.nn) (h3 : ¬ d.kind = 3) {env : List Bd} : VD d k env dB := by
  refine ⟨by unfold ExD.numV; rw [if_neg h3]; exact h.lk, fun i => ?_⟩
  have hn' : dB.nn = (d.numD k).nn := by
    have h1 : dB.names.length = dB.nn := hn
    have h2 := h.names
    rw [← h1, h2]
    show _ = (if d.kind = 14 then d.names.length else 0)
    split
    · exact vNames_len _ _
    · rfl
  unfold ExD.boundC
  rw [h.kind, h.s, h.t, h.names, hn']
  rfl
theorem vd_var {d dB : ExD} {k : Nat} (h : NumD d k dB) (h3 : d.kind = 3) {env : List Bd} : VD d k env { dB with s := nowF d.s env } := by
  refine ⟨?_, fun i => ?_⟩
  · unfold ExD.numV; rw [if_pos h3]
    exact ⟨h.kind, h.at_, h.n, rfl, h.t, h.labels, h.names⟩
  · rw [boundC_3 (d := { dB with s := nowF d.s env }) (h.kind.trans h3), boundC_3 (d := d.numD k) h3]
theorem nowF_len (s : Str) (env : List Bd) (hs : s.length ≤ 9223372036854775807) (he : ∀ p ∈ env, p.2.length ≤ 9223372036854775807) : (nowF s env).length ≤ 9223372036854775807 := by
  unfold nowF lookF
  cases h : env.reverse.find? fun p => decide (p.1 = s) with
  | none => exact hs
  | some p => exact he p (List.mem_reverse.1 (List.mem_of_find?_eq_some h))
theorem OS.below {N gt r : Nat} {w wx wy : World} {v0 v ne : Value} {env : List Bd} {dc : ExD} {ts : List Ex} {ol : List Str} (h : OS N w v0 ne env gt r dc ts ol v wx) (hb : Below wx.heap.size wx wy) : OS N w v0 ne env gt r dc ts ol v wy :=
  h.call (h.no.below hb) ⟨hb.mono (by have := h.gtN; have := h.b.size; omega), fun g hg _ _ => hb.block g hg, own_below h.env hb⟩ (fun k hk => .inl hk)
theorem fine_ln {d : ExD} {l : List Ex} (h : (Ex.mk d l).fineE = true) {w : World} (hI : (Ex.mk d l).In w) : d.ln ≤ 4000000 := by
  have hf := fields_of (fine_own h)
  have hl := hf.lists
  have hn : d.labels.length = d.ln := hI.labLen
  unfold ExD.listsB at hl
  split at hl
  · unfold labB at hl
    simp only [Bool.and_eq_true, decide_eq_true_eq] at hl
    omega
  split at hl
  · unfold labB at hl
    simp only [Bool.and_eq_true, decide_eq_true_eq] at hl
    omega
  · simp only [Bool.and_eq_true, decide_eq_true_eq] at hl
    omega

theorem elEx : ElemTy Tryz.prog 23 25 (.agg #[.int .i64 0, .int .i64 0, .int .i64 0, .string ⟨#[]⟩, .string ⟨#[]⟩, .slice none 0 0, .slice none 0 0, .slice none 0 0]) 8 128 := ⟨Tryz.underlying23, by kernel_rfl, rfl, by decide, by decide⟩
theorem fine_pn {d : ExD} {l : List Ex} (h : (Ex.mk d l).fineE = true) {w : World} (hI : (Ex.mk d l).In w) : d.pn ≤ 4000003 := by
  have hf := (fields_of (fine_own h)).pn
  have hl := fine_ln h hI
  unfold partsF at hf
  have hw : ∀ z : Int, 0 ≤ z → z ≤ 5000000 → wrap64 z = z := fun z h1 h2 => by unfold wrap64; omega
  repeat' split at hf
  all_goals (try rw [hw _ (by omega) (by omega)] at hf)
  all_goals omega
theorem numL_len1 (d d1 : ExD) : ∀ (l : List Ex) (i : Nat) (env : List Bd) (ol : List Str), (numL d d1 l i env ol).1.length = l.length
  | [], i, env, ol => rfl
  | x :: l, i, env, ol => by simp only [numL, List.length_cons]; rw [numL_len1 d d1 l]
theorem numL_pn {w : World} {base : Nat} {e : TypeId} {v : Value} {n k : Nat} {ts m : List Ex} {d d1 : ExD} {i : Nat} {env : List Bd} {ol : List Str} (h : w.ownsRow base e 8 v n (ts.flatMap Ex.cells)) (hl : lkL ts (numL d d1 m i env ol).1) (hm : m.length = k) : n = k := by
  have h1 := h.1
  rw [flat_len Ex.cells_len] at h1
  have h2 := lkL_len hl
  rw [numL_len1] at h2
  omega
theorem boundC_noL (d : ExD) (i : Nat) : d.noL.boundC i = d.boundC i := rfl
theorem boundC_numLen (d : ExD) (k i : Nat) (hn : d.names.length = d.nn) : ((d.numD k).boundC i).length = (d.boundC i).length := by
  have hk : (d.numD k).kind = d.kind := rfl
  unfold ExD.boundC
  rw [hk]
  by_cases h1 : d.kind = 4 ∨ ((d.kind = 6 ∨ d.kind = 7) ∧ i = 1)
  · rw [if_pos h1, if_pos h1]; rfl
  rw [if_neg h1, if_neg h1]
  by_cases h2 : d.kind = 7
  · rw [if_pos h2, if_pos h2]; rfl
  rw [if_neg h2, if_neg h2]
  by_cases h3 : d.kind = 14
  · have e1 : (d.numD k).nn = d.nn := by show (if d.kind = 14 then d.names.length else 0) = _; rw [if_pos h3, hn]
    have e2 : (d.numD k).names.length = d.names.length := by show (if d.kind = 14 then vNames d.names.length k else []).length = _; rw [if_pos h3, vNames_len]
    rw [e1]
    by_cases h4 : d.kind = 14 ∧ d.nn < i
    · rw [if_pos h4, if_pos h4]; rfl
    rw [if_neg h4, if_neg h4]
    by_cases h5 : d.kind = 14 ∧ 0 < i
    · rw [if_pos h5, if_pos h5, List.length_take, List.length_take, List.length_drop, List.length_drop, e2]
    · rw [if_neg h5, if_neg h5]
  · rw [if_neg (fun h => h3 h.1), if_neg (fun h => h3 h.1), if_neg (fun h => h3 h.1), if_neg (fun h => h3 h.1)]
theorem numL_step {d d1 : ExD} {l : List Ex} {k : Nat} {x : Ex} {bs1 bs2 : List Str} {env : List Bd} {ol : List Str} (htk : l.take (k + 1) = l.take k ++ [x]) (htl : (l.take k).length = k) (h1 : d.boundC k = bs1) (h2 : d1.boundC k = bs2) :
    numL d d1 (l.take (k + 1)) 0 env ol = ((numL d d1 (l.take k) 0 env ol).1 ++ [(x.num (env ++ bs1.zip bs2) (numL d d1 (l.take k) 0 env ol).2).1], (x.num (env ++ bs1.zip bs2) (numL d d1 (l.take k) 0 env ol).2).2) := by
  subst h1 h2
  rw [htk, numL_snoc, htl, Nat.zero_add]
/-- What the stores ask for, in either order. -/
theorem OS.stores2 {N gt r : Nat} {w wx wa w7 : World} {v0 v ne : Value} {env : List Bd} {dc : ExD} {ts : List Ex} {ol : List Str} (h : OS N w v0 ne env gt r dc ts ol v wx) (hwa : Below wx.heap.size wx wa) {g7 c7 : Nat} (ho : w7.ownsRow (N + 1) 25 8 (.slice (some ⟨g7, 0, none⟩) (dc.pn + 1) c7) (dc.pn + 1) (ts.flatMap Ex.cells ++ (#[.int .i64 0, .int .i64 0, .int .i64 0, .string ⟨#[]⟩, .string ⟨#[]⟩, .slice none 0 0, .slice none 0 0, .slice none 0 0] : Array Value).toList)) (hg : wa.grownBy w7 dc.lV.ownBlock)
    (hat : (Value.slice (some ⟨g7, 0, none⟩) (dc.pn + 1) c7).ownBlock = dc.lV.ownBlock ∨ (Value.slice (some ⟨g7, 0, none⟩) (dc.pn + 1) c7).ownBlock = some wa.heap.size) (d : ExD) (u : Value) :
    (((((((((w7.setCell ⟨g7, dc.pn * 8, none⟩ (.int .i64 d.kind)).setCell ⟨g7, dc.pn * 8 + 1, none⟩ (.int .i64 d.at_)).setCell ⟨g7, dc.pn * 8 + 2, none⟩ (.int .i64 d.n)).setCell ⟨g7, dc.pn * 8 + 3, none⟩ (.string (bstr d.s))).setCell ⟨g7, dc.pn * 8 + 4, none⟩ (.string (bstr d.t))).setCell ⟨g7, dc.pn * 8 + 5, none⟩ (.slice d.lA d.ln d.lc)).setCell ⟨g7, dc.pn * 8 + 6, none⟩ (.slice d.nA d.nn d.nc)).setCell ⟨g7, dc.pn * 8 + 7, none⟩ (.slice d.pA d.pn d.pc)).cell? ⟨gt, 7, none⟩ = some (.slice dc.pA dc.pn dc.pc)) ∧
    (((w7.setCell ⟨gt, 7, none⟩ u).cell? ⟨g7, dc.pn * 8, none⟩ = some (.int .i64 0)) ∧ ((w7.setCell ⟨gt, 7, none⟩ u).cell? ⟨g7, dc.pn * 8 + 1, none⟩ = some (.int .i64 0)) ∧ ((w7.setCell ⟨gt, 7, none⟩ u).cell? ⟨g7, dc.pn * 8 + 2, none⟩ = some (.int .i64 0)) ∧ ((w7.setCell ⟨gt, 7, none⟩ u).cell? ⟨g7, dc.pn * 8 + 3, none⟩ = some (.string ⟨#[]⟩)) ∧ ((w7.setCell ⟨gt, 7, none⟩ u).cell? ⟨g7, dc.pn * 8 + 4, none⟩ = some (.string ⟨#[]⟩)) ∧ ((w7.setCell ⟨gt, 7, none⟩ u).cell? ⟨g7, dc.pn * 8 + 5, none⟩ = some (.slice none 0 0)) ∧ ((w7.setCell ⟨gt, 7, none⟩ u).cell? ⟨g7, dc.pn * 8 + 6, none⟩ = some (.slice none 0 0)) ∧ ((w7.setCell ⟨gt, 7, none⟩ u).cell? ⟨g7, dc.pn * 8 + 7, none⟩ = some (.slice none 0 0))) ∧ gt ≠ g7 := by
  obtain ⟨⟨y0, y1, y2, y3, y4, y5, y6, y7⟩, _, gt7, _⟩ := h.stores hwa ho hg
  have hne : gt ≠ g7 := by
    rcases hat with q | q
    · exact fun e => (h.ownB g7 q.symm).2.1 e.symm
    · injection q with q; have q' : g7 = wa.heap.size := q
      have := h.cl.lt; have := hwa.size; omega
  have hk : ∀ (j : Nat) (y : Value), w7.cell? ⟨g7, j, none⟩ = some y → (w7.setCell ⟨gt, 7, none⟩ u).cell? ⟨g7, j, none⟩ = some y := fun j y hy => (World.cell?_of_block (a := ⟨g7, j, none⟩) (heap_set_ne w7 u (Ne.symm hne))).trans hy
  exact ⟨(World.cell?_of_block (a := ⟨gt, 7, none⟩) (put8_ne w7 (i := dc.pn * 8) d hne)).trans gt7, ⟨hk _ _ y0, hk _ _ y1, hk _ _ y2, hk _ _ y3, hk _ _ y4, hk _ _ y5, hk _ _ y6, hk _ _ y7⟩, hne⟩
/-- The end: the struct is the result's. -/
theorem OS.done {N gt r : Nat} {w wx w' : World} {v v4 ne : Value} {env : List Bd} {dc : ExD} {ts : List Ex} {ol ol4 : List Str} (h : OS N w v ne env gt r dc ts ol4 v4 wx) (t : Ex) (hlk : (Ex.mk dc ts).lk (t.num env ol).1) (hol : ol4 = (t.num env ol).2) (hk : ∀ b, b ≠ r → w'.heap[b]? = wx.heap[b]?) (hb : ∀ B, B ≤ r → Below B wx w') : OfR N ol v ne env t w (.returned (.agg dc.arr)) w' := by
  obtain ⟨hN, hgt, hr, hne, hv1, hv2⟩ := h.gtN
  subst hol
  refine ⟨.mk dc ts, v4, rfl, hlk, h.inn.keepP h.blt (fun b hp _ => hk b hp.2.1), h.blt.imp h.inn (fun b hp _ => ⟨hp.1, hp.2.2⟩), h.no.kept fun g hg => hk g ?_, ⟨h.b.trans (hb N (by omega)), fun g hg hx hv => (hk g (by omega)).trans (h.oth g hg (fun e => hx (.inl e)) (fun e => hx (.inr e)) hv), ownsRow_kept h.env fun g hg => hk g (by have := (h.envB g hg).1; omega)⟩, h.new⟩
  rcases hg with rfl | hg
  · omega
  · intro e; exact hv2 (e ▸ hg.symm)
theorem OS.lk {N gt r : Nat} {w wx : World} {v v0 ne : Value} {env : List Bd} {d dc dV : ExD} {ts l : List Ex} {ol ol4 : List Str} (h : OS N w v0 ne env gt r dc ts ol4 v wx) (hV : dV.lk (d.numV ol.length env)) (hn : dc.noL = dV.noL) (hl : lkL ts (numL d (d.numD ol.length) l 0 env (ol ++ d.bs)).1) : (Ex.mk dc ts).lk ((Ex.mk d l).num env ol).1 := by
  simp only [Ex.num, Ex.lk]
  refine ⟨?_, hl⟩
  have h1 : dV.noL.lk (d.numV ol.length env) := hV
  rw [← hn] at h1
  exact h1
end Go.Proofs.YtaglmmcjhlehjaaGreatDoor

namespace Go.Proofs.YtaglmmcjhlehjaaGreatDoor
open Go.ChangeShapes Go.WideShapes Go.ChangeAt Go.RowKit Go.Sort
set_option linter.unusedVariables false
set_option linter.unusedSimpArgs false

/-- What becomes of the first free variable. -/
def ffU (o : Option Int) (s : Int × Bool) : Int × Bool := if s.2 = true then s else match o with
  | some a => (a, true)
  | none => s
theorem ffU_none (s : Int × Bool) : ffU none s = s := by unfold ffU; split <;> rfl
theorem ffU_step (d : ExD) (x : Ex) (l : List Ex) (k : Nat) (ns : List Str) (s : Int × Bool) (hk : l.length = k) : ffU (x.firstF (ns ++ d.boundC k)) (ffU (firstFL d l 0 ns) s) = ffU (firstFL d (l ++ [x]) 0 ns) s := by
  subst hk
  cases h : firstFL d l 0 ns with
  | some a =>
    rw [firstFL_some d ns a l [x] 0 h]
    unfold ffU
    cases hs : s.2 <;> simp [hs]
  | none => rw [firstFL_snoc d x ns l 0 h, ffU_none, Nat.zero_add]
theorem lookF_none {s : Str} {l : List Bd} : lookF s l = none ↔ s ∉ l.map (·.1) := by
  unfold lookF
  rw [Option.map_eq_none_iff, List.find?_eq_none]
  constructor
  · intro h hm
    obtain ⟨p, hp, rfl⟩ := List.mem_map.1 hm
    have := h p (List.mem_reverse.2 hp)
    simp at this
  · intro h p hp e
    exact h (List.mem_map.2 ⟨p, List.mem_reverse.1 hp, by simpa using e⟩)

/-! ### The bindings of an expression's own names -/
theorem vNames_get : ∀ (n k j : Nat), j < n → (vNames n k)[j]? = some (vName (k + j))
  | n + 1, k, 0, _ => rfl
  | n + 1, k, j + 1, h => by
    rw [vNames, List.getElem?_cons_succ, vNames_get n (k + 1) j (by omega)]
    congr 2; omega
def ExD.ob (d : ExD) (k : Nat) : List Bd := d.bs.zip (vNames d.bs.length k)
theorem ob_len (d : ExD) (k : Nat) : (d.ob k).length = d.bs.length := by
  unfold ExD.ob; rw [List.length_zip, vNames_len, Nat.min_self]
theorem ob_get {d : ExD} {k j : Nat} (h : j < d.bs.length) : (d.ob k)[j]? = some (d.bs[j], vName (k + j)) := by
  unfold ExD.ob
  rw [List.getElem?_zip_eq_some]
  exact ⟨List.getElem?_eq_getElem h, vNames_get _ _ _ h⟩
/-- What is bound in a part. -/
def ExD.iz (d : ExD) (k i : Nat) : List Bd := (d.boundC i).zip ((d.numD k).boundC i)
theorem iz_4 {d : ExD} {k i : Nat} (h : d.kind = 4) : d.iz k i = [(d.s, vName k)] := by
  have h1 : d.boundC i = [d.s] := by unfold ExD.boundC; rw [if_pos (.inl h)]
  have h2 : (d.numD k).boundC i = [vName k] := by
    unfold ExD.boundC; rw [if_pos (.inl h)]
    show [if d.kind = 4 ∨ d.kind = 6 ∨ d.kind = 7 then vName k else d.s] = _
    rw [if_pos (.inl h)]
  unfold ExD.iz; rw [h1, h2]; rfl
theorem iz_67 {d : ExD} {k : Nat} (h : d.kind = 6 ∨ d.kind = 7) : d.iz k 1 = [(d.s, vName k)] := by
  have h1 : d.boundC 1 = [d.s] := by unfold ExD.boundC; rw [if_pos (.inr ⟨h, rfl⟩)]
  have h2 : (d.numD k).boundC 1 = [vName k] := by
    unfold ExD.boundC; rw [if_pos (.inr ⟨h, rfl⟩)]
    show [if d.kind = 4 ∨ d.kind = 6 ∨ d.kind = 7 then vName k else d.s] = _
    rw [if_pos (.inr h)]
  unfold ExD.iz; rw [h1, h2]; rfl
theorem iz_6 {d : ExD} {k i : Nat} (h : d.kind = 6) (hi : i ≠ 1) : d.iz k i = [] := by
  have h1 : d.boundC i = [] := by
    unfold ExD.boundC
    rw [if_neg (by omega), if_neg (by omega), if_neg (by omega), if_neg (by omega)]
  unfold ExD.iz; rw [h1]; rfl
theorem iz_7 {d : ExD} {k : Nat} (h : d.kind = 7) : d.iz k 0 = [(d.s, vName k), (d.t, vName (k + 1))] := by
  have h1 : d.boundC 0 = [d.s, d.t] := by unfold ExD.boundC; rw [if_neg (by omega), if_pos h]
  have h2 : (d.numD k).boundC 0 = [vName k, vName (k + 1)] := by
    unfold ExD.boundC
    have hk : (d.numD k).kind = 7 := h
    rw [if_neg (by omega), if_pos hk]
    show [if d.kind = 4 ∨ d.kind = 6 ∨ d.kind = 7 then vName k else d.s, if d.kind = 7 then vName (k + 1) else _] = _
    rw [if_pos (.inr (.inr h)), if_pos h]
  unfold ExD.iz; rw [h1, h2]; rfl
theorem iz_0 {d : ExD} {k i : Nat} (h : d.kind ≠ 4 ∧ d.kind ≠ 6 ∧ d.kind ≠ 7 ∧ (d.kind ≠ 14 ∨ i = 0)) : d.iz k i = [] := by
  have h1 : d.boundC i = [] := by
    unfold ExD.boundC
    rw [if_neg (by omega), if_neg (by omega), if_neg (by omega), if_neg (by omega)]
  unfold ExD.iz; rw [h1]; rfl
theorem drop_one {l : List Str} {j : Nat} (h : j < l.length) : (l.drop j).take 1 = [l[j]] := by
  rw [List.drop_eq_getElem_cons h]; rfl
theorem boundC_14 {d : ExD} {i : Nat} (h : d.kind = 14) (hi : 0 < i) : d.boundC i = if d.nn < i then [d.t] else (d.names.drop (i - 1)).take 1 := by
  unfold ExD.boundC
  rw [if_neg (by omega), if_neg (by omega)]
  by_cases hlt : d.nn < i
  · rw [if_pos ⟨h, hlt⟩, if_pos hlt]
  · rw [if_neg (fun q => hlt q.2), if_pos ⟨h, hi⟩, if_neg hlt]
theorem iz_14 {d : ExD} {k i : Nat} (h : d.kind = 14) (hn : d.names.length = d.nn) (hi : 0 < i) (hi2 : i ≤ d.bs.length) : ∃ p, (d.ob k)[i - 1]? = some p ∧ d.iz k i = [p] := by
  have hk : (d.numD k).kind = 14 := h
  have hbs : d.bs = d.names ++ (if d.t = [] then [] else [d.t]) := by unfold ExD.bs; rw [if_neg (by omega), if_neg (by omega), if_pos h]
  have e1 : (d.numD k).nn = d.nn := by show (if d.kind = 14 then d.names.length else 0) = _; rw [if_pos h, hn]
  have hl : i - 1 < d.bs.length := by omega
  refine ⟨_, ob_get hl, ?_⟩
  unfold ExD.iz
  rw [boundC_14 h hi, boundC_14 hk hi, e1]
  by_cases hlt : d.nn < i
  · have ht : d.t ≠ [] := by
      intro e
      rw [hbs, if_pos e, List.append_nil] at hi2
      omega
    rw [if_neg ht] at hbs
    have hl2 : d.bs.length = d.nn + 1 := by rw [hbs, List.length_append, hn]; rfl
    have hii : i = d.nn + 1 := by omega
    rw [if_pos hlt, if_pos hlt]
    have hg : d.bs[i - 1] = d.t := by
      simp only [hbs]
      rw [List.getElem_append_right (by omega)]
      simp
    rw [hg]
    show [(d.t, if d.kind = 7 then vName (k + 1) else if d.kind = 14 ∧ d.t ≠ [] then vName (k + d.names.length) else d.t)] = _
    rw [if_neg (by omega), if_pos ⟨h, ht⟩, hn, show i - 1 = d.nn from by omega]
  · rw [if_neg hlt, if_neg hlt]
    have hj : i - 1 < d.names.length := by omega
    have e2 : (d.numD k).names = vNames d.names.length k := by show (if d.kind = 14 then vNames d.names.length k else []) = _; rw [if_pos h]
    have hj2 : i - 1 < (vNames d.names.length k).length := by rw [vNames_len]; exact hj
    rw [e2, drop_one hj, drop_one hj2]
    have hg : d.bs[i - 1] = d.names[i - 1] := by
      simp only [hbs]
      rw [List.getElem_append_left hj]
    have hv : (vNames d.names.length k)[i - 1] = vName (k + (i - 1)) := by
      have := vNames_get d.names.length k (i - 1) hj
      rw [List.getElem?_eq_getElem hj2] at this
      injection this
    rw [hg, hv]; rfl
theorem iz_fst {d : ExD} {k i : Nat} (hn : d.names.length = d.nn) (env : List Bd) : (env ++ d.iz k i).map (·.1) = env.map (·.1) ++ d.boundC i := by
  unfold ExD.iz
  rw [List.map_append, List.map_fst_zip (by rw [boundC_numLen d k i hn]; exact Nat.le_refl _)]
theorem iz_len (d : ExD) (k i : Nat) : (d.iz k i).length ≤ 2 := by
  unfold ExD.iz
  rw [List.length_zip]
  have := d.boundC_le i
  omega
/-- How many parts, of what is fine. -/
theorem fine_parts {d : ExD} {l : List Ex} (h : (Ex.mk d l).fineE = true) {w : World} (hI : (Ex.mk d l).In w) : (d.kind = 3 → l = []) ∧ (d.kind = 4 → d.pn = 1) ∧ (d.kind = 6 ∨ d.kind = 7 → d.pn = 2) ∧ (d.kind = 14 → d.pn = d.bs.length + 1 ∧ d.nn = d.ln) := by
  have hF := fields_of (fine_own h)
  have hp := hF.pn
  have hll : d.labels.length = d.ln := hI.labLen
  have hnl : d.names.length = d.nn := hI.namLen
  have hlen : l.length = d.pn := hI.len
  have hln := fine_ln h hI
  refine ⟨fun k => ?_, fun k => ?_, fun k => ?_, fun k => ?_⟩
  · unfold partsF at hp; rw [if_pos (by omega)] at hp; exact List.eq_nil_of_length_eq_zero (by omega)
  · unfold partsF at hp; rw [if_neg (by omega), if_pos (by omega)] at hp; omega
  · unfold partsF at hp; rw [if_neg (by omega), if_neg (by omega), if_pos (by omega)] at hp; omega
  · have h3 := hF.lists
    unfold ExD.listsB at h3
    rw [if_neg (by omega), if_pos k] at h3
    simp only [Bool.and_eq_true, decide_eq_true_eq] at h3
    have hnn : d.nn = d.ln := h3.1.1.2
    refine ⟨?_, hnn⟩
    unfold ExD.bs
    rw [if_neg (by omega), if_neg (by omega), if_pos k, List.length_append, hnl]
    unfold partsF at hp
    rw [if_neg (by omega), if_neg (by omega), if_neg (by omega), if_neg (by omega), if_neg (by omega), if_pos k] at hp
    have hw : ∀ z : Int, 0 ≤ z → z ≤ 5000000 → wrap64 z = z := fun z h1 h2 => by unfold wrap64; omega
    by_cases ht : d.t = []
    · rw [if_pos ht, List.length_nil]
      simp only [ht, decide_true, Bool.not_true, Bool.false_eq_true, if_false] at hp
      rw [hw _ (by omega) (by omega)] at hp
      omega
    · rw [if_neg ht, List.length_singleton]
      simp only [ht, decide_false, Bool.not_false, if_true] at hp
      rw [hw _ (by omega) (by omega)] at hp
      omega

/-! ### A store into the document's numbers -/
section
variable {N : Nat} {w : World} {ol : List Str} {v : Value} {fr : Int} {any : Bool}
theorem NR.setF (h : NR w N ol fr any v) (a : Int) : NR (w.setCell ⟨N, 1, none⟩ (.int .i64 a)) N ol a any v ∧ WO N w v (w.setCell ⟨N, 1, none⟩ (.int .i64 a)) v := by
  refine ⟨⟨⟨?_, ?_, ownsRow_setCell_below h.o.own (Nat.lt_succ_self N) _⟩, World.cell?_setCell_same _ _ _ h.c1, ?_, ?_, ?_⟩, ⟨⟨rfl, rfl, rfl, Nat.le_of_eq (World.size_setCell _ _ _).symm, fun k hk => Below.heap_setCell w _ _ k (Nat.ne_of_lt hk)⟩, fun g _ hgn _ => Below.heap_setCell w _ _ g hgn, fun k h => .inl h⟩⟩
  · rw [World.cell?_setCell_other _ _ _ _ (addr_ne (by decide))]; exact h.o.c
  · rw [World.frozen?_setCell]; exact h.o.f
  · rw [World.cell?_setCell_other _ _ _ _ (addr_ne (by decide))]; exact h.c2
  · rw [World.frozen?_setCell]; exact h.f1
  · rw [World.frozen?_setCell]; exact h.f2
theorem NR.setA (h : NR w N ol fr any v) (a : Bool) : NR (w.setCell ⟨N, 2, none⟩ (.bool a)) N ol fr a v ∧ WO N w v (w.setCell ⟨N, 2, none⟩ (.bool a)) v := by
  refine ⟨⟨⟨?_, ?_, ownsRow_setCell_below h.o.own (Nat.lt_succ_self N) _⟩, ?_, World.cell?_setCell_same _ _ _ h.c2, ?_, ?_⟩, ⟨⟨rfl, rfl, rfl, Nat.le_of_eq (World.size_setCell _ _ _).symm, fun k hk => Below.heap_setCell w _ _ k (Nat.ne_of_lt hk)⟩, fun g _ hgn _ => Below.heap_setCell w _ _ g hgn, fun k h => .inl h⟩⟩
  · rw [World.cell?_setCell_other _ _ _ _ (addr_ne (by decide))]; exact h.o.c
  · rw [World.frozen?_setCell]; exact h.o.f
  · rw [World.cell?_setCell_other _ _ _ _ (addr_ne (by decide))]; exact h.c1
  · rw [World.frozen?_setCell]; exact h.f1
  · rw [World.frozen?_setCell]; exact h.f2
end
end Go.Proofs.YtaglmmcjhlehjaaGreatDoor

namespace Go.Proofs.YtaglmmcjhlehjaaGreatDoor
open Go.ChangeShapes Go.WideShapes Go.ChangeAt Go.RowKit Go.Sort
set_option linter.unusedVariables false
set_option linter.unusedSimpArgs false

/-- An expression's own fields, as the document lays them first. -/
def ExD.bar0 (d : ExD) : ExD := { d with nA := none, nn := 0, nc := 0, names := [], pA := none, pn := 0, pc := 0 }
abbrev nE : Value := .slice none 0 0
section
variable {N gt r : Nat} {w wx wy wa w7 : World} {v0 v v1 v7 oV : Value} {dc dc1 d : ExD} {ol ol1 : List Str} {s s1 : Int × Bool} {own : List Bd} {p : Bd}
theorem BS.keep (h : BS N w v0 gt r dc ol v wx) (hb : Below N wx wy) {oB : Option Nat} (hO : ∀ k, oB = some k → w.heap.size ≤ k ∧ k ≠ gt ∧ k ≠ r ∧ some k ≠ v.ownBlock ∧ some k ≠ dc.nV.ownBlock ∧ (0 < dc.ln → ∀ a, dc.lA = some a → a.block ≠ k)) (hk : ∀ b, b < wx.heap.size → some b ≠ oB → wy.heap[b]? = wx.heap[b]?) : BS N w v0 gt r dc ol v wy := by
  obtain ⟨hN, hgt, hr, hne, hv1, hv2⟩ := h.gtN
  have hsz : w.heap.size ≤ wx.heap.size := h.wo.b.size
  refine ⟨h.cl.kept (hk gt h.cl.lt (fun e => (hO gt e.symm).2.1 rfl)), ?_, h.no.kept fun g hg => ?_, ⟨h.wo.b.trans hb, fun g hg h1 h2 => (hk g (by omega) (fun e => by have := (hO g e.symm).1; omega)).trans (h.wo.oth g hg h1 h2), h.wo.new⟩, h.gtN, ?_, h.labB, ?_, h.namB, h.cap, h.par⟩
  · obtain ⟨dr, hd⟩ := h.rz
    exact ⟨dr, hd.kept (hk r hd.lt (fun e => (hO r e.symm).2.2.1 rfl))⟩
  · rcases hg with rfl | hg
    · exact hk _ (by omega) (fun e => by have := (hO _ e.symm).1; omega)
    · exact hk g ((h.no.own.lt g hg).2) (fun e => (hO g e.symm).2.2.2.1 hg.symm)
  · exact rd_keepP (P := fun b => some b ≠ oB) h.lab (fun h0 a ha e => (hO a.block e.symm).2.2.2.2.2 h0 a ha rfl) (fun b hp hb => hk b hb hp)
  · exact ownsRow_kept h.own fun g hg => hk g (own_lt h.own hg) (fun e => (hO g e.symm).2.2.2.2.1 hg.symm)
/-- Where the document's answer stands while names get numbers: the bindings so far are a row of their own. -/
structure BD (N : Nat) (w : World) (v0 : Value) (gt r : Nat) (dc : ExD) (ol : List Str) (s : Int × Bool) (own : List Bd) (oV v : Value) (wx : World) : Prop where
  bs : BS N w v0 gt r dc ol v wx
  nr : NR wx N ol s.1 s.2 v
  ow : wx.ownsRow (N + 1) 85 2 oV own.length (bds own)
  owB : ∀ k, oV.ownBlock = some k → PB N w.heap.size gt r v k ∧ some k ≠ dc.nV.ownBlock
  lb : 0 < dc.ln → ∀ a, dc.lA = some a → a.block < N
theorem BD.start {w2 w3 : World} (hn : NR w N ol s.1 s.2 v) (hr : w.heap.size = r) (hb2 : Below w.heap.size w w2) (hs2 : w2.heap.size = gt) (hgt : r < gt) (hb3 : Below w2.heap.size w2 w3) (hcl : Cl w3 gt d.bar0) (hrz : ∃ dr, Cl w2 r dr) (hlab : Rd w 1 d.lA d.ln (strs d.labels)) (hlb : 0 < d.ln → ∀ a, d.lA = some a → a.block < N)
    (hcap : (d.ln ≤ d.lc ∧ d.lc ≤ maxLen) ∧ d.s.length ≤ 9223372036854775807 ∧ d.t.length ≤ 9223372036854775807 ∧ (∀ s ∈ d.labels, s.length ≤ 9223372036854775807)) : BD N w v gt r d.bar0 ol s [] nE v w3 := by
  have hlt := hn.o.lt
  have hsz := hb2.size
  have hb : Below w.heap.size w w3 := hb2.trans (hb3.mono hsz)
  have hov : ∀ b, v.ownBlock = some b → N + 1 ≤ b ∧ b < w.heap.size := fun b hb => hn.o.own.lt b hb
  refine ⟨⟨hcl, ?_, (hn.below hb).o, WO.below (Nat.le_of_lt hlt) hb, ⟨hlt, by omega, by omega, by omega, fun e => by have := hov gt e.symm; omega, fun e => by have := hov r e.symm; omega⟩, hlab.below hb, fun h0 a ha => ?_, World.ownsRow_nil _ _ _ _, fun k hk => (by cases hk), ⟨hcap.1, hcap.2.1, hcap.2.2.1, hcap.2.2.2, fun s hs => (by cases hs)⟩, ⟨rfl, rfl, rfl⟩⟩, hn.below hb, World.ownsRow_nil _ _ _ _, fun k hk => (by cases hk), hlb⟩
  · obtain ⟨dr, hd⟩ := hrz
    exact ⟨dr, hd.below hb3⟩
  · have := hlb h0 a ha
    exact ⟨⟨.inl this, by omega, by omega, fun e => by have := hov a.block e.symm; omega⟩, fun e => by cases e⟩
theorem BD.bind (h : BD N w v0 gt r dc ol s own oV v wx) (hn : NR wy N ol1 s1.1 s1.2 v1) (k : WO N wx v wy v1) : BD N w v0 gt r dc ol1 s1 own oV v1 wy := by
  obtain ⟨hN, hgt, hr, hne, hv1, hv2⟩ := h.bs.gtN
  refine ⟨h.bs.call hn.o k, hn, ownsRow_kept h.ow fun g hg => k.oth g (h.ow.lt g hg).2 (by have := (h.ow.lt g hg).1; omega) (h.owB g hg).1.2.2.2, fun b hb => ⟨⟨(h.owB b hb).1.1, (h.owB b hb).1.2.1, (h.owB b hb).1.2.2.1, fun e => ?_⟩, (h.owB b hb).2⟩, h.lb⟩
  rcases k.new b e.symm with q | q
  · exact (h.owB b hb).1.2.2.2 q.symm
  · have := (h.ow.lt b hb).2; omega
theorem BD.below (h : BD N w v0 gt r dc ol s own oV v wx) (hb : Below wx.heap.size wx wy) : BD N w v0 gt r dc ol s own oV v wy :=
  h.bind (h.nr.below hb) (WO.below (Nat.le_of_lt h.nr.o.lt) hb)
/-- One more binding in the row. -/
theorem BD.row (h : BD N w v0 gt r dc ol s own oV v wx) (hwa : Below wx.heap.size wx wa) (ho : w7.ownsRow (N + 1) 85 2 v7 (own.length + 1) (bds own ++ bd2 p)) (hg : wa.grownBy w7 oV.ownBlock) (hat : v7.ownBlock = oV.ownBlock ∨ v7.ownBlock = some wa.heap.size) : BD N w v0 gt r dc ol s (own ++ [p]) v7 v w7 := by
  obtain ⟨hN, hgt, hr, hne, hv1, hv2⟩ := h.bs.gtN
  have hsz : w.heap.size ≤ wx.heap.size := h.bs.wo.b.size
  have hsa : wx.heap.size ≤ wa.heap.size := hwa.size
  have hO : ∀ k, oV.ownBlock = some k → w.heap.size ≤ k ∧ k ≠ gt ∧ k ≠ r ∧ some k ≠ v.ownBlock ∧ some k ≠ dc.nV.ownBlock ∧ (0 < dc.ln → ∀ a, dc.lA = some a → a.block ≠ k) := fun k hk => by
    have h1 := h.owB k hk
    have h2 := (h.ow.lt k hk).1
    refine ⟨by rcases h1.1.1 with q | q <;> omega, h1.1.2.1, h1.1.2.2.1, h1.1.2.2.2, h1.2, fun h0 a ha => ?_⟩
    have := h.lb h0 a ha
    omega
  have hk : ∀ b, b < wx.heap.size → some b ≠ oV.ownBlock → w7.heap[b]? = wx.heap[b]? := fun b hb hv => (hg.block b (by omega) hv).trans (hwa.block b hb)
  have hb : Below N wx w7 := (hwa.mono (show N ≤ wx.heap.size by omega)).grown hg (by omega) (fun k hk => by have := (hO k hk).1; omega)
  have e1 : (own ++ [p]).length = own.length + 1 := by rw [List.length_append]; rfl
  refine ⟨h.bs.keep hb hO hk, h.nr.kept fun g hgg => ?_, by rw [e1, bds_snoc]; exact ho, fun k hk2 => ?_, h.lb⟩
  · rcases hgg with rfl | hgg
    · exact hk _ (by omega) (fun e => by have := (hO _ e.symm).1; omega)
    · exact hk g ((h.nr.o.own.lt g hgg).2) (fun e => (hO g e.symm).2.2.2.1 hgg.symm)
  · rcases hat with q | q
    · exact h.owB k (q ▸ hk2)
    · rw [q] at hk2; injection hk2 with hk2
      obtain ⟨dr, hd⟩ := h.bs.rz
      have := hd.lt
      have := h.bs.cl.lt
      exact ⟨⟨.inr (by omega), by omega, by omega, fun e => by have := (h.nr.o.own.lt k e.symm).2; omega⟩, fun e => by have := own_lt h.bs.own e.symm; omega⟩
/-- A store into the struct. -/
theorem BD.set (h : BD N w v0 gt r dc ol s own oV v wx) {i : Nat} {u : Value} (hb : BS N w v0 gt r dc1 ol v (wx.setCell ⟨gt, i, none⟩ u)) (e : dc1.nV = dc.nV) (el : dc1.ln = dc.ln ∧ dc1.lA = dc.lA) : BD N w v0 gt r dc1 ol s own oV v (wx.setCell ⟨gt, i, none⟩ u) := by
  obtain ⟨hN, hgt, hr, hne, hv1, hv2⟩ := h.bs.gtN
  have hk : ∀ b, b ≠ gt → (wx.setCell ⟨gt, i, none⟩ u).heap[b]? = wx.heap[b]? := fun b hb => heap_set_ne wx u hb
  refine ⟨hb, h.nr.kept fun g hg => hk g ?_, ownsRow_kept h.ow fun g hg => hk g (h.owB g hg).1.2.1, by rw [e]; exact h.owB, by rw [el.1, el.2]; exact h.lb⟩
  rcases hg with rfl | hg
  · omega
  · intro e; exact hv1 (e ▸ hg.symm)
theorem BD.setS (h : BD N w v0 gt r dc ol s own oV v wx) (x : Str) (hx : x.length ≤ 9223372036854775807) : BD N w v0 gt r { dc with s := x } ol s own oV v (wx.setCell ⟨gt, 3, none⟩ (.string (bstr x))) := h.set (h.bs.setS x hx) rfl ⟨rfl, rfl⟩
theorem BD.setT (h : BD N w v0 gt r dc ol s own oV v wx) (x : Str) (hx : x.length ≤ 9223372036854775807) : BD N w v0 gt r { dc with t := x } ol s own oV v (wx.setCell ⟨gt, 4, none⟩ (.string (bstr x))) := h.set (h.bs.setT x hx) rfl ⟨rfl, rfl⟩
/-- One more of the names. -/
theorem BD.name (h : BD N w v0 gt r dc ol s own oV v wx) {o : Obj} {A7 : Option Addr} {c7 : Nat} {x : Str} (hx : x.length ≤ 9223372036854775807)
    (ho : w7.ownsRow (N + 1) 9 1 (.slice A7 (dc.nn + 1) c7) (dc.nn + 1) (strs dc.names ++ strs [x])) (hg : (wx.alloc o).grownBy w7 dc.nV.ownBlock) (hat : (Value.slice A7 (dc.nn + 1) c7).ownBlock = dc.nV.ownBlock ∨ (Value.slice A7 (dc.nn + 1) c7).ownBlock = some (wx.alloc o).heap.size) :
    BD N w v0 gt r { dc with nA := A7, nn := dc.nn + 1, nc := c7, names := dc.names ++ [x] } ol s own oV v (w7.setCell ⟨gt, 6, none⟩ (.slice A7 (dc.nn + 1) c7)) := by
  obtain ⟨hN, hgt, hr, hne, hv1, hv2⟩ := h.bs.gtN
  have hsz : w.heap.size ≤ wx.heap.size := h.bs.wo.b.size
  have hsa : (wx.alloc o).heap.size = wx.heap.size + 1 := by rw [World.size_alloc]
  have hk : ∀ b, b < wx.heap.size → some b ≠ dc.nV.ownBlock → b ≠ gt → (w7.setCell ⟨gt, 6, none⟩ (.slice A7 (dc.nn + 1) c7)).heap[b]? = wx.heap[b]? := fun b hb hv hg2 => (heap_set_ne w7 _ hg2).trans ((hg.block b (by omega) hv).trans (Below.heap_alloc wx o b hb))
  refine ⟨h.bs.app hx ho hg hat, h.nr.kept fun g hgg => ?_, ownsRow_kept h.ow fun g hgg => hk g (h.ow.lt g hgg).2 (h.owB g hgg).2 (h.owB g hgg).1.2.1, fun k hk2 => ⟨(h.owB k hk2).1, fun e => ?_⟩, h.lb⟩
  · rcases hgg with rfl | hgg
    · exact hk _ (by omega) (fun e => by have := (h.bs.own.lt _ e.symm).1; omega) (by omega)
    · exact hk g ((h.nr.o.own.lt g hgg).2) (fun e => (h.bs.namB g e.symm).2.2.2 hgg.symm) (fun e => hv1 (e ▸ hgg.symm))
  · have e' : some k = (Value.slice A7 (dc.nn + 1) c7).ownBlock := e
    rcases hat with q | q
    · exact (h.owB k hk2).2 (e'.trans q)
    · rw [q] at e'; injection e' with e'
      have := (h.ow.lt k hk2).2; omega
end
section
attribute [local irreducible] put8
variable {N gt r : Nat} {w wx wa w7 : World} {v0 v ne : Value} {env : List Bd} {dc : ExD} {ts : List Ex} {ol : List Str}
set_option maxHeartbeats 1000000 in
/-- A part more. -/
theorem OS.pushD (h : OS N w v0 ne env gt r dc ts ol v wx) (hwa : Below wx.heap.size wx wa) {g7 c7 : Nat} (t' : Ex) (ht : t'.In wx) (htB : t'.Bl (PL N w.heap.size gt r v dc.lV))
    (ho : w7.ownsRow (N + 1) 25 8 (.slice (some ⟨g7, 0, none⟩) (dc.pn + 1) c7) (dc.pn + 1) (ts.flatMap Ex.cells ++ t'.d.cells)) (hg : wa.grownBy w7 dc.lV.ownBlock) (hat : (Value.slice (some ⟨g7, 0, none⟩) (dc.pn + 1) c7).ownBlock = dc.lV.ownBlock ∨ (Value.slice (some ⟨g7, 0, none⟩) (dc.pn + 1) c7).ownBlock = some wa.heap.size) :
    OS N w v0 ne env gt r { dc with pA := some ⟨g7, 0, none⟩, pn := dc.pn + 1, pc := c7 } (ts ++ [t']) ol v (w7.setCell ⟨gt, 7, none⟩ (.slice (some ⟨g7, 0, none⟩) (dc.pn + 1) c7)) := by
  obtain ⟨hN, hgt, hr, hne, hv1, hv2⟩ := h.gtN
  have hsz : w.heap.size ≤ wx.heap.size := h.b.size
  have hsa : wx.heap.size ≤ wa.heap.size := hwa.size
  have h7 : wx.heap.size ≤ w7.heap.size := by have := hg.size; omega
  have hgl := h.cl.lt
  have hg7 : dc.lV.ownBlock = some g7 ∨ wx.heap.size ≤ g7 := by
    rcases hat with q | q
    · exact .inl q.symm
    · injection q with q; have q' : g7 = wa.heap.size := q; exact .inr (by omega)
  have hb7 : w.heap.size ≤ g7 ∧ g7 ≠ gt ∧ g7 ≠ r ∧ some g7 ≠ v.ownBlock := by
    rcases hg7 with q | q
    · exact h.ownB g7 q
    · obtain ⟨dr, hd⟩ := h.rz
      have := hd.lt
      exact ⟨by omega, by omega, by omega, fun e => by have := (h.no.own.lt g7 e.symm).2; omega⟩
  have hev : ∀ b, some b = ne.ownBlock → N + 1 ≤ b ∧ b < w.heap.size := fun b e => ⟨(h.env.lt b e.symm).1, (h.envB b e.symm).1⟩
  -- what is neither the row's, nor the struct's
  have hk : ∀ b, b < wx.heap.size → some b ≠ dc.lV.ownBlock → b ≠ gt → (w7.setCell ⟨gt, 7, none⟩ (.slice (some ⟨g7, 0, none⟩) (dc.pn + 1) c7)).heap[b]? = wx.heap[b]? := fun b hb h1 h2 => by
    have hb7' : b ≠ g7 := by
      rcases hg7 with q | q
      · intro e; exact h1 (e ▸ q.symm)
      · omega
    exact (heap_set_ne _ _ h2).trans ((hg.block b (by omega) h1).trans (hwa.block b hb))
  have hkeep : ∀ b, PL N w.heap.size gt r v dc.lV b → b < wx.heap.size → (w7.setCell ⟨gt, 7, none⟩ (.slice (some ⟨g7, 0, none⟩) (dc.pn + 1) c7)).heap[b]? = wx.heap[b]? := fun b hp hb => hk b hb hp.2.2.2.2 hp.2.1
  have hP : ∀ b, PL N w.heap.size gt r v dc.lV b → b < wx.heap.size → PL N w.heap.size gt r v (.slice (some ⟨g7, 0, none⟩) (dc.pn + 1) c7) b := fun b hp hb => ⟨hp.1, hp.2.1, hp.2.2.1, hp.2.2.2.1, fun e => by
    injection e with e
    rcases hg7 with q | q
    · exact hp.2.2.2.2 (e ▸ q.symm)
    · have e' : b = g7 := e
      omega⟩
  have hcl7 : Cl w7 gt dc := h.cl.kept ((hg.block gt (by omega) (fun e => (h.ownB gt e.symm).2.1 rfl)).trans (hwa.block gt hgl))
  have hpl : (ts.flatMap Ex.cells).length = dc.pn * 8 := h.own.1
  have nol : ({ dc with pA := some ⟨g7, 0, none⟩, pn := dc.pn + 1, pc := c7 } : ExD).noL = dc.noL := rfl
  refine ⟨hcl7.setPar _ _ _, ?_, h.no.kept fun g hgg => ?_, ?_, fun g hg1 hg2 hg3 hg4 => ?_, h.new, ?_, h.envB, h.gtN, ?_, ?_, ?_, ?_, ?_⟩
  · obtain ⟨dr, hd⟩ := h.rz
    exact ⟨dr, hd.kept (hk r hd.lt (fun e => (h.ownB r e.symm).2.2.1 rfl) (Ne.symm hne))⟩
  · rcases hgg with rfl | hgg
    · exact hk _ (by omega) (fun e => by have := (h.ownB _ e.symm).1; omega) (by omega)
    · exact hk g ((h.no.own.lt g hgg).2) (fun e => (h.ownB g e.symm).2.2.2 hgg.symm) (fun e => hv1 (e ▸ hgg.symm))
  · have hb : Below N wx w7 := (hwa.mono (show N ≤ wx.heap.size by omega)).grown hg (by omega) (fun k hk => by have := (h.ownB k hk).1; omega)
    exact (h.b.trans hb).setCell (show N ≤ gt by omega) _
  · exact (hk g (by omega) (fun e => by have := (h.ownB g e.symm).1; omega) (by omega)).trans (h.oth g hg1 hg2 hg3 hg4)
  · exact ownsRow_kept h.env fun g hgg => by
      have := hev g hgg.symm
      exact hk g (by omega) (fun e => by have := (h.ownB g e.symm).1; omega) (by omega)
  · rw [nol]; exact h.x0.keepP h.x0B hkeep
  · rw [nol]; exact h.x0B.imp h.x0 hP
  · have h8 := ho
    have e8 : (ts ++ [t']).flatMap Ex.cells = ts.flatMap Ex.cells ++ t'.d.cells := by rw [List.flatMap_append]; simp [Ex.cells]
    rw [e8]
    refine ownsRow_kept h8 fun g hgg => heap_set_ne _ _ ?_
    have e9 : g = g7 := by
      have : some g7 = some g := hgg
      injection this with this; exact this.symm
    rw [e9]; exact hb7.2.1
  · intro k hk
    have : some g7 = some k := hk
    injection this with this
    subst this
    exact hb7
  · intro x hx
    rcases List.mem_append.1 hx with hx | hx
    · exact ⟨(h.kids x hx).1.keepP (h.kids x hx).2 hkeep, (h.kids x hx).2.imp (h.kids x hx).1 hP⟩
    · obtain rfl := List.mem_singleton.1 hx
      exact ⟨ht.keepP htB hkeep, htB.imp ht hP⟩
end
/-- Where it stands while parts are numbered. -/
structure DS (N : Nat) (w : World) (v0 : Value) (gt r : Nat) (dc : ExD) (ts : List Ex) (ol : List Str) (s : Int × Bool) (own : List Bd) (oA : Option Addr) (v : Value) (wx : World) : Prop where
  os : OS N w v0 nE [] gt r dc ts ol v wx
  nr : NR wx N ol s.1 s.2 v
  ow : Rd wx 2 oA own.length (bds own)
  owB : 0 < own.length → ∀ a, oA = some a → PL N w.heap.size gt r v dc.lV a.block
abbrev FD (N : Nat) (v : Value) (w w' : World) : Prop := FE N v nE [] w w'
/-- What the document's answer tells. -/
def DoR (N : Nat) (ol : List Str) (s : Int × Bool) (v : Value) (env : List Bd) (t : Ex) (W : World) (e : Ending) (w' : World) : Prop :=
  ∃ (t' : Ex) (v' : Value), e = .returned (.agg t'.d.arr) ∧ t'.lk (t.num env ol).1 ∧ t'.In w' ∧ t'.Bl (fun b => (b < N ∨ W.heap.size ≤ b) ∧ some b ≠ v'.ownBlock) ∧ NR w' N (t.num env ol).2 (ffU (t.firstF (env.map (·.1))) s).1 (ffU (t.firstF (env.map (·.1))) s).2 v' ∧ FD N v W w' ∧ (∀ k, v'.ownBlock = some k → v.ownBlock = some k ∨ W.heap.size ≤ k)
section
variable {N gt r : Nat} {w wx wy wa w7 W : World} {v0 v v1 oV : Value} {dc : ExD} {ts : List Ex} {ol ol1 : List Str} {s s1 : Int × Bool} {own : List Bd} {oA : Option Addr}
theorem BD.ds (h : BD N w v0 gt r dc ol s own oV v wx) : ∃ oA oc, oV = .slice oA own.length oc ∧ DS N w v0 gt r dc [] ol s own oA v wx := by
  obtain ⟨A, c, hv, _⟩ := own_cap h.ow
  subst hv
  have hp := h.bs.par
  have lv : dc.lV.ownBlock = none := by unfold ExD.lV; rw [hp.1]; rfl
  have nol : dc.noL = dc := by
    obtain ⟨a, b, c⟩ := hp
    cases dc
    simp only at a b c
    subst a b c
    rfl
  refine ⟨A, c, rfl, ⟨⟨h.bs.cl, h.bs.rz, h.bs.no, h.bs.wo.b, fun g hg h1 h2 _ => h.bs.wo.oth g hg h1 h2, h.bs.wo.new, World.ownsRow_nil _ _ _ _, fun k hk => (by cases hk), h.bs.gtN, ?_, ?_, ?_, fun k hk => (by rw [lv] at hk; cases hk), fun x hx => (by cases hx)⟩, h.nr, Rd.of_own h.ow, fun _ a ha => ?_⟩⟩
  · rw [nol]; exact h.bs.inn
  · rw [nol]; exact h.bs.bl.imp h.bs.inn (fun b hp _ => ⟨hp.1, hp.2.1, hp.2.2.1, hp.2.2.2, fun e => by rw [lv] at e; cases e⟩)
  · have : dc.lV = .slice none 0 0 := by unfold ExD.lV; rw [hp.1, hp.2.1, hp.2.2]
    rw [this, hp.2.1]
    exact World.ownsRow_nil _ _ _ _
  · have h1 := (h.owB a.block (by rw [ha]; rfl)).1
    exact ⟨h1.1, h1.2.1, h1.2.2.1, h1.2.2.2, fun e => by rw [lv] at e; cases e⟩
theorem DS.call (h : DS N w v0 gt r dc ts ol s own oA v wx) (hn : NR wy N ol1 s1.1 s1.2 v1) (k : FD N v wx wy) (new : ∀ k, v1.ownBlock = some k → v.ownBlock = some k ∨ wx.heap.size ≤ k) : DS N w v0 gt r dc ts ol1 s1 own oA v1 wy := by
  obtain ⟨hN, hgt, hr, hne, hv1, hv2⟩ := h.os.gtN
  have hlt : 0 < own.length → ∀ a, oA = some a → a.block < wx.heap.size := fun h0 a ha => by
    obtain ⟨a', e, hb, _⟩ := h.ow.addr (by rw [bds_length]; omega)
    rw [ha] at e; cases e; exact hb
  refine ⟨h.os.call hn.o k new, hn, rd_keepP (P := PL N w.heap.size gt r v dc.lV) h.ow h.owB (fun b hp hb => k.oth b hb (fun q => ?_) (by intro e; cases e)), fun h0 a ha => ?_⟩
  · rcases q with q | q
    · rcases hp.1 with p | p <;> omega
    · exact hp.2.2.2.1 q
  · have hp := h.owB h0 a ha
    refine ⟨hp.1, hp.2.1, hp.2.2.1, fun e => ?_, hp.2.2.2.2⟩
    rcases new _ e.symm with q | q
    · exact hp.2.2.2.1 q.symm
    · have := hlt h0 a ha; omega
theorem FD.below (hN : N ≤ wx.heap.size) (hb : Below wx.heap.size wx wy) : FD N v wx wy :=
  ⟨hb.mono hN, fun g hg _ _ => hb.block g hg, World.ownsRow_nil _ _ _ _⟩
theorem DS.size (h : DS N w v0 gt r dc ts ol s own oA v wx) : N + 1 ≤ wx.heap.size := by have := h.nr.o.lt; omega
theorem DS.below (h : DS N w v0 gt r dc ts ol s own oA v wx) (hb : Below wx.heap.size wx wy) : DS N w v0 gt r dc ts ol s own oA v wy :=
  h.call (h.nr.below hb) (FD.below (by have := h.size; omega) hb) (fun k hk => .inl hk)
theorem DS.kid (h : DS N w v0 gt r dc ts ol s own oA v wx) (hn : NR wy N ol1 s1.1 s1.2 v1) (k : FD N v wx wy) (new : ∀ k, v1.ownBlock = some k → v.ownBlock = some k ∨ wx.heap.size ≤ k) {t' : Ex} (ht : t'.In wy) (hbl : t'.Bl (fun b => (b < N ∨ wx.heap.size ≤ b) ∧ some b ≠ v1.ownBlock)) :
    DS N w v0 gt r dc ts ol1 s1 own oA v1 wy ∧ t'.Bl (PL N w.heap.size gt r v1 dc.lV) :=
  ⟨h.call hn k new, (h.os.kid (UP.refl (World.ownsRow_nil _ _ _ _) h.size) (Below.refl _ _) hn.o k new ht hbl).2⟩
theorem DS.push (h : DS N w v0 gt r dc ts ol s own oA v wx) (hwa : Below wx.heap.size wx wa) {g7 c7 : Nat} (t' : Ex) (ht : t'.In wx) (htB : t'.Bl (PL N w.heap.size gt r v dc.lV))
    (ho : w7.ownsRow (N + 1) 25 8 (.slice (some ⟨g7, 0, none⟩) (dc.pn + 1) c7) (dc.pn + 1) (ts.flatMap Ex.cells ++ t'.d.cells)) (hg : wa.grownBy w7 dc.lV.ownBlock) (hat : (Value.slice (some ⟨g7, 0, none⟩) (dc.pn + 1) c7).ownBlock = dc.lV.ownBlock ∨ (Value.slice (some ⟨g7, 0, none⟩) (dc.pn + 1) c7).ownBlock = some wa.heap.size) :
    DS N w v0 gt r { dc with pA := some ⟨g7, 0, none⟩, pn := dc.pn + 1, pc := c7 } (ts ++ [t']) ol s own oA v (w7.setCell ⟨gt, 7, none⟩ (.slice (some ⟨g7, 0, none⟩) (dc.pn + 1) c7)) := by
  obtain ⟨hN, hgt, hr, hne, hv1, hv2⟩ := h.os.gtN
  have hsz : w.heap.size ≤ wx.heap.size := h.os.b.size
  have hsa : wx.heap.size ≤ wa.heap.size := hwa.size
  have hk : ∀ b, b < wx.heap.size → some b ≠ dc.lV.ownBlock → b ≠ gt → (w7.setCell ⟨gt, 7, none⟩ (.slice (some ⟨g7, 0, none⟩) (dc.pn + 1) c7)).heap[b]? = wx.heap[b]? := fun b hb h1 h2 => (heap_set_ne _ _ h2).trans ((hg.block b (by omega) h1).trans (hwa.block b hb))
  have hg7 : dc.lV.ownBlock = some g7 ∨ wx.heap.size ≤ g7 := by
    rcases hat with q | q
    · exact .inl q.symm
    · injection q with q; have q' : g7 = wa.heap.size := q; exact .inr (by omega)
  refine ⟨h.os.pushD hwa t' ht htB ho hg hat, h.nr.kept fun g hgg => ?_, rd_keepP (P := PL N w.heap.size gt r v dc.lV) h.ow h.owB (fun b hp hb => hk b hb hp.2.2.2.2 hp.2.1), fun h0 a ha => ?_⟩
  · rcases hgg with rfl | hgg
    · exact hk _ (by omega) (fun e => by have := (h.os.ownB _ e.symm).1; omega) (by omega)
    · exact hk g ((h.nr.o.own.lt g hgg).2) (fun e => (h.os.ownB g e.symm).2.2.2 hgg.symm) (fun e => hv1 (e ▸ hgg.symm))
  · have hp := h.owB h0 a ha
    refine ⟨hp.1, hp.2.1, hp.2.2.1, hp.2.2.2.1, fun e => ?_⟩
    have e' : some a.block = some g7 := e
    injection e' with e'
    rcases hg7 with q | q
    · exact hp.2.2.2.2 (by rw [e', q])
    · obtain ⟨a', e2, hb, _⟩ := h.ow.addr (by rw [bds_length]; omega)
      rw [ha] at e2; cases e2; omega
/-- The end. -/
theorem DS.done {ol4 : List Str} {v4 : Value} {w' : World} {env : List Bd} (h : DS N w v gt r dc ts ol4 s1 own oA v4 wx) (hW : Below W.heap.size W w) (hN : N + 1 ≤ W.heap.size) (t : Ex) (hlk : (Ex.mk dc ts).lk (t.num env ol).1) (hol : ol4 = (t.num env ol).2) (hs : s1 = ffU (t.firstF (env.map (·.1))) s) (hk : ∀ b, b ≠ r → w'.heap[b]? = wx.heap[b]?) (hb : ∀ B, B ≤ r → Below B wx w') : DoR N ol s v env t W (.returned (.agg dc.arr)) w' := by
  obtain ⟨hN1, hgt, hr, hne, hv1, hv2⟩ := h.os.gtN
  have hWs := hW.size
  subst hol hs
  have hkk : ∀ g, g = N ∨ v4.ownBlock = some g → g ≠ r := fun g hg => by
    rcases hg with rfl | hg
    · omega
    · intro e; exact hv2 (e ▸ hg.symm)
  have hF : FD N v w w' := ⟨h.os.b.trans (hb N (by omega)), fun g hg hx hv => (hk g (by omega)).trans (h.os.oth g hg (fun e => hx (.inl e)) (fun e => hx (.inr e)) hv), World.ownsRow_nil _ _ _ _⟩
  refine ⟨.mk dc ts, v4, rfl, hlk, h.os.inn.keepP h.os.blt (fun b hp _ => hk b hp.2.1), h.os.blt.imp h.os.inn (fun b hp _ => ⟨?_, hp.2.2⟩), h.nr.kept fun g hg => hk g (hkk g hg), FX.pre (World.ownsRow_nil _ _ _ _) (by omega) hW hF, fun k hk2 => ?_⟩
  · rcases hp.1 with q | q
    · exact .inl q
    · exact .inr (by omega)
  · rcases h.os.new k hk2 with q | q
    · exact .inl q
    · exact .inr (by omega)
end
end Go.Proofs.YtaglmmcjhlehjaaGreatDoor
