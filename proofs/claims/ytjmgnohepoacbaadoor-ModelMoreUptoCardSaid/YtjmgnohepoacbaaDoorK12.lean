/-
  The machine: a record with a label's value: put. (Made by gen_mcs.py.)
  A tagged value: apply's region. (Made by gen_mcn.py.)
  The machine: what an expression comes to, of which all parts have: the other kinds. (Made by gen_mcu.py.)
  The machine: a tagged value, a record. (Made by gen_mcv.py.)
  The machine: a Match, of which L0 has a value.
  The machine: what an expression comes to, of which all parts have: all kinds.
  The machine goes on: all parts have values.
-/
import Derived.Test.YtjmgnohepoacbaaDoorK06
import Derived.Test.YtjmgnohepoacbaaDoorK07
import Derived.Test.YtjmgnohepoacbaaDoorK08
import Derived.Test.YtjmgnohepoacbaaDoorK09
import Derived.Test.YtjmgnohepoacbaaDoorK10
import Derived.Test.YtjmgnohepoacbaaDoorK11
import Derived.Test.YtjmgnohepoacbaaDoorK04
namespace Go.Proofs.YtjmgnohepoacbaaDoor
open Go Go.ChangeShapes Go.WideShapes Go.ChangeAt Go.RowKit Go.Sort
set_option linter.unusedVariables false
set_option linter.unusedSimpArgs false

def St.putAt (s : St) (k j : Nat) (x : Str) (z y : Val) : St := { s with vals := s.vals ++ [.mk 4 0 [] (z.labels.take k ++ [x] ++ z.labels.drop j) (z.l.take k ++ [y] ++ z.l.drop j) none] }
def St.put (s : St) (kd : Int) (x : Str) (z y : Val) : St :=
  if z.sort = 4 ∧ isS z.labels x = decide (kd = 12) then s.putAt (atS z.labels x) (if isS z.labels x = true then atS z.labels x + 1 else atS z.labels x) x z y
  else { s with err := 11 }
section
variable {w0 w : World} {B mb : Nat} {s : St} {t i r v f nx nm : Value} {rcs vcs fcs : List (List Value)}
set_option maxHeartbeats 8000000 in
set_option maxRecDepth 100000 in
theorem put_any (h : Rep w0 B mb s w t i r v f nx nm rcs vcs fcs) (hv : s.vals.length ≤ 100000000000) (e : Ex) (eb eo : Nat) (hd : e.d.At w eb eo) (heb : eb < B) (z : Val) (A : Option Addr) (c : Nat) (p : Option Addr) (LA : Option Addr) (lc : Nat) (hz : VR w0 w (Mv mb t r v f) z [.int .i64 z.sort, .int .i64 z.n, .string (bstr z.s), .slice LA z.labels.length lc, .slice A z.l.length c, .pointer p]) (hll : z.sort = 4 → z.labels.length = z.l.length) (hx : z.labels.length ≤ 90000000000) (y : Val) (Ay : Option Addr) (cy : Nat) (py : Option Addr) (LAy : Option Addr) (lcy : Nat) (hy : VR w0 w (Mv mb t r v f) y [.int .i64 y.sort, .int .i64 y.n, .string (bstr y.s), .slice LAy y.labels.length lcy, .slice Ay y.l.length cy, .pointer py]) :
    Calls Tryd.prog 39 #[.agg #[.pointer (some ⟨mb, 0, none⟩)], .pointer (some ⟨eb, eo, none⟩), .agg #[.int .i64 z.sort, .int .i64 z.n, .string (bstr z.s), .slice LA z.labels.length lc, .slice A z.l.length c, .pointer p], .agg #[.int .i64 y.sort, .int .i64 y.n, .string (bstr y.s), .slice LAy y.labels.length lcy, .slice Ay y.l.length cy, .pointer py]] w fun e1 w' => e1 = .returned (.tuple #[]) ∧ Post w0 B mb (Mv mb t r v f) w (s.put e.d.kind e.d.s z y) w' := by
  obtain ⟨q1, q2, q3, hb⟩ := three_newS w (boxM mb) (boxV z A c p LA lc) (boxV y Ay cy py LAy lcy)
  have hlab := hz.lab
  obtain ⟨csx, hvx, hcx, hpx⟩ := hz.vs
  have HB := Lib.hid hb
  have HH := Lib.hid h
  have HZ := Lib.hid (And.intro hlab (And.intro hvx (And.intro hcx hpx)))
  have HY := Lib.hid hy
  have HL := Lib.hid (And.intro hll hx)
  have HD := Lib.hid (hd.lower hb)
  have HQ := Lib.hid (And.intro q1 (And.intro q2 q3))
  have HV := Lib.hid hv
  have HEB := Lib.hid heb
  have HBM := Lib.hid (fun (wr : World) (hb : Below w.heap.size w wr) => And.intro (Tr.below (P := Mv mb t r v f) hb) (hb.mono (Nat.le_of_lt (Nat.lt_of_le_of_lt h.base.2 h.lt))))
  have HS := Lib.hid (fun (wr : World) (hb : Below w.heap.size w wr) => stuck_any (h.below hb))
  have HBS := Lib.hid (fun (V : World) (hb' : Below w.heap.size w V) => (searchS_any LA z.labels e.d.s z.labels.length lc V (hlab.1.below hb') (by omega)).mono fun e9 w' ⟨h1, h2⟩ => (show e9 = Ending.returned (.tuple #[.int .i64 (atS z.labels e.d.s), .bool (isS z.labels e.d.s)]) ∧ ∃ q os', w' = grow (V.drewN q) os' from ⟨h1, 0, #[], by rw [grow_empty]; exact h2⟩))
  have HTL := Lib.hid (fun (k j : Nat) (wr : World) (LA' : Option Addr) (lc' : Nat) (A' : Option Addr) (c' : Nat) (hb' : Below w.heap.size w wr) (h1 : FL (Mv mb t r v f) (z.labels.take k ++ [e.d.s] ++ z.labels.drop j) LA' lc' wr) (h2 : Fs w0 (Mv mb t r v f) (z.l.take k ++ [y] ++ z.l.drop j) A' c' wr) => (show Calls Tryd.prog 21 #[.pointer (some ⟨mb, 0, none⟩), .agg #[.int .i64 4, .int .i64 0, .string ⟨#[]⟩, .slice LA' (z.labels.take k ++ [e.d.s] ++ z.labels.drop j).length lc', .slice A' (z.l.take k ++ [y] ++ z.l.drop j).length c', .pointer none]] wr fun e9 w' => e9 = .returned (.tuple #[]) ∧ Post w0 B mb (Mv mb t r v f) wr (s.putAt k j e.d.s z y) w' from by
    obtain ⟨css', v1, v2, v3⟩ := h2
    exact tell_any (h.below hb') hv (.mk 4 0 [] (z.labels.take k ++ [e.d.s] ++ z.labels.drop j) (z.l.take k ++ [y] ++ z.l.drop j) none) (v1.vr v2 v3 h1 4 0 [])))
  have a3 := cell_grown (block_lt_of_cell (cells6 q2).2.2.2.1) (cells6 q2).2.2.2.1
  have k3 := cell_grown (block_lt_of_cell (hd.lower hb).c3) (hd.lower hb).c3
  have mixed : Tryd.prog.follows .mixedOrders = true := by kernel_rfl
  clear h hd hz hb hlab hvx hcx hpx hll hx q1 q2 q3 hv hy heb
  go_enter Tryd.func39, Tryd.ntmps39
  go_upto_region 1 with fail
  generalize hW1 : (((w.alloc (boxM mb)).alloc (boxV z A c p LA lc)).alloc (boxV y Ay cy py LAy lcy)) = W1 at HB HD HQ a3 k3 ⊢
  clear hW1
  go_quiet_grown (first | (go_at_call 59; refine Calls.grown_of (HBS.out _ (below_then HB.out (below_growN _ _)))))
  have HB2 := Lib.hid (below_growN (w := W1) nq osq)
  generalize grow (W1.drewN nq) osq = V at HB2 ⊢
  have HBV := Lib.hid (below_then HB.out HB2.out)
  obtain ⟨x0, x1, x2, x3, x4, x5⟩ := cells6 ((HB2.out.block _ (lt_of_heap HQ.out.2.1)).trans HQ.out.2.1)
  obtain ⟨y0, y1, y2, y3, y4, y5⟩ := cells6 ((HB2.out.block _ (lt_of_heap HQ.out.2.2)).trans HQ.out.2.2)
  have m0 : V.cell? ⟨w.heap.size, 0, none⟩ = some (.pointer (some ⟨mb, 0, none⟩)) := by rw [Lib.cell_of_heap ((HB2.out.block _ (lt_of_heap HQ.out.1)).trans HQ.out.1)]; rfl
  have k0 := (HD.out.lower HB2.out).c0
  have k3' := (HD.out.lower HB2.out).c3
  have HC39 := Lib.hid (show C39 mb w.heap.size (w.heap.size + 1) (w.heap.size + 1 + 1) eb eo e.d.s LA z.labels.length lc A c y LAy lcy Ay cy py V → C39 mb w.heap.size (w.heap.size + 1) (w.heap.size + 1 + 1) eb eo e.d.s LA z.labels.length lc A c y LAy lcy Ay cy py V from id)
  have hcl : Hid (z.labels.length = z.l.length → C39 mb w.heap.size (w.heap.size + 1) (w.heap.size + 1 + 1) eb eo e.d.s LA z.labels.length lc A c y LAy lcy Ay cy py V) := Lib.hid (fun q => ⟨m0, x3, by rw [q]; exact x4, k3', y0, y1, y2, y3, y4, y5⟩)
  have HAT := Lib.hid (HD.out.lower HB2.out)
  have HTP := Lib.hid (fun (k j : Nat) (wr w' : World) (hb' : Below V.heap.size V wr) (hp : Post w0 B mb (Mv mb t r v f) wr (s.putAt k j e.d.s z y) w') (n : Nat) (hc9 : C39 mb w.heap.size (w.heap.size + 1) (w.heap.size + 1 + 1) eb eo e.d.s LA n lc A c y LAy lcy Ay cy py V) => (show Post w0 B mb (Mv mb t r v f) w (s.putAt k j e.d.s z y) w' ∧ C39 mb w.heap.size (w.heap.size + 1) (w.heap.size + 1 + 1) eb eo e.d.s LA n lc A c y LAy lcy Ay cy py w' from by
    have hbw := below_then HBV.out hb'
    have hc := hc9.keep hb'
    obtain ⟨t', i', r', v', f', nx', nm', rcs', vcs', fcs', h1, h2, h3⟩ := hp
    exact ⟨Post.mono (HBM.out _ hbw).1 (HBM.out _ hbw).2 ⟨t', i', r', v', f', nx', nm', rcs', vcs', fcs', h1, h2, h3⟩, cell_tr h2 (HH.out.mvNew _ (Nat.le_refl _)) hc.1, cell_tr h2 (HH.out.mvNew _ (by omega)) hc.2.1, cell_tr h2 (HH.out.mvNew _ (by omega)) hc.2.2.1, cell_tr h2 (HH.out.mv _ HEB.out) hc.2.2.2.1, cell_tr h2 (HH.out.mvNew _ (by omega)) hc.2.2.2.2.1, cell_tr h2 (HH.out.mvNew _ (by omega)) hc.2.2.2.2.2.1, cell_tr h2 (HH.out.mvNew _ (by omega)) hc.2.2.2.2.2.2.1, cell_tr h2 (HH.out.mvNew _ (by omega)) hc.2.2.2.2.2.2.2.1, cell_tr h2 (HH.out.mvNew _ (by omega)) hc.2.2.2.2.2.2.2.2.1, cell_tr h2 (HH.out.mvNew _ (by omega)) hc.2.2.2.2.2.2.2.2.2⟩))
  clear a3 k3 k3' y0 y1 y2 y3 y4 y5 HC39
  by_cases hs : z.sort = 4
  · rw [hs] at x0
    have HLN := Lib.hid (HL.out.1 hs)
    have HC := Lib.hid (hcl.out HLN.out)
    clear hcl
    by_cases hi : isS z.labels e.d.s = decide (e.d.kind = 12)
    · have HE0 := Lib.hid (show s.put e.d.kind e.d.s z y = _ from if_pos ⟨hs, hi⟩)
      have hle := atS_le z.labels e.d.s
      have hlt := fun q => isS_lt (l := z.labels) (s := e.d.s) q
      obtain ⟨k, hk⟩ : ∃ k, atS z.labels e.d.s = k := ⟨_, rfl⟩
      rw [hk] at HE0 hle hlt ⊢
      by_cases hkd : e.d.kind = 12
      · have hi1 : isS z.labels e.d.s = true := by rw [hi]; exact decide_eq_true hkd
        have HE := Lib.hid (show s.put e.d.kind e.d.s z y = s.putAt k (k + 1) e.d.s z y from HE0.out.trans (by rw [if_pos hi1]))
        rw [hi1]
        rw [hkd] at k0
        have hkl := hlt hi1
        have n1 : (k : Int) + 1 ≤ 9223372036854775807 := by have := HL.out.2; omega
        have n2 : (0 : Int) ≤ (k : Int) + 1 := by omega
        obtain ⟨ab, ao, rfl⟩ := HZ.out.2.1.addr (by have := HLN.out; omega)
        obtain ⟨lab, lao, rfl, _⟩ := HZ.out.1.1.base (by rw [strs_length]; omega)
        have HK := Lib.hid hkl
        clear hi hi1 hkl hs hlt hle HE0
        go_upto_region 7 with fail
        have ej : (k : Int) + 1 = ((k + 1 : Nat) : Int) := rfl
        rw [ej]
        clear ej n1 n2
        refine reg39SS_any (fun _ _ _ _ _ h => h) (w0 := w0) (P := Mv mb t r v f) (Good := fun w' => Post w0 B mb (Mv mb t r v f) w (s.putAt k ((k + 1)) e.d.s z y) w') (labs := z.labels.take k ++ [e.d.s] ++ z.labels.drop ((k + 1))) (vals := z.l.take k ++ [y] ++ z.l.drop ((k + 1))) (z := y) (x := e.d.s) (n := z.labels.length) (k := k) (j := (k + 1)) (mb := mb) (b4 := w.heap.size) (b6 := w.heap.size + 1) (b7 := w.heap.size + 1 + 1) (lc := lc) (c := c) HC.out ⟨by omega, by have := HK.out; omega⟩ HZ.out.1.2.2 (by rw [HLN.out]; exact HZ.out.2.2.1) rfl rfl ?hcs ?hcv ?ht ?hk9
        case hcs =>
          intro V' g g1 hb' h2 hR
          have hj : (k + 1) ≤ z.labels.length := by have := HK.out; omega
          have hk : k ≤ z.labels.length := Nat.le_trans (by omega) hj
          have hr := HZ.out.1.1.below (below_then HBV.out hb')
          refine scat3 (fun b hbb => HH.out.mvNew b (Nat.le_trans (below_then HBV.out hb').size hbb)) (c1 := lc) (c3 := lc - ((k + 1))) (rd_takeS hr hk) h2 (rd_dropS (c := lc) hr hj HZ.out.1.2.2.1) (by rw [List.length_take, List.length_drop]; have := HL.out.2; omega) ?_
          rw [List.length_take, Nat.min_eq_left hk, List.length_drop]
          exact hR
        case hcv =>
          intro V' g g1 hb' h2 hR
          have hj : (k + 1) ≤ z.l.length := by rw [← HLN.out]; exact by have := HK.out; omega
          have hk : k ≤ z.l.length := Nat.le_trans (by omega) hj
          have hr := HZ.out.2.1.below (below_then HBV.out hb')
          refine vcat3 (fun b hbb => HH.out.mvNew b (Nat.le_trans (below_then HBV.out hb').size hbb)) (c1 := c) (c3 := c - ((k + 1))) (hr.take k hk) (HY.out.keep (Tr.below (below_then HBV.out hb'))) h2 (hr.dropD ((k + 1)) hj c HZ.out.2.2.1.1) (by rw [List.length_take, List.length_drop]; have := HL.out.2; have := HLN.out; omega) ?_
          rw [List.length_take, Nat.min_eq_left hk, List.length_drop, ← HLN.out]
          exact hR
        case ht =>
          intro V' LA' lc' A' c' hb' h1 h2
          refine (HTL.out k (k + 1) V' LA' lc' A' c' (below_then HBV.out hb') h1 h2).mono ?_
          rintro e9 w' ⟨rfl, hp⟩
          exact ⟨rfl, HTP.out k (k + 1) V' w' hb' hp _ HC.out⟩
        case hk9 =>
          intro y40 y41 y42 y43 y44 y45 y46 y47 y48 y49 y50 y51 y52 y53 y54 y55 y56 y57 y58 y59 y60 y61 y62 y63 y64 y65 y66 y67 y68 y69 y70 V' hg
          have HG := Lib.hid hg
          clear hg
          go_wp2_with fail
          go_returns
          first | rw [HE.out] | (have HE9 := HE.out; rw [hkd] at HE9; rw [HE9])
          exact ⟨rfl, HG.out⟩
      · have hi0 : isS z.labels e.d.s = false := by rw [hi]; exact decide_eq_false hkd
        have HE := Lib.hid (show s.put e.d.kind e.d.s z y = s.putAt k k e.d.s z y from HE0.out.trans (by rw [if_neg (by rw [hi0]; decide)]))
        rw [hi0]
        have f1 : (e.d.kind == 12) = false := by simpa using hkd
        have HK := Lib.hid hle
        clear hi hi0 hs hlt hle HE0
        go_upto_region 7 with fail
        by_cases hn0 : z.labels.length = 0
        · have hk0 : k = 0 := by have := HK.out; omega
          subst hk0
          have HN0 := Lib.hid hn0
          rw [hn0] at HC
          cases LA with
          | none =>
            cases A with
            | none =>
              refine reg39NN_any (fun _ _ _ _ _ h => h) (lab := 0) (lao := 0) (vab := 0) (vao := 0) (LA3 := none) (A3 := none) (la := ⟨0, 0, none⟩) (va := ⟨0, 0, none⟩) (w0 := w0) (P := Mv mb t r v f) (Good := fun w' => Post w0 B mb (Mv mb t r v f) w (s.putAt 0 0 e.d.s z y) w') (labs := z.labels.take 0 ++ [e.d.s] ++ z.labels.drop 0) (vals := z.l.take 0 ++ [y] ++ z.l.drop 0) (z := y) (x := e.d.s) (mb := mb) (b4 := w.heap.size) (b6 := w.heap.size + 1) (b7 := w.heap.size + 1 + 1) (lc := lc) (c := c) HC.out HZ.out.1.2.2.2 HZ.out.2.2.1.2 ?hcs ?hcv ?ht ?hk9
              case hcs =>
                intro V' g g1 hb' h2 hR
                have hr := HZ.out.1.1.below (below_then HBV.out hb')
                refine scat3 (A1 := none) (l1 := z.labels.take 0) (fun b hbb => HH.out.mvNew b (Nat.le_trans (below_then HBV.out hb').size hbb)) (c1 := lc) (c3 := lc) (Rd.nil _ _ _) h2 hr (by have := HL.out.2; simp; omega) ?_
                rw [List.drop_zero, HN0.out]
                exact hR
              case hcv =>
                intro V' g g1 hb' h2 hR
                have hr := HZ.out.2.1.below (below_then HBV.out hb')
                refine vcat3 (A1 := none) (l1 := z.l.take 0) (css1 := []) (fun b hbb => HH.out.mvNew b (Nat.le_trans (below_then HBV.out hb').size hbb)) (c1 := c) (c3 := c) ⟨Rd.nil _ _ _, rfl, fun i v cs e1 e2 => by simp at e2⟩ (HY.out.keep (Tr.below (below_then HBV.out hb'))) h2 hr (by have := HL.out.2; have := HLN.out; simp; omega) ?_
                rw [List.drop_zero, ← HLN.out, HN0.out]
                exact hR
              case ht =>
                intro V' LA' lc' A' c' hb' h1 h2
                refine (HTL.out 0 0 V' LA' lc' A' c' (below_then HBV.out hb') h1 h2).mono ?_
                rintro e9 w' ⟨rfl, hp⟩
                exact ⟨rfl, HTP.out 0 0 V' w' hb' hp _ HC.out⟩
              case hk9 =>
                intro y40 y41 y42 y43 y44 y45 y46 y47 y48 y49 y50 y51 y52 y53 y54 y55 y56 y57 y58 y59 y60 y61 y62 y63 y64 y65 y66 y67 y68 y69 y70 V' hg
                have HG := Lib.hid hg
                clear hg
                go_wp2_with fail
                go_returns
                first | rw [HE.out] | (have HE9 := HE.out; rw [hkd] at HE9; rw [HE9])
                exact ⟨rfl, HG.out⟩
            | some va =>
              refine reg39NT_any (fun _ _ _ _ _ h => h) (lab := 0) (lao := 0) (vab := 0) (vao := 0) (LA3 := none) (A3 := none) (la := ⟨0, 0, none⟩) (w0 := w0) (P := Mv mb t r v f) (Good := fun w' => Post w0 B mb (Mv mb t r v f) w (s.putAt 0 0 e.d.s z y) w') (labs := z.labels.take 0 ++ [e.d.s] ++ z.labels.drop 0) (vals := z.l.take 0 ++ [y] ++ z.l.drop 0) (z := y) (x := e.d.s) (mb := mb) (b4 := w.heap.size) (b6 := w.heap.size + 1) (b7 := w.heap.size + 1 + 1) (lc := lc) (c := c) HC.out HZ.out.1.2.2.2 HZ.out.2.2.1.2 ?hcs ?hcv ?ht ?hk9
              case hcs =>
                intro V' g g1 hb' h2 hR
                have hr := HZ.out.1.1.below (below_then HBV.out hb')
                refine scat3 (A1 := none) (l1 := z.labels.take 0) (fun b hbb => HH.out.mvNew b (Nat.le_trans (below_then HBV.out hb').size hbb)) (c1 := lc) (c3 := lc) (Rd.nil _ _ _) h2 hr (by have := HL.out.2; simp; omega) ?_
                rw [List.drop_zero, HN0.out]
                exact hR
              case hcv =>
                intro V' g g1 hb' h2 hR
                have hr := HZ.out.2.1.below (below_then HBV.out hb')
                refine vcat3 (A1 := some va) (l1 := z.l.take 0) (css1 := []) (fun b hbb => HH.out.mvNew b (Nat.le_trans (below_then HBV.out hb').size hbb)) (c1 := c) (c3 := c) ⟨Rd.nil _ _ _, rfl, fun i v cs e1 e2 => by simp at e2⟩ (HY.out.keep (Tr.below (below_then HBV.out hb'))) h2 hr (by have := HL.out.2; have := HLN.out; simp; omega) ?_
                rw [List.drop_zero, ← HLN.out, HN0.out]
                exact hR
              case ht =>
                intro V' LA' lc' A' c' hb' h1 h2
                refine (HTL.out 0 0 V' LA' lc' A' c' (below_then HBV.out hb') h1 h2).mono ?_
                rintro e9 w' ⟨rfl, hp⟩
                exact ⟨rfl, HTP.out 0 0 V' w' hb' hp _ HC.out⟩
              case hk9 =>
                intro y40 y41 y42 y43 y44 y45 y46 y47 y48 y49 y50 y51 y52 y53 y54 y55 y56 y57 y58 y59 y60 y61 y62 y63 y64 y65 y66 y67 y68 y69 y70 V' hg
                have HG := Lib.hid hg
                clear hg
                go_wp2_with fail
                go_returns
                first | rw [HE.out] | (have HE9 := HE.out; rw [hkd] at HE9; rw [HE9])
                exact ⟨rfl, HG.out⟩
          | some la =>
            cases A with
            | none =>
              refine reg39TN_any (fun _ _ _ _ _ h => h) (lab := 0) (lao := 0) (vab := 0) (vao := 0) (LA3 := none) (A3 := none) (va := ⟨0, 0, none⟩) (w0 := w0) (P := Mv mb t r v f) (Good := fun w' => Post w0 B mb (Mv mb t r v f) w (s.putAt 0 0 e.d.s z y) w') (labs := z.labels.take 0 ++ [e.d.s] ++ z.labels.drop 0) (vals := z.l.take 0 ++ [y] ++ z.l.drop 0) (z := y) (x := e.d.s) (mb := mb) (b4 := w.heap.size) (b6 := w.heap.size + 1) (b7 := w.heap.size + 1 + 1) (lc := lc) (c := c) HC.out HZ.out.1.2.2.2 HZ.out.2.2.1.2 ?hcs ?hcv ?ht ?hk9
              case hcs =>
                intro V' g g1 hb' h2 hR
                have hr := HZ.out.1.1.below (below_then HBV.out hb')
                refine scat3 (A1 := some la) (l1 := z.labels.take 0) (fun b hbb => HH.out.mvNew b (Nat.le_trans (below_then HBV.out hb').size hbb)) (c1 := lc) (c3 := lc) (Rd.nil _ _ _) h2 hr (by have := HL.out.2; simp; omega) ?_
                rw [List.drop_zero, HN0.out]
                exact hR
              case hcv =>
                intro V' g g1 hb' h2 hR
                have hr := HZ.out.2.1.below (below_then HBV.out hb')
                refine vcat3 (A1 := none) (l1 := z.l.take 0) (css1 := []) (fun b hbb => HH.out.mvNew b (Nat.le_trans (below_then HBV.out hb').size hbb)) (c1 := c) (c3 := c) ⟨Rd.nil _ _ _, rfl, fun i v cs e1 e2 => by simp at e2⟩ (HY.out.keep (Tr.below (below_then HBV.out hb'))) h2 hr (by have := HL.out.2; have := HLN.out; simp; omega) ?_
                rw [List.drop_zero, ← HLN.out, HN0.out]
                exact hR
              case ht =>
                intro V' LA' lc' A' c' hb' h1 h2
                refine (HTL.out 0 0 V' LA' lc' A' c' (below_then HBV.out hb') h1 h2).mono ?_
                rintro e9 w' ⟨rfl, hp⟩
                exact ⟨rfl, HTP.out 0 0 V' w' hb' hp _ HC.out⟩
              case hk9 =>
                intro y40 y41 y42 y43 y44 y45 y46 y47 y48 y49 y50 y51 y52 y53 y54 y55 y56 y57 y58 y59 y60 y61 y62 y63 y64 y65 y66 y67 y68 y69 y70 V' hg
                have HG := Lib.hid hg
                clear hg
                go_wp2_with fail
                go_returns
                first | rw [HE.out] | (have HE9 := HE.out; rw [hkd] at HE9; rw [HE9])
                exact ⟨rfl, HG.out⟩
            | some va =>
              refine reg39TT_any (fun _ _ _ _ _ h => h) (lab := 0) (lao := 0) (vab := 0) (vao := 0) (LA3 := none) (A3 := none) (w0 := w0) (P := Mv mb t r v f) (Good := fun w' => Post w0 B mb (Mv mb t r v f) w (s.putAt 0 0 e.d.s z y) w') (labs := z.labels.take 0 ++ [e.d.s] ++ z.labels.drop 0) (vals := z.l.take 0 ++ [y] ++ z.l.drop 0) (z := y) (x := e.d.s) (mb := mb) (b4 := w.heap.size) (b6 := w.heap.size + 1) (b7 := w.heap.size + 1 + 1) (lc := lc) (c := c) HC.out HZ.out.1.2.2.2 HZ.out.2.2.1.2 ?hcs ?hcv ?ht ?hk9
              case hcs =>
                intro V' g g1 hb' h2 hR
                have hr := HZ.out.1.1.below (below_then HBV.out hb')
                refine scat3 (A1 := some la) (l1 := z.labels.take 0) (fun b hbb => HH.out.mvNew b (Nat.le_trans (below_then HBV.out hb').size hbb)) (c1 := lc) (c3 := lc) (Rd.nil _ _ _) h2 hr (by have := HL.out.2; simp; omega) ?_
                rw [List.drop_zero, HN0.out]
                exact hR
              case hcv =>
                intro V' g g1 hb' h2 hR
                have hr := HZ.out.2.1.below (below_then HBV.out hb')
                refine vcat3 (A1 := some va) (l1 := z.l.take 0) (css1 := []) (fun b hbb => HH.out.mvNew b (Nat.le_trans (below_then HBV.out hb').size hbb)) (c1 := c) (c3 := c) ⟨Rd.nil _ _ _, rfl, fun i v cs e1 e2 => by simp at e2⟩ (HY.out.keep (Tr.below (below_then HBV.out hb'))) h2 hr (by have := HL.out.2; have := HLN.out; simp; omega) ?_
                rw [List.drop_zero, ← HLN.out, HN0.out]
                exact hR
              case ht =>
                intro V' LA' lc' A' c' hb' h1 h2
                refine (HTL.out 0 0 V' LA' lc' A' c' (below_then HBV.out hb') h1 h2).mono ?_
                rintro e9 w' ⟨rfl, hp⟩
                exact ⟨rfl, HTP.out 0 0 V' w' hb' hp _ HC.out⟩
              case hk9 =>
                intro y40 y41 y42 y43 y44 y45 y46 y47 y48 y49 y50 y51 y52 y53 y54 y55 y56 y57 y58 y59 y60 y61 y62 y63 y64 y65 y66 y67 y68 y69 y70 V' hg
                have HG := Lib.hid hg
                clear hg
                go_wp2_with fail
                go_returns
                first | rw [HE.out] | (have HE9 := HE.out; rw [hkd] at HE9; rw [HE9])
                exact ⟨rfl, HG.out⟩
        · obtain ⟨ab, ao, rfl⟩ := HZ.out.2.1.addr (by have := HLN.out; omega)
          obtain ⟨lab, lao, rfl, _⟩ := HZ.out.1.1.base (by rw [strs_length]; omega)
          clear hn0
          refine reg39SS_any (fun _ _ _ _ _ h => h) (w0 := w0) (P := Mv mb t r v f) (Good := fun w' => Post w0 B mb (Mv mb t r v f) w (s.putAt k (k) e.d.s z y) w') (labs := z.labels.take k ++ [e.d.s] ++ z.labels.drop (k)) (vals := z.l.take k ++ [y] ++ z.l.drop (k)) (z := y) (x := e.d.s) (n := z.labels.length) (k := k) (j := k) (mb := mb) (b4 := w.heap.size) (b6 := w.heap.size + 1) (b7 := w.heap.size + 1 + 1) (lc := lc) (c := c) HC.out ⟨Nat.le_refl _, HK.out⟩ HZ.out.1.2.2 (by rw [HLN.out]; exact HZ.out.2.2.1) rfl rfl ?hcs ?hcv ?ht ?hk9
          case hcs =>
            intro V' g g1 hb' h2 hR
            have hj : k ≤ z.labels.length := HK.out
            have hk : k ≤ z.labels.length := Nat.le_trans (Nat.le_refl _) hj
            have hr := HZ.out.1.1.below (below_then HBV.out hb')
            refine scat3 (fun b hbb => HH.out.mvNew b (Nat.le_trans (below_then HBV.out hb').size hbb)) (c1 := lc) (c3 := lc - (k)) (rd_takeS hr hk) h2 (rd_dropS (c := lc) hr hj HZ.out.1.2.2.1) (by rw [List.length_take, List.length_drop]; have := HL.out.2; omega) ?_
            rw [List.length_take, Nat.min_eq_left hk, List.length_drop]
            exact hR
          case hcv =>
            intro V' g g1 hb' h2 hR
            have hj : k ≤ z.l.length := by rw [← HLN.out]; exact HK.out
            have hk : k ≤ z.l.length := Nat.le_trans (Nat.le_refl _) hj
            have hr := HZ.out.2.1.below (below_then HBV.out hb')
            refine vcat3 (fun b hbb => HH.out.mvNew b (Nat.le_trans (below_then HBV.out hb').size hbb)) (c1 := c) (c3 := c - (k)) (hr.take k hk) (HY.out.keep (Tr.below (below_then HBV.out hb'))) h2 (hr.dropD (k) hj c HZ.out.2.2.1.1) (by rw [List.length_take, List.length_drop]; have := HL.out.2; have := HLN.out; omega) ?_
            rw [List.length_take, Nat.min_eq_left hk, List.length_drop, ← HLN.out]
            exact hR
          case ht =>
            intro V' LA' lc' A' c' hb' h1 h2
            refine (HTL.out k k V' LA' lc' A' c' (below_then HBV.out hb') h1 h2).mono ?_
            rintro e9 w' ⟨rfl, hp⟩
            exact ⟨rfl, HTP.out k k V' w' hb' hp _ HC.out⟩
          case hk9 =>
            intro y40 y41 y42 y43 y44 y45 y46 y47 y48 y49 y50 y51 y52 y53 y54 y55 y56 y57 y58 y59 y60 y61 y62 y63 y64 y65 y66 y67 y68 y69 y70 V' hg
            have HG := Lib.hid hg
            clear hg
            go_wp2_with fail
            go_returns
            first | rw [HE.out] | (have HE9 := HE.out; rw [hkd] at HE9; rw [HE9])
            exact ⟨rfl, HG.out⟩
    · have HE := Lib.hid (show s.put e.d.kind e.d.s z y = { s with err := 11 } from if_neg (fun q => hi q.2))
      have HC := Lib.hid (HS.out V HBV.out)
      clear hs
      by_cases hkd : e.d.kind = 12
      · have hi0 : isS z.labels e.d.s = false := by simpa [hkd] using hi
        rw [hi0]
        rw [hkd] at k0
        clear hi hi0
        go_wp2_with (go_at_call 20; (with_reducible refine HC.out.mono ?_); rintro e1 w2 ⟨rfl, hp⟩; have HP := Lib.hid hp; clear hp HC)
        go_returns
        first | rw [HE.out] | (have HE9 := HE.out; rw [hkd] at HE9; rw [HE9])
        exact ⟨rfl, HP.out.mono (HBM.out _ HBV.out).1 (HBM.out _ HBV.out).2⟩
      · have hi1 : isS z.labels e.d.s = true := by simpa [hkd] using hi
        rw [hi1]
        have f1 : (e.d.kind == 12) = false := by simpa using hkd
        clear hi hi1
        go_wp2_with (go_at_call 20; (with_reducible refine HC.out.mono ?_); rintro e1 w2 ⟨rfl, hp⟩; have HP := Lib.hid hp; clear hp HC)
        go_returns
        first | rw [HE.out] | (have HE9 := HE.out; rw [hkd] at HE9; rw [HE9])
        exact ⟨rfl, HP.out.mono (HBM.out _ HBV.out).1 (HBM.out _ HBV.out).2⟩
  · have f0 : (z.sort != 4) = true := by simpa using hs
    have HE := Lib.hid (show s.put e.d.kind e.d.s z y = { s with err := 11 } from if_neg (fun q => hs q.1))
    have HC := Lib.hid (HS.out V HBV.out)
    clear hs hcl
    go_wp2_with (go_at_call 20; (with_reducible refine HC.out.mono ?_); rintro e1 w2 ⟨rfl, hp⟩; have HP := Lib.hid hp; clear hp HC)
    go_returns
    first | rw [HE.out] | (have HE9 := HE.out; rw [hkd] at HE9; rw [HE9])
    exact ⟨rfl, HP.out.mono (HBM.out _ HBV.out).1 (HBM.out _ HBV.out).2⟩
end
end Go.Proofs.YtjmgnohepoacbaaDoor

namespace Go.Proofs.YtjmgnohepoacbaaDoor
open Go Go.ChangeShapes Go.WideShapes Go.ChangeAt Go.RowKit Go.Sort
set_option linter.unusedVariables false
set_option linter.unusedSimpArgs false

def q31_0 : Oper := { dst := some 55, op := Go.Op.fieldAddr 41 (Go.Operand.tmp 3) 0, type := 0, pos := "apply.go:25", after := #[], guard := none }
def q31_1 : Oper := { dst := some 56, op := Go.Op.load 38 (Go.Operand.tmp 55), type := 38, pos := "apply.go:25", after := #[{ on := 0, ground := Go.Ground.data }], guard := none }
def q31_2 : Oper := { dst := some 57, op := Go.Op.move (Go.Operand.tmp 1), type := 47, pos := "apply.go:25", after := #[], guard := none }
def q31_3 : Oper := { dst := some 58, op := Go.Op.nilCheck (Go.Operand.tmp 57), type := 0, pos := "apply.go:25", after := #[{ on := 2, ground := Go.Ground.data }], guard := none }
def q31_4 : Oper := { dst := some 59, op := Go.Op.fieldAddr 25 (Go.Operand.tmp 58) 3, type := 0, pos := "apply.go:25", after := #[{ on := 3, ground := Go.Ground.data }], guard := none }
def q31_5 : Oper := { dst := some 60, op := Go.Op.load 9 (Go.Operand.tmp 59), type := 9, pos := "apply.go:25", after := #[{ on := 4, ground := Go.Ground.data }], guard := none }
def q31_6 : Oper := { dst := some 61, op := Go.Op.move (Go.Operand.tmp 2), type := 42, pos := "apply.go:25", after := #[], guard := none }
def q31_7 : Oper := { dst := some 62, op := Go.Op.indexAddr 42 (Go.Operand.tmp 61) (Go.Operand.const (Go.Value.int Go.IntKind.i64 0)), type := 0, pos := "apply.go:25", after := #[{ on := 6, ground := Go.Ground.data }], guard := none }
def q31_8 : Oper := { dst := some 63, op := Go.Op.load 45 (Go.Operand.tmp 62), type := 45, pos := "apply.go:25", after := #[{ on := 7, ground := Go.Ground.data }], guard := none }
def q31_9 : Oper := { dst := some 64, op := Go.Op.buildSlice 42 1 #[(0, Go.Operand.tmp 63)], type := 42, pos := "apply.go:25", after := #[{ on := 8, ground := Go.Ground.data }], guard := none }
def q31_10 : Oper := { dst := some 65, op := Go.Op.build 45 #[(0, Go.Operand.const (Go.Value.int Go.IntKind.i64 5)), (2, Go.Operand.tmp 60), (4, Go.Operand.tmp 64)], type := 45, pos := "apply.go:25", after := #[{ on := 5, ground := Go.Ground.data }, { on := 9, ground := Go.Ground.data }], guard := none }
def q31_11 : Oper := { dst := some 66, op := Go.Op.call { callee := Go.Callee.value (Go.Operand.func 21), args := #[Go.Operand.tmp 56, Go.Operand.tmp 65], argTypes := #[38, 45] }, type := 0, pos := "apply.go:25", after := #[{ on := 1, ground := Go.Ground.data }, { on := 10, ground := Go.Ground.data }], guard := none }
def q31 : Array Oper := #[q31_0, q31_1, q31_2, q31_3, q31_4, q31_5, q31_6, q31_7, q31_8, q31_9, q31_10, q31_11]
def C31 (mb b3 eb eo : Nat) (x : Str) (V : World) : Prop := V.cell? ⟨b3, 0, none⟩ = some (.pointer (some ⟨mb, 0, none⟩)) ∧ V.cell? ⟨eb, eo + 3, none⟩ = some (.string (bstr x))
theorem C31.keep {mb b3 eb eo : Nat} {x : Str} {V V' : World} (h : C31 mb b3 eb eo x V) (hb : Below V.heap.size V V') : C31 mb b3 eb eo x V' := ⟨cell_below hb h.1, cell_below hb h.2⟩
def D31 (ab ao : Nat) (z : Val) (LAz : Option Addr) (lcz : Nat) (Az : Option Addr) (cz : Nat) (pz : Option Addr) (V : World) : Prop := V.cell? ⟨ab, ao, none⟩ = some (.int .i64 z.sort) ∧ V.cell? ⟨ab, ao + 1, none⟩ = some (.int .i64 z.n) ∧ V.cell? ⟨ab, ao + 2, none⟩ = some (.string (bstr z.s)) ∧ V.cell? ⟨ab, ao + 3, none⟩ = some (.slice LAz z.labels.length lcz) ∧ V.cell? ⟨ab, ao + 4, none⟩ = some (.slice Az z.l.length cz) ∧ V.cell? ⟨ab, ao + 5, none⟩ = some (.pointer pz)
theorem D31.keep {ab ao : Nat} {z : Val} {LAz : Option Addr} {lcz : Nat} {Az : Option Addr} {cz : Nat} {pz : Option Addr} {V V' : World} (h : D31 ab ao z LAz lcz Az cz pz V) (hb : Below V.heap.size V V') : D31 ab ao z LAz lcz Az cz pz V' :=
  ⟨cell_below hb h.1, cell_below hb h.2.1, cell_below hb h.2.2.1, cell_below hb h.2.2.2.1, cell_below hb h.2.2.2.2.1, cell_below hb h.2.2.2.2.2⟩
set_option maxHeartbeats 4000000 in
set_option maxRecDepth 100000 in
theorem reg31_any {Q : Exit → Act → World → Prop} (hQp : ∀ c (a : Act) (d : Tmp) v w, Q (.panic c) (a.put (some d) v) w → Q (.panic c) a w) {V : World} {Good : World → Prop} {mb b3 eb eo : Nat} {x : Str} {ab ao : Nat} {z : Val} {LAz : Option Addr} {lcz : Nat} {Az : Option Addr} {cz : Nat} {pz : Option Addr} {c : Nat}
    (hS : (C31 mb b3 eb eo x) V) (hS1 : (D31 ab ao z LAz lcz Az cz pz) V)
    (hT : ∀ V' g, Below V.heap.size V V' → V.heap.size ≤ g → Rd V' 6 (some ⟨g, 0, none⟩) 1 [.int .i64 z.sort, .int .i64 z.n, .string (bstr z.s), .slice LAz z.labels.length lcz, .slice Az z.l.length cz, .pointer pz] → Calls Tryd.prog 21 #[.pointer (some ⟨mb, 0, none⟩), .agg #[.int .i64 5, .int .i64 0, .string (bstr x), .slice none 0 0, .slice (some ⟨g, 0, none⟩) 1 1, .pointer none]] V' fun e w' => e = .returned (.tuple #[]) ∧ Good w' ∧ (C31 mb b3 eb eo x) w') {u0 u4 u5 u6 u7 u8 u9 u10 u11 u12 u13 u14 u15 u16 u17 u18 u19 u20 u21 u22 u23 u24 u25 u26 u27 u28 u29 u30 u31 u32 u33 u34 u35 u36 u37 u38 u39 u40 u41 u42 u43 u44 u45 u46 u47 u48 u49 u50 u51 u52 u53 u54 u55 u56 u57 u58 u59 u60 u61 u62 u63 u64 u65 u66 u67 u68 u69 u70 u71 u72 u73 u74 u75 u76 u77 u78 u79 u80 u81 u82 u83 u84 u85 u86 u87 u88 u89 u90 u91 u92 u93 u94 u95 u96 u97 u98 u99 u100 u101 u102 u103 u104 u105 u106 u107 u108 u109 u110 u111 u112 u113 u114 u115 u116 u117 u118 u119 u120 u121 u122 u123 u124 : Value}
    (hKK : ∀ (y55 : Value) (y56 : Value) (y57 : Value) (y58 : Value) (y59 : Value) (y60 : Value) (y61 : Value) (y62 : Value) (y63 : Value) (y64 : Value) (y65 : Value) (y66 : Value) V', Good V' → Q .normal ⟨#[u0, .pointer (some ⟨eb, eo, none⟩), .slice (some ⟨ab, ao, none⟩) 1 c, .pointer (some ⟨b3, 0, none⟩), u4, u5, u6, u7, u8, u9, u10, u11, u12, u13, u14, u15, u16, u17, u18, u19, u20, u21, u22, u23, u24, u25, u26, u27, u28, u29, u30, u31, u32, u33, u34, u35, u36, u37, u38, u39, u40, u41, u42, u43, u44, u45, u46, u47, u48, u49, u50, u51, u52, u53, u54, y55, y56, y57, y58, y59, y60, y61, y62, y63, y64, y65, y66, u67, u68, u69, u70, u71, u72, u73, u74, u75, u76, u77, u78, u79, u80, u81, u82, u83, u84, u85, u86, u87, u88, u89, u90, u91, u92, u93, u94, u95, u96, u97, u98, u99, u100, u101, u102, u103, u104, u105, u106, u107, u108, u109, u110, u111, u112, u113, u114, u115, u116, u117, u118, u119, u120, u121, u122, u123, u124], []⟩ V') :
    Code.wp Tryd.prog (.region 13 q31 true) Q ⟨#[u0, .pointer (some ⟨eb, eo, none⟩), .slice (some ⟨ab, ao, none⟩) 1 c, .pointer (some ⟨b3, 0, none⟩), u4, u5, u6, u7, u8, u9, u10, u11, u12, u13, u14, u15, u16, u17, u18, u19, u20, u21, u22, u23, u24, u25, u26, u27, u28, u29, u30, u31, u32, u33, u34, u35, u36, u37, u38, u39, u40, u41, u42, u43, u44, u45, u46, u47, u48, u49, u50, u51, u52, u53, u54, u55, u56, u57, u58, u59, u60, u61, u62, u63, u64, u65, u66, u67, u68, u69, u70, u71, u72, u73, u74, u75, u76, u77, u78, u79, u80, u81, u82, u83, u84, u85, u86, u87, u88, u89, u90, u91, u92, u93, u94, u95, u96, u97, u98, u99, u100, u101, u102, u103, u104, u105, u106, u107, u108, u109, u110, u111, u112, u113, u114, u115, u116, u117, u118, u119, u120, u121, u122, u123, u124], []⟩ V := by
  have eT : ∀ args w, (callFunc 21 args).run Tryd.prog w = .ok (.enter 21 args) w := enters_of Tryd.func21 (by kernel_rfl) rfl
  have HTELL := Lib.hid hT
  have hKK := Lib.hid hKK
  have HB0 := Lib.hid (Below.drew (Below.refl V.heap.size V))
  have HS0 := Lib.hid (hS.keep HB0.out)
  have HT0 := Lib.hid (hS1.keep HB0.out)
  clear hS hS1 hT
  refine wp_region_C (S1 := (D31 ab ao z LAz lcz Az cz pz)) (S2 := (C31 mb b3 eb eo x)) (ss := [9]) (by kernel_rfl) ?_
  generalize V.drew = W9 at HB0 HS0 HT0 ⊢
  refine wpAnyC_takeY (i := 0) (oi := q31_0) (v := ?vx1_32059) (by kernel_rfl) (by kernel_rfl) (by kernel_rfl) (by kernel_rfl) ⟨HS0.out, fun _ => HT0.out⟩ rfl (fun c a w h => hQp c a _ _ w h) rfl ?hyx1_32059 ?restx1_32059
  case hyx1_32059 => intro W hSw; obtain ⟨s0, s1⟩ := hSw; unfold q31_0; go_simp; try with_reducible rfl
  try simp only [q31_0, Act.put, List.setIfInBounds_toArray, List.set_cons_zero, List.set_cons_succ]
  refine wpAnyC_takeY (i := 1) (oi := q31_1) (v := ?vx2_32059) (by kernel_rfl) (by kernel_rfl) (by kernel_rfl) (by kernel_rfl) ⟨HS0.out, fun _ => HT0.out⟩ rfl (fun c a w h => hQp c a _ _ w h) rfl ?hyx2_32059 ?restx2_32059
  case hyx2_32059 => intro W hSw; obtain ⟨s0, s1⟩ := hSw; unfold q31_1; go_simp; try with_reducible rfl
  try simp only [q31_1, Act.put, List.setIfInBounds_toArray, List.set_cons_zero, List.set_cons_succ]
  refine wpAnyC_takeY (i := 2) (oi := q31_2) (v := ?vx3_32059) (by kernel_rfl) (by kernel_rfl) (by kernel_rfl) (by kernel_rfl) ⟨HS0.out, fun _ => HT0.out⟩ rfl (fun c a w h => hQp c a _ _ w h) rfl ?hyx3_32059 ?restx3_32059
  case hyx3_32059 => intro W hSw; obtain ⟨s0, s1⟩ := hSw; unfold q31_2; go_simp; try with_reducible rfl
  try simp only [q31_2, Act.put, List.setIfInBounds_toArray, List.set_cons_zero, List.set_cons_succ]
  refine wpAnyC_takeY (i := 3) (oi := q31_3) (v := ?vx4_32059) (by kernel_rfl) (by kernel_rfl) (by kernel_rfl) (by kernel_rfl) ⟨HS0.out, fun _ => HT0.out⟩ rfl (fun c a w h => hQp c a _ _ w h) rfl ?hyx4_32059 ?restx4_32059
  case hyx4_32059 => intro W hSw; obtain ⟨s0, s1⟩ := hSw; unfold q31_3; go_simp; try with_reducible rfl
  try simp only [q31_3, Act.put, List.setIfInBounds_toArray, List.set_cons_zero, List.set_cons_succ]
  refine wpAnyC_takeY (i := 4) (oi := q31_4) (v := ?vx5_32059) (by kernel_rfl) (by kernel_rfl) (by kernel_rfl) (by kernel_rfl) ⟨HS0.out, fun _ => HT0.out⟩ rfl (fun c a w h => hQp c a _ _ w h) rfl ?hyx5_32059 ?restx5_32059
  case hyx5_32059 => intro W hSw; obtain ⟨s0, s1⟩ := hSw; unfold q31_4; go_simp; try with_reducible rfl
  try simp only [q31_4, Act.put, List.setIfInBounds_toArray, List.set_cons_zero, List.set_cons_succ]
  refine wpAnyC_takeY (i := 5) (oi := q31_5) (v := ?vx6_32059) (by kernel_rfl) (by kernel_rfl) (by kernel_rfl) (by kernel_rfl) ⟨HS0.out, fun _ => HT0.out⟩ rfl (fun c a w h => hQp c a _ _ w h) rfl ?hyx6_32059 ?restx6_32059
  case hyx6_32059 => intro W hSw; obtain ⟨s0, s1⟩ := hSw; unfold q31_5; go_simp; try with_reducible rfl
  try simp only [q31_5, Act.put, List.setIfInBounds_toArray, List.set_cons_zero, List.set_cons_succ]
  refine wpAnyC_takeY (i := 6) (oi := q31_6) (v := ?vx7_32059) (by kernel_rfl) (by kernel_rfl) (by kernel_rfl) (by kernel_rfl) ⟨HS0.out, fun _ => HT0.out⟩ rfl (fun c a w h => hQp c a _ _ w h) rfl ?hyx7_32059 ?restx7_32059
  case hyx7_32059 => intro W hSw; obtain ⟨s0, s1⟩ := hSw; unfold q31_6; go_simp; try with_reducible rfl
  try simp only [q31_6, Act.put, List.setIfInBounds_toArray, List.set_cons_zero, List.set_cons_succ]
  refine wpAnyC_takeY (i := 7) (oi := q31_7) (v := ?vx8_32059) (by kernel_rfl) (by kernel_rfl) (by kernel_rfl) (by kernel_rfl) ⟨HS0.out, fun _ => HT0.out⟩ rfl (fun c a w h => hQp c a _ _ w h) rfl ?hyx8_32059 ?restx8_32059
  case hyx8_32059 => intro W hSw; obtain ⟨s0, s1⟩ := hSw; unfold q31_7; go_simp; try with_reducible rfl
  try simp only [q31_7, Act.put, List.setIfInBounds_toArray, List.set_cons_zero, List.set_cons_succ]
  refine wpAnyC_take1Y (i := 8) (oi := q31_8) (v := ?vx9_32059) (by kernel_rfl) (by kernel_rfl) (by kernel_rfl) (by kernel_rfl) (by kernel_rfl) (by kernel_rfl) ⟨HS0.out, HT0.out⟩ rfl (fun c a w h => hQp c a _ _ w h) rfl ?hyx9_32059 ?restx9_32059
  case hyx9_32059 => intro W hSw; obtain ⟨⟨s0, s1⟩, s2, s3, s4, s5, s6, s7⟩ := hSw; unfold q31_8; go_simp; try with_reducible rfl
  try simp only [q31_8, Act.put, List.setIfInBounds_toArray, List.set_cons_zero, List.set_cons_succ]
  refine wpAnyC_one (i := 9) (o := q31_9) (by kernel_rfl) rfl ?_
  intro K1 hK1
  have HK1 := Lib.hid hK1
  clear hK1
  unfold q31_9
  refine step_eq rfl (v := .slice (some ⟨W9.heap.size, 0, none⟩) 1 1) (w' := W9.alloc (.cells #[.int .i64 z.sort, .int .i64 z.n, .string (bstr z.s), .slice LAz z.labels.length lcz, .slice Az z.l.length cz, .pointer pz] 45)) ?hrl10_32059 ?hnl10_32059
  case hrl10_32059 => go_simp; try with_reducible rfl
  have HA1 := Lib.hid (show Below W9.heap.size W9 (W9.alloc (.cells #[.int .i64 z.sort, .int .i64 z.n, .string (bstr z.s), .slice LAz z.labels.length lcz, .slice Az z.l.length cz, .pointer pz] 45)) from (Below.refl _ _).alloc (Nat.le_refl _) _)
  have HB1 := Lib.hid (below_then HB0.out HA1.out)
  have HS1 := Lib.hid (HS0.out.keep HA1.out)
  have HR9_1 := Lib.hid (show Rd (W9.alloc (.cells #[.int .i64 z.sort, .int .i64 z.n, .string (bstr z.s), .slice LAz z.labels.length lcz, .slice Az z.l.length cz, .pointer pz] 45)) 6 (some ⟨W9.heap.size, 0, none⟩) 1 [.int .i64 z.sort, .int .i64 z.n, .string (bstr z.s), .slice LAz z.labels.length lcz, .slice Az z.l.length cz, .pointer pz] from Rd.lit (size := 6) (n := 1) W9 #[.int .i64 z.sort, .int .i64 z.n, .string (bstr z.s), .slice LAz z.labels.length lcz, .slice Az z.l.length cz, .pointer pz] _ rfl (fr := (0, 0)))
  refine HK1.out _ _ HS1.out (clo_no (by kernel_rfl)) ?_
  clear HK1 K1
  generalize W9.alloc (.cells #[.int .i64 z.sort, .int .i64 z.n, .string (bstr z.s), .slice LAz z.labels.length lcz, .slice Az z.l.length cz, .pointer pz] 45) = V1 at HB1 HS1 HR9_1 HA1 ⊢
  try simp only [Act.put, List.setIfInBounds_toArray, List.set_cons_zero, List.set_cons_succ]
  refine wpAnyC_takeY (i := 10) (oi := q31_10) (v := ?vx11_32059) (by kernel_rfl) (by kernel_rfl) (by kernel_rfl) (by kernel_rfl) ⟨HS1.out, clo_no (by kernel_rfl)⟩ rfl (fun c a w h => hQp c a _ _ w h) rfl ?hyx11_32059 ?restx11_32059
  case hyx11_32059 => intro W hSw; obtain ⟨s0, s1⟩ := hSw; unfold q31_10; go_simp; try with_reducible rfl
  try simp only [q31_10, Act.put, List.setIfInBounds_toArray, List.set_cons_zero, List.set_cons_succ]
  refine wpAnyC_one (i := 11) (o := q31_11) (by kernel_rfl) rfl ?_
  intro K2 hK2
  have HK2 := Lib.hid hK2
  clear hK2
  unfold q31_11
  refine step_call (F := 21) (args := ?arc99_32059) rfl ?hrc99_32059 ?hcc99_32059
  case hrc99_32059 => go_simp; try with_reducible rfl
  refine (HTELL.out _ _ HB1.out HB0.out.size HR9_1.out).mono ?_
  rintro e2 V2 ⟨rfl, hg, hs⟩
  have HG := Lib.hid hg
  have HS2 := Lib.hid hs
  clear hg hs
  refine ⟨_, rfl, ?_⟩
  refine HK2.out _ _ HS2.out (clo_no (by kernel_rfl)) ?_
  clear HK2 K2
  try simp only [Act.put, List.setIfInBounds_toArray, List.set_cons_zero, List.set_cons_succ]
  exact wpAnyC_done (by kernel_rfl) (hKK.out _ _ _ _ _ _ _ _ _ _ _ _ _ HG.out) _
end Go.Proofs.YtjmgnohepoacbaaDoor

namespace Go.Proofs.YtjmgnohepoacbaaDoor
open Go Go.ChangeShapes Go.WideShapes Go.ChangeAt Go.RowKit Go.Sort
set_option linter.unusedVariables false
set_option linter.unusedSimpArgs false

section
variable {w0 w : World} {B mb : Nat} {s : St} {t i r v f nx nm : Value} {rcs vcs fcs : List (List Value)}
set_option maxHeartbeats 8000000 in
set_option maxRecDepth 100000 in
theorem applySel_any (h : Rep w0 B mb s w t i r v f nx nm rcs vcs fcs) (hv : s.vals.length ≤ 100000000000) (e : Ex) (eb eo : Nat) (hd : e.d.At w eb eo) (x : Val) (css : List (List Value)) (ab ao c : Nat) (hl : Vs w0 w (Mv mb t r v f) [x] (some ⟨ab, ao, none⟩) css) (hkd : e.d.kind = 9) (hll : x.sort = 4 → x.labels.length = x.l.length) (hx : x.labels.length ≤ 90000000000) :
    Calls Tryd.prog 31 #[.agg #[.pointer (some ⟨mb, 0, none⟩)], .pointer (some ⟨eb, eo, none⟩), .slice (some ⟨ab, ao, none⟩) 1 c] w fun e1 w' => e1 = .returned (.tuple #[]) ∧ Post w0 B mb (Mv mb t r v f) w (s.take e.d.kind e.d.s x) w' := by
  have hb : Below w.heap.size w (w.alloc (.cells #[.pointer (some ⟨mb, 0, none⟩)] 41)) := (Below.refl _ _).alloc (Nat.le_refl _) _
  obtain ⟨A0, kc0, p0, LA0, lkc0, hz0, g00, g01, g02, g03, g04, g05⟩ := (hl.below hb).six 0 (z := x) rfl ao (ao + 1) (ao + 2) (ao + 3) (ao + 4) (ao + 5) ⟨by omega, by omega, by omega, by omega, by omega, by omega⟩
  have HC := Lib.hid (fun (wr : World) (hb' : Below (w.alloc (.cells #[.pointer (some ⟨mb, 0, none⟩)] 41)).heap.size (w.alloc (.cells #[.pointer (some ⟨mb, 0, none⟩)] 41)) wr) => take_any ((h.below hb).below hb') hv e eb eo ((hd.lower hb).lower hb') x A0 kc0 p0 LA0 lkc0 (hz0.keep (Tr.below hb')) hll hx (.inl hkd))
  have c0 : (w.alloc (.cells #[.pointer (some ⟨mb, 0, none⟩)] 41)).cell? ⟨w.heap.size, 0, none⟩ = some (.pointer (some ⟨mb, 0, none⟩)) := (by rw [Lib.cell_of_heap (heap_new (w := w) (o := (.cells #[.pointer (some ⟨mb, 0, none⟩)] 41)) rfl)]; rfl)
  have k0 := (hd.lower hb).c0
  rw [hkd] at k0
  have HB := Lib.hid hb
  have HBM := Lib.hid (fun (wr : World) (hb : Below w.heap.size w wr) => And.intro (Tr.below (P := Mv mb t r v f) hb) (hb.mono (Nat.le_of_lt (Nat.lt_of_le_of_lt h.base.2 h.lt))))
  clear h hb hd hv hl hz0 hll hx
  go_enter Tryd.func31, Tryd.ntmps31
  go_upto_region 8 with fail
  go_region_law (go_simp; go_at_call 38; (with_reducible refine (HC.out _ (below_drew1 _)).mono ?_); rintro e1 w2 ⟨rfl, hp⟩; have HP := Lib.hid hp; clear hp)
  all_goals
    go_wp2_with fail
    go_returns
    with_reducible exact ⟨rfl, HP.out.mono (HBM.out _ (Below.drew HB.out)).1 (HBM.out _ (Below.drew HB.out)).2⟩
set_option maxHeartbeats 8000000 in
set_option maxRecDepth 100000 in
theorem applyCut_any (h : Rep w0 B mb s w t i r v f nx nm rcs vcs fcs) (hv : s.vals.length ≤ 100000000000) (e : Ex) (eb eo : Nat) (hd : e.d.At w eb eo) (x : Val) (css : List (List Value)) (ab ao c : Nat) (hl : Vs w0 w (Mv mb t r v f) [x] (some ⟨ab, ao, none⟩) css) (hkd : e.d.kind = 11) (hll : x.sort = 4 → x.labels.length = x.l.length) (hx : x.labels.length ≤ 90000000000) :
    Calls Tryd.prog 31 #[.agg #[.pointer (some ⟨mb, 0, none⟩)], .pointer (some ⟨eb, eo, none⟩), .slice (some ⟨ab, ao, none⟩) 1 c] w fun e1 w' => e1 = .returned (.tuple #[]) ∧ Post w0 B mb (Mv mb t r v f) w (s.take e.d.kind e.d.s x) w' := by
  have hb : Below w.heap.size w (w.alloc (.cells #[.pointer (some ⟨mb, 0, none⟩)] 41)) := (Below.refl _ _).alloc (Nat.le_refl _) _
  obtain ⟨A0, kc0, p0, LA0, lkc0, hz0, g00, g01, g02, g03, g04, g05⟩ := (hl.below hb).six 0 (z := x) rfl ao (ao + 1) (ao + 2) (ao + 3) (ao + 4) (ao + 5) ⟨by omega, by omega, by omega, by omega, by omega, by omega⟩
  have HC := Lib.hid (fun (wr : World) (hb' : Below (w.alloc (.cells #[.pointer (some ⟨mb, 0, none⟩)] 41)).heap.size (w.alloc (.cells #[.pointer (some ⟨mb, 0, none⟩)] 41)) wr) => take_any ((h.below hb).below hb') hv e eb eo ((hd.lower hb).lower hb') x A0 kc0 p0 LA0 lkc0 (hz0.keep (Tr.below hb')) hll hx (.inr hkd))
  have c0 : (w.alloc (.cells #[.pointer (some ⟨mb, 0, none⟩)] 41)).cell? ⟨w.heap.size, 0, none⟩ = some (.pointer (some ⟨mb, 0, none⟩)) := (by rw [Lib.cell_of_heap (heap_new (w := w) (o := (.cells #[.pointer (some ⟨mb, 0, none⟩)] 41)) rfl)]; rfl)
  have k0 := (hd.lower hb).c0
  rw [hkd] at k0
  have HB := Lib.hid hb
  have HBM := Lib.hid (fun (wr : World) (hb : Below w.heap.size w wr) => And.intro (Tr.below (P := Mv mb t r v f) hb) (hb.mono (Nat.le_of_lt (Nat.lt_of_le_of_lt h.base.2 h.lt))))
  clear h hb hd hv hl hz0 hll hx
  go_enter Tryd.func31, Tryd.ntmps31
  go_upto_region 8 with fail
  go_region_law (go_simp; go_at_call 38; (with_reducible refine (HC.out _ (below_drew1 _)).mono ?_); rintro e1 w2 ⟨rfl, hp⟩; have HP := Lib.hid hp; clear hp)
  all_goals
    go_wp2_with fail
    go_returns
    with_reducible exact ⟨rfl, HP.out.mono (HBM.out _ (Below.drew HB.out)).1 (HBM.out _ (Below.drew HB.out)).2⟩
set_option maxHeartbeats 8000000 in
set_option maxRecDepth 100000 in
theorem applyExt_any (h : Rep w0 B mb s w t i r v f nx nm rcs vcs fcs) (hv : s.vals.length ≤ 100000000000) (e : Ex) (eb eo : Nat) (hd : e.d.At w eb eo) (x y : Val) (css : List (List Value)) (ab ao c : Nat) (hl : Vs w0 w (Mv mb t r v f) [x, y] (some ⟨ab, ao, none⟩) css) (hkd : e.d.kind = 10) (heb : eb < B) (hll : y.sort = 4 → y.labels.length = y.l.length) (hx : y.labels.length ≤ 90000000000) :
    Calls Tryd.prog 31 #[.agg #[.pointer (some ⟨mb, 0, none⟩)], .pointer (some ⟨eb, eo, none⟩), .slice (some ⟨ab, ao, none⟩) 2 c] w fun e1 w' => e1 = .returned (.tuple #[]) ∧ Post w0 B mb (Mv mb t r v f) w (s.put e.d.kind e.d.s y x) w' := by
  have hb : Below w.heap.size w (w.alloc (.cells #[.pointer (some ⟨mb, 0, none⟩)] 41)) := (Below.refl _ _).alloc (Nat.le_refl _) _
  obtain ⟨A0, kc0, p0, LA0, lkc0, hz0, g00, g01, g02, g03, g04, g05⟩ := (hl.below hb).six 0 (z := x) rfl ao (ao + 1) (ao + 2) (ao + 3) (ao + 4) (ao + 5) ⟨by omega, by omega, by omega, by omega, by omega, by omega⟩
  obtain ⟨A1, kc1, p1, LA1, lkc1, hz1, g10, g11, g12, g13, g14, g15⟩ := (hl.below hb).six 1 (z := y) rfl (ao + 6) (ao + 7) (ao + 8) (ao + 9) (ao + 10) (ao + 11) ⟨by omega, by omega, by omega, by omega, by omega, by omega⟩
  have HC := Lib.hid (fun (wr : World) (hb' : Below (w.alloc (.cells #[.pointer (some ⟨mb, 0, none⟩)] 41)).heap.size (w.alloc (.cells #[.pointer (some ⟨mb, 0, none⟩)] 41)) wr) => put_any ((h.below hb).below hb') hv e eb eo ((hd.lower hb).lower hb') heb y A1 kc1 p1 LA1 lkc1 (hz1.keep (Tr.below hb')) hll hx x A0 kc0 p0 LA0 lkc0 (hz0.keep (Tr.below hb')))
  have c0 : (w.alloc (.cells #[.pointer (some ⟨mb, 0, none⟩)] 41)).cell? ⟨w.heap.size, 0, none⟩ = some (.pointer (some ⟨mb, 0, none⟩)) := (by rw [Lib.cell_of_heap (heap_new (w := w) (o := (.cells #[.pointer (some ⟨mb, 0, none⟩)] 41)) rfl)]; rfl)
  have k0 := (hd.lower hb).c0
  rw [hkd] at k0
  have HB := Lib.hid hb
  have HBM := Lib.hid (fun (wr : World) (hb : Below w.heap.size w wr) => And.intro (Tr.below (P := Mv mb t r v f) hb) (hb.mono (Nat.le_of_lt (Nat.lt_of_le_of_lt h.base.2 h.lt))))
  clear h hb hd hv hl hz0 hz1 heb hll hx
  go_enter Tryd.func31, Tryd.ntmps31
  go_upto_region 11 with fail
  go_region_law (go_simp; go_at_call 39; (with_reducible refine (HC.out _ (below_drew1 _)).mono ?_); rintro e1 w2 ⟨rfl, hp⟩; have HP := Lib.hid hp; clear hp)
  all_goals
    go_wp2_with fail
    go_returns
    with_reducible exact ⟨rfl, HP.out.mono (HBM.out _ (Below.drew HB.out)).1 (HBM.out _ (Below.drew HB.out)).2⟩
set_option maxHeartbeats 8000000 in
set_option maxRecDepth 100000 in
theorem applyUpd_any (h : Rep w0 B mb s w t i r v f nx nm rcs vcs fcs) (hv : s.vals.length ≤ 100000000000) (e : Ex) (eb eo : Nat) (hd : e.d.At w eb eo) (x y : Val) (css : List (List Value)) (ab ao c : Nat) (hl : Vs w0 w (Mv mb t r v f) [x, y] (some ⟨ab, ao, none⟩) css) (hkd : e.d.kind = 12) (heb : eb < B) (hll : y.sort = 4 → y.labels.length = y.l.length) (hx : y.labels.length ≤ 90000000000) :
    Calls Tryd.prog 31 #[.agg #[.pointer (some ⟨mb, 0, none⟩)], .pointer (some ⟨eb, eo, none⟩), .slice (some ⟨ab, ao, none⟩) 2 c] w fun e1 w' => e1 = .returned (.tuple #[]) ∧ Post w0 B mb (Mv mb t r v f) w (s.put e.d.kind e.d.s y x) w' := by
  have hb : Below w.heap.size w (w.alloc (.cells #[.pointer (some ⟨mb, 0, none⟩)] 41)) := (Below.refl _ _).alloc (Nat.le_refl _) _
  obtain ⟨A0, kc0, p0, LA0, lkc0, hz0, g00, g01, g02, g03, g04, g05⟩ := (hl.below hb).six 0 (z := x) rfl ao (ao + 1) (ao + 2) (ao + 3) (ao + 4) (ao + 5) ⟨by omega, by omega, by omega, by omega, by omega, by omega⟩
  obtain ⟨A1, kc1, p1, LA1, lkc1, hz1, g10, g11, g12, g13, g14, g15⟩ := (hl.below hb).six 1 (z := y) rfl (ao + 6) (ao + 7) (ao + 8) (ao + 9) (ao + 10) (ao + 11) ⟨by omega, by omega, by omega, by omega, by omega, by omega⟩
  have HC := Lib.hid (fun (wr : World) (hb' : Below (w.alloc (.cells #[.pointer (some ⟨mb, 0, none⟩)] 41)).heap.size (w.alloc (.cells #[.pointer (some ⟨mb, 0, none⟩)] 41)) wr) => put_any ((h.below hb).below hb') hv e eb eo ((hd.lower hb).lower hb') heb y A1 kc1 p1 LA1 lkc1 (hz1.keep (Tr.below hb')) hll hx x A0 kc0 p0 LA0 lkc0 (hz0.keep (Tr.below hb')))
  have c0 : (w.alloc (.cells #[.pointer (some ⟨mb, 0, none⟩)] 41)).cell? ⟨w.heap.size, 0, none⟩ = some (.pointer (some ⟨mb, 0, none⟩)) := (by rw [Lib.cell_of_heap (heap_new (w := w) (o := (.cells #[.pointer (some ⟨mb, 0, none⟩)] 41)) rfl)]; rfl)
  have k0 := (hd.lower hb).c0
  rw [hkd] at k0
  have HB := Lib.hid hb
  have HBM := Lib.hid (fun (wr : World) (hb : Below w.heap.size w wr) => And.intro (Tr.below (P := Mv mb t r v f) hb) (hb.mono (Nat.le_of_lt (Nat.lt_of_le_of_lt h.base.2 h.lt))))
  clear h hb hd hv hl hz0 hz1 heb hll hx
  go_enter Tryd.func31, Tryd.ntmps31
  go_upto_region 11 with fail
  go_region_law (go_simp; go_at_call 39; (with_reducible refine (HC.out _ (below_drew1 _)).mono ?_); rintro e1 w2 ⟨rfl, hp⟩; have HP := Lib.hid hp; clear hp)
  all_goals
    go_wp2_with fail
    go_returns
    with_reducible exact ⟨rfl, HP.out.mono (HBM.out _ (Below.drew HB.out)).1 (HBM.out _ (Below.drew HB.out)).2⟩
set_option maxHeartbeats 8000000 in
set_option maxRecDepth 100000 in
theorem applyShow_any (h : Rep w0 B mb s w t i r v f nx nm rcs vcs fcs) (hv : s.vals.length ≤ 100000000000) (hT : Tab w) (e : Ex) (eb eo : Nat) (hd : e.d.At w eb eo) (x : Val) (css : List (List Value)) (ab ao c : Nat) (hl : Vs w0 w (Mv mb t r v f) [x] (some ⟨ab, ao, none⟩) css) (hkd : e.d.kind = 21) (hn : -9223372036854775808 ≤ x.n ∧ x.n ≤ 9223372036854775807) :
    Calls Tryd.prog 31 #[.agg #[.pointer (some ⟨mb, 0, none⟩)], .pointer (some ⟨eb, eo, none⟩), .slice (some ⟨ab, ao, none⟩) 1 c] w fun e1 w' => e1 = .returned (.tuple #[]) ∧ Post w0 B mb (Mv mb t r v f) w (s.shw x) w' := by
  have hb : Below w.heap.size w (w.alloc (.cells #[.pointer (some ⟨mb, 0, none⟩)] 41)) := (Below.refl _ _).alloc (Nat.le_refl _) _
  obtain ⟨A0, kc0, p0, LA0, lkc0, hz0, g00, g01, g02, g03, g04, g05⟩ := (hl.below hb).six 0 (z := x) rfl ao (ao + 1) (ao + 2) (ao + 3) (ao + 4) (ao + 5) ⟨by omega, by omega, by omega, by omega, by omega, by omega⟩
  have HC := Lib.hid (fun (wr : World) (hb' : Below (w.alloc (.cells #[.pointer (some ⟨mb, 0, none⟩)] 41)).heap.size (w.alloc (.cells #[.pointer (some ⟨mb, 0, none⟩)] 41)) wr) => show_any ((h.below hb).below hb') hv (tab_below (tab_below hT hb) hb') x A0 kc0 p0 LA0 lkc0 hn)
  have c0 : (w.alloc (.cells #[.pointer (some ⟨mb, 0, none⟩)] 41)).cell? ⟨w.heap.size, 0, none⟩ = some (.pointer (some ⟨mb, 0, none⟩)) := (by rw [Lib.cell_of_heap (heap_new (w := w) (o := (.cells #[.pointer (some ⟨mb, 0, none⟩)] 41)) rfl)]; rfl)
  have k0 := (hd.lower hb).c0
  rw [hkd] at k0
  have HB := Lib.hid hb
  have HBM := Lib.hid (fun (wr : World) (hb : Below w.heap.size w wr) => And.intro (Tr.below (P := Mv mb t r v f) hb) (hb.mono (Nat.le_of_lt (Nat.lt_of_le_of_lt h.base.2 h.lt))))
  clear h hb hd hv hl hz0 hT hn
  go_enter Tryd.func31, Tryd.ntmps31
  go_upto_region 25 with fail
  go_region_law (go_simp; go_at_call 45; (with_reducible refine (HC.out _ (below_drew1 _)).mono ?_); rintro e1 w2 ⟨rfl, hp⟩; have HP := Lib.hid hp; clear hp)
  all_goals
    go_wp2_with fail
    go_returns
    with_reducible exact ⟨rfl, HP.out.mono (HBM.out _ (Below.drew HB.out)).1 (HBM.out _ (Below.drew HB.out)).2⟩
end
end Go.Proofs.YtjmgnohepoacbaaDoor

namespace Go.Proofs.YtjmgnohepoacbaaDoor
open Go Go.ChangeShapes Go.WideShapes Go.ChangeAt Go.RowKit Go.Sort
set_option linter.unusedVariables false
set_option linter.unusedSimpArgs false

section
variable {w0 w : World} {B mb : Nat} {s : St} {t i r v f nx nm : Value} {rcs vcs fcs : List (List Value)}
set_option maxHeartbeats 8000000 in
set_option maxRecDepth 100000 in
theorem applyTag_any (h : Rep w0 B mb s w t i r v f nx nm rcs vcs fcs) (hv : s.vals.length ≤ 100000000000) (e : Ex) (eb eo : Nat) (hd : e.d.At w eb eo) (x : Val) (css : List (List Value)) (ab ao c : Nat) (hl : Vs w0 w (Mv mb t r v f) [x] (some ⟨ab, ao, none⟩) css) (hkd : e.d.kind = 13) (heb : eb < B) :
    Calls Tryd.prog 31 #[.agg #[.pointer (some ⟨mb, 0, none⟩)], .pointer (some ⟨eb, eo, none⟩), .slice (some ⟨ab, ao, none⟩) 1 c] w fun e1 w' => e1 = .returned (.tuple #[]) ∧ Post w0 B mb (Mv mb t r v f) w ({ s with vals := s.vals ++ [.mk 5 0 e.d.s [] [x] none] }) w' := by
  have hb : Below w.heap.size w (w.alloc (.cells #[.pointer (some ⟨mb, 0, none⟩)] 41)) := (Below.refl _ _).alloc (Nat.le_refl _) _
  obtain ⟨A0, kc0, p0, LA0, lkc0, hz0, g00, g01, g02, g03, g04, g05⟩ := (hl.below hb).six 0 (z := x) rfl ao (ao + 1) (ao + 2) (ao + 3) (ao + 4) (ao + 5) ⟨by omega, by omega, by omega, by omega, by omega, by omega⟩
  have c0 : (w.alloc (.cells #[.pointer (some ⟨mb, 0, none⟩)] 41)).cell? ⟨w.heap.size, 0, none⟩ = some (.pointer (some ⟨mb, 0, none⟩)) := (by rw [Lib.cell_of_heap (heap_new (w := w) (o := (.cells #[.pointer (some ⟨mb, 0, none⟩)] 41)) rfl)]; rfl)
  have k0 := (hd.lower hb).c0
  have k3 := (hd.lower hb).c3
  rw [hkd] at k0
  have HB := Lib.hid hb
  have HBM := Lib.hid (fun (wr : World) (hb : Below w.heap.size w wr) => And.intro (Tr.below (P := Mv mb t r v f) hb) (hb.mono (Nat.le_of_lt (Nat.lt_of_le_of_lt h.base.2 h.lt))))
  have HC := Lib.hid (show C31 mb w.heap.size eb eo e.d.s (w.alloc (.cells #[.pointer (some ⟨mb, 0, none⟩)] 41)) from ⟨c0, k3⟩)
  have HC1 := Lib.hid (show D31 ab ao x LA0 lkc0 A0 kc0 p0 (w.alloc (.cells #[.pointer (some ⟨mb, 0, none⟩)] 41)) from ⟨g00, g01, g02, g03, g04, g05⟩)
  have HT := Lib.hid (fun (V' : World) (g : Nat) (hb' : Below (w.alloc (.cells #[.pointer (some ⟨mb, 0, none⟩)] 41)).heap.size (w.alloc (.cells #[.pointer (some ⟨mb, 0, none⟩)] 41)) V') (hg : (w.alloc (.cells #[.pointer (some ⟨mb, 0, none⟩)] 41)).heap.size ≤ g) (hR : Rd V' 6 (some ⟨g, 0, none⟩) 1 [.int .i64 x.sort, .int .i64 x.n, .string (bstr x.s), .slice LA0 x.labels.length lkc0, .slice A0 x.l.length kc0, .pointer p0]) => (show Calls Tryd.prog 21 #[.pointer (some ⟨mb, 0, none⟩), .agg #[.int .i64 5, .int .i64 0, .string (bstr e.d.s), .slice none 0 0, .slice (some ⟨g, 0, none⟩) 1 1, .pointer none]] V' fun e1 w' => e1 = .returned (.tuple #[]) ∧ Post w0 B mb (Mv mb t r v f) w { s with vals := s.vals ++ [.mk 5 0 e.d.s [] [x] none] } w' ∧ C31 mb w.heap.size eb eo e.d.s w' from by
    have hb2 := below_then hb hb'
    have hgw : w.heap.size ≤ g := Nat.le_trans hb.size hg
    have hv1 : Vs w0 V' (Mv mb t r v f) [x] (some ⟨g, 0, none⟩) [[.int .i64 x.sort, .int .i64 x.n, .string (bstr x.s), .slice LA0 x.labels.length lkc0, .slice A0 x.l.length kc0, .pointer p0]] := ⟨by simpa using hR, ⟨rfl, fun i v cs e1 e2 => by
      cases i with
      | zero => simp only [List.getElem?_cons_zero, Option.some.injEq] at e1 e2; subst e1; subst e2; exact hz0.keep (Tr.below hb')
      | succ i => simp at e1⟩⟩
    refine (tell_any (h.below hb2) hv (.mk 5 0 e.d.s [] [x] none) (hv1.vr (fun _ a ha => by cases ha; exact h.mvNew g hgw) ⟨Nat.le_refl _, (by decide : 1 ≤ maxLen)⟩ (Ls.nil _ _) 5 0 e.d.s)).mono ?_
    rintro e1 w' ⟨rfl, hp⟩
    have hc := HC.out.keep hb'
    obtain ⟨t', i', r', v', f', nx', nm', rcs', vcs', fcs', h1, h2, h3⟩ := hp
    exact ⟨rfl, Post.mono (HBM.out _ hb2).1 (HBM.out _ hb2).2 ⟨t', i', r', v', f', nx', nm', rcs', vcs', fcs', h1, h2, h3⟩, cell_tr h2 (h.mvNew _ (Nat.le_refl _)) hc.1, cell_tr h2 (h.mv _ heb) hc.2⟩))
  clear h hb hd hv hl hz0 heb
  go_enter Tryd.func31, Tryd.ntmps31
  go_upto_region 13 with fail
  refine reg31_any (fun _ _ _ _ _ h => h) (Good := fun w' => Post w0 B mb (Mv mb t r v f) w { s with vals := s.vals ++ [.mk 5 0 e.d.s [] [x] none] } w') (mb := mb) (b3 := w.heap.size) (c := c) HC.out HC1.out HT.out ?hk9
  case hk9 =>
    intro y55 y56 y57 y58 y59 y60 y61 y62 y63 y64 y65 y66 V' hg
    have HG := Lib.hid hg
    clear hg
    go_wp2_with fail
    go_returns
    exact ⟨rfl, HG.out⟩
set_option maxHeartbeats 8000000 in
set_option maxRecDepth 100000 in
theorem applyRecord_any (h : Rep w0 B mb s w t i r v f nx nm rcs vcs fcs) (hv : s.vals.length ≤ 100000000000) (e : Ex) (eb eo : Nat) (hin : e.In w) (hd : e.d.At w eb eo) (l : List Val) (A : Option Addr) (css : List (List Value)) (c : Nat) (hl : Vs w0 w (Mv mb t r v f) l A css) (hn : l.length = e.d.ln) (hkd : e.d.kind = 8) :
    Calls Tryd.prog 31 #[.agg #[.pointer (some ⟨mb, 0, none⟩)], .pointer (some ⟨eb, eo, none⟩), .slice A l.length c] w fun e1 w' => e1 = .returned (.tuple #[]) ∧ Post w0 B mb (Mv mb t r v f) w { s with vals := s.vals ++ [recOf e.d.labels l] } w' := by
  have hb : Below w.heap.size w (w.alloc (.cells #[.pointer (some ⟨mb, 0, none⟩)] 41)) := (Below.refl _ _).alloc (Nat.le_refl _) _
  have hll := hin.labLen
  have HTU := Lib.hid (fun (wr : World) (hb' : Below w.heap.size w wr) => (show Calls Tryd.prog 37 #[.slice e.d.lA e.d.ln e.d.lc, .slice A e.d.ln c] wr fun e1 w' => ∃ LA' lc' A' c', e1 = .returned (.agg #[.int .i64 4, .int .i64 0, .string ⟨#[]⟩, .slice LA' (recOf e.d.labels l).labels.length lc', .slice A' (recOf e.d.labels l).l.length c', .pointer none]) ∧ VR w0 w' (Mv mb t r v f) (recOf e.d.labels l) [.int .i64 4, .int .i64 0, .string (bstr []), .slice LA' (recOf e.d.labels l).labels.length lc', .slice A' (recOf e.d.labels l).l.length c', .pointer none] ∧ Below wr.heap.size wr w' from by
    rw [← hll]
    exact recordOf_any w0 wr (Mv mb t r v f) (fun b hbb => h.mvNew b (Nat.le_trans hb'.size hbb)) e.d.labels e.d.lA e.d.lc (by rw [hll]; exact hin.lab.below hb') l A css c (hl.below hb') (hn.trans hll.symm) (by rw [hll]; exact hin.cap.1.2.2)))
  have HTL := Lib.hid (fun (wr : World) (LA' : Option Addr) (lc' : Nat) (A' : Option Addr) (c' : Nat) (hb' : Below w.heap.size w wr) (hz : VR w0 wr (Mv mb t r v f) (recOf e.d.labels l) [.int .i64 4, .int .i64 0, .string (bstr []), .slice LA' (recOf e.d.labels l).labels.length lc', .slice A' (recOf e.d.labels l).l.length c', .pointer none]) => (show Calls Tryd.prog 21 #[.pointer (some ⟨mb, 0, none⟩), .agg #[.int .i64 4, .int .i64 0, .string ⟨#[]⟩, .slice LA' (recOf e.d.labels l).labels.length lc', .slice A' (recOf e.d.labels l).l.length c', .pointer none]] wr fun e1 w' => e1 = .returned (.tuple #[]) ∧ Post w0 B mb (Mv mb t r v f) wr { s with vals := s.vals ++ [recOf e.d.labels l] } w' from tell_any (h.below hb') hv (recOf e.d.labels l) (A := A') (c := c') (p := none) (LA := LA') (lc := lc') hz))
  have hx := heap_new (w := w) (o := (.cells #[.pointer (some ⟨mb, 0, none⟩)] 41)) rfl
  have c0 : (w.alloc (.cells #[.pointer (some ⟨mb, 0, none⟩)] 41)).cell? ⟨w.heap.size, 0, none⟩ = some (.pointer (some ⟨mb, 0, none⟩)) := (by rw [Lib.cell_of_heap hx]; rfl)
  have HC0 := Lib.hid c0
  have k0 := (hd.lower hb).c0
  have k5 := (hd.lower hb).c5
  rw [hkd] at k0
  rw [hn]
  have HB := Lib.hid hb
  have HBM := Lib.hid (fun (wr : World) (hb : Below w.heap.size w wr) => And.intro (Tr.below (P := Mv mb t r v f) hb) (hb.mono (Nat.le_of_lt (Nat.lt_of_le_of_lt h.base.2 h.lt))))
  generalize recOf e.d.labels l = RV at HTU HTL ⊢
  clear h hb hd hv hl hkd hn hx hin hll
  go_enter Tryd.func31, Tryd.ntmps31
  go_upto_region 5 with fail
  go_region_law (first
    | (go_simp; go_at_call 37; (with_reducible refine (HTU.out _ (Below.drew HB.out)).mono ?_); rintro e1 w2 ⟨A8, c8, A9, c9, rfl, hv2, hb2⟩; have hb3 := below_then (Below.drew HB.out) hb2; have c0' : w2.cell? ⟨w.heap.size, 0, none⟩ = some (.pointer (some ⟨mb, 0, none⟩)) := cell_below hb2 HC0.out; have HB2 := Lib.hid hb3; have HT := Lib.hid (HTL.out _ _ _ _ _ hb3 hv2); clear hb2 hb3 hv2)
    | (go_simp; go_at_call 21; (with_reducible refine HT.out.mono ?_); rintro e1 w3 ⟨rfl, hp⟩; have HP := Lib.hid hp; clear hp))
  all_goals
    go_wp2_with fail
    go_returns
    with_reducible exact ⟨rfl, HP.out.mono (HBM.out _ HB2.out).1 (HBM.out _ HB2.out).2⟩
end
end Go.Proofs.YtjmgnohepoacbaaDoor

namespace Go.Proofs.YtjmgnohepoacbaaDoor
open Go Go.ChangeShapes Go.WideShapes Go.ChangeAt Go.RowKit Go.Sort
set_option linter.unusedVariables false
set_option linter.unusedSimpArgs false

/-- Where a text stands first. -/
def fnd : List Str → Str → Nat
  | [], _ => 0
  | x :: l, s => if x = s then 0 else fnd l s + 1
theorem fnd_le : ∀ (l : List Str) (s : Str), fnd l s ≤ l.length
  | [], s => Nat.le_refl _
  | x :: l, s => by
    unfold fnd
    split
    · exact Nat.zero_le _
    · have := fnd_le l s; simp only [List.length_cons]; omega
theorem fnd_at : ∀ (l : List Str) (s : Str) (k : Nat), (∀ (j : Nat) (y : Str), j < k → l[j]? = some y → y ≠ s) → l[k]? = some s → fnd l s = k
  | [], s, k, h, hk => by simp at hk
  | x :: l, s, 0, h, hk => by simp only [List.getElem?_cons_zero, Option.some.injEq] at hk; unfold fnd; rw [if_pos hk]
  | x :: l, s, k + 1, h, hk => by
    unfold fnd
    rw [if_neg (h 0 x (by omega) rfl), fnd_at l s k (fun j y hj e => h (j + 1) y (by omega) (by simpa using e)) (by simpa using hk)]
theorem fnd_none : ∀ (l : List Str) (s : Str), (∀ (j : Nat) (y : Str), l[j]? = some y → y ≠ s) → fnd l s = l.length
  | [], s, h => rfl
  | x :: l, s, h => by
    unfold fnd
    rw [if_neg (h 0 x rfl), fnd_none l s (fun j y e => h (j + 1) y (by simpa using e))]
    rfl
def exZ : Ex := .mk ⟨0, 0, 0, [], [], none, 0, 0, [], none, 0, 0, [], none, 0, 0⟩ []
def St.choose (s : St) (e : Ex) (env : Env) (z : Val) : St :=
  if z.sort = 5 then
    (if fnd e.d.labels z.s < e.d.labels.length then { s with next := some (e.l[fnd e.d.labels z.s + 1]?.getD exZ, (e.d.names[fnd e.d.labels z.s]?.getD [], z.l[0]?.getD zV) :: env) }
    else if e.d.t = [] then { s with err := 11 }
    else { s with next := some (e.l[e.l.length - 1]?.getD exZ, (e.d.t, z) :: env) })
  else { s with err := 11 }
abbrev boxF (eb eo : Nat) (u : Option Addr) (base : Nat) : Obj := .cells #[.pointer (some ⟨eb, eo, none⟩), .pointer u, .int .i64 base] 56
theorem cells3 {w : World} {g : Nat} {x0 x1 x2 : Value} {T : TypeId} {fr : Nat × Nat} (h : w.heap[g]? = some (.cells #[x0, x1, x2] T fr)) :
    w.cell? ⟨g, 0, none⟩ = some x0 ∧ w.cell? ⟨g, 1, none⟩ = some x1 ∧ w.cell? ⟨g, 2, none⟩ = some x2 := by
  refine ⟨?_, ?_, ?_⟩ <;> (rw [Lib.cell_of_heap h]; rfl)
/-- A part of an expression, where it lies. -/
theorem ex_part {w0 : World} {e y : Ex} {eb eo : Nat} (he : e.In w0 ∧ e.d.At w0 eb eo) {k : Nat} (hk : e.l[k]? = some y) : ∃ pb po, e.d.pA = some ⟨pb, po, none⟩ ∧ (y.In w0 ∧ y.d.At w0 pb (po + k * 8)) := by
  obtain ⟨hkl, hy⟩ := List.getElem?_eq_some_iff.1 hk
  obtain ⟨pb, po, h1, h2⟩ := he.1.part hkl
  exact ⟨pb, po, h1, he.1.sub y (hy ▸ List.getElem_mem hkl), hy ▸ h2 k hkl⟩
section
variable {w0 w : World} {B mb : Nat} {s : St} {t i r v f nx nm : Value} {rcs vcs fcs : List (List Value)}
set_option maxHeartbeats 8000000 in
set_option maxRecDepth 100000 in
theorem choose_any (h : Rep w0 B mb s w t i r v f nx nm rcs vcs fcs) (hW : Below w0.heap.size w0 w) (e : Ex) (env : Env) (eb eo : Nat) (u : Option Addr) (base : Nat) (he : EN w0 w (Mv mb t r v f) e env eb eo (.pointer u)) (hpc : e.d.pn = 1 + e.d.ln + (if e.d.t = [] then 0 else 1) ∧ e.d.nn = e.d.ln) (z : Val) (A : Option Addr) (c : Nat) (p : Option Addr) (LA : Option Addr) (lc : Nat) (hz : VR w0 w (Mv mb t r v f) z [.int .i64 z.sort, .int .i64 z.n, .string (bstr z.s), .slice LA z.labels.length lc, .slice A z.l.length c, .pointer p]) (hzl : z.sort = 5 → z.l.length = 1) :
    Calls Tryd.prog 29 #[.agg #[.pointer (some ⟨mb, 0, none⟩)], .agg #[.pointer (some ⟨eb, eo, none⟩), .pointer u, .int .i64 base], .agg #[.int .i64 z.sort, .int .i64 z.n, .string (bstr z.s), .slice LA z.labels.length lc, .slice A z.l.length c, .pointer p]] w fun e1 w' => e1 = .returned (.tuple #[]) ∧ Post w0 B mb (Mv mb t r v f) w (s.choose e env z) w' := by
  obtain ⟨hq1, hq2, hq3, hb⟩ := three_newS w (boxM mb) (boxF eb eo u base) (boxV z A c p LA lc)
  have hpn : e.d.pn ≤ 4000000 := he.1.1.cap.2.2.1.2.2
  have hll := he.1.1.len
  have hl4 : (e.d.ln : Int) ≤ 4000000 := by have := he.1.1.cap.1.2.2; omega
  have hlab := he.1.1.labLen
  have hnam := he.1.1.namLen
  have hdd := (he.1.2.lower hW).lower hb
  have hL := ((he.1.1.lab.below hW).below hb)
  have hN := ((he.1.1.nam.below hW).below hb)
  have HB := Lib.hid hb
  have HBM := Lib.hid (fun (wr : World) (hb : Below w.heap.size w wr) => And.intro (Tr.below (P := Mv mb t r v f) hb) (hb.mono (Nat.le_of_lt (Nat.lt_of_le_of_lt h.base.2 h.lt))))
  have HS := Lib.hid (fun (wr : World) (hb : Below w.heap.size w wr) => stuck_any (h.below hb))
  have HBD := Lib.hid (fun (wr : World) (hb' : Below w.heap.size w wr) (y : Ex) (pb po : Nat) (hy : y.In w0 ∧ y.d.At w0 pb po) (x : Str) (z : Val) (c0 c1 c2 c3 c4 c5 : Value) (W2 : World) (hb2 : Below W2.heap.size W2 wr) (hz : VR w0 W2 (Mv mb t r v f) z [c0, c1, c2, c3, c4, c5]) => bind_any (h.below hb') y env pb po u ⟨hy, he.2.keep (Tr.below hb')⟩ x z c0 c1 c2 c3 c4 c5 (hz.keep (Tr.below hb2)))
  have HE := Lib.hid he.1
  have HZ := Lib.hid hz
  have HZL := Lib.hid hzl
  have HNF := Lib.hid (And.intro hll (And.intro hlab (And.intro hnam hpc)))
  obtain ⟨f0, f1, f2⟩ := cells3 hq2
  obtain ⟨x0, x1, x2, x3, x4, x5⟩ := cells6 hq3
  have m0 : (((w.alloc (boxM mb)).alloc (boxF eb eo u base)).alloc (boxV z A c p LA lc)).cell? ⟨w.heap.size, 0, none⟩ = some (.pointer (some ⟨mb, 0, none⟩)) := by rw [Lib.cell_of_heap hq1]; rfl
  have k4 := hdd.c4
  have k5 := hdd.c5
  have k6 := hdd.c6
  have k7 := hdd.c7
  clear h hW he hz hzl hb hdd hq1 hq2 hq3 hll
  go_enter Tryd.func29, Tryd.ntmps29
  go_upto_region 2 with fail
  generalize hW1 : (((w.alloc (boxM mb)).alloc (boxF eb eo u base)).alloc (boxV z A c p LA lc)) = W1 at *
  clear hW1
  by_cases hs : z.sort = 5
  · rw [hs] at x0
    have HC := Lib.hid (show s.choose e env z = _ from if_pos hs)
    have hz1 := HZL.out hs
    go_upto_region 5 with fail
    go_loopw [7, 8, 22] (fun _ _ vi wr => ∃ k : Nat, vi = .int .i64 k ∧ k ≤ e.d.ln ∧ (∀ (j : Nat) (y : Str), j < k → e.d.labels[j]? = some y → y ≠ z.s) ∧ wr = W1) (fun _ _ vi _ => e.d.ln - (intOf vi).toNat)
    case atStart => exact ⟨0, rfl, Nat.zero_le _, fun j y hj => absurd hj (Nat.not_lt_zero _), rfl⟩
    case round =>
      obtain ⟨k, rfl, hk, hno, hwr⟩ := hrel
      subst hwr
      by_cases hlt : k < e.d.ln
      · obtain ⟨x, hx⟩ : ∃ x, e.d.labels[k]? = some x := ⟨_, List.getElem?_eq_getElem (by omega)⟩
        obtain ⟨lb, lo, hlA, hlc⟩ := hL.str (k := k) (by omega)
        have hl1 := hlc k (by omega)
        rw [show e.d.labels[k] = x from by rw [List.getElem?_eq_getElem (by omega)] at hx; exact Option.some.inj hx] at hl1
        rw [hlA] at k5 ⊢
        have i1 : (k : Int) < (e.d.ln : Int) := by omega
        have i0 : (0 : Int) ≤ (k : Int) := by omega
        by_cases hq0 : x = z.s
        · have hq : ((bstr x).toList == (bstr z.s).toList) = true := by rw [beq_bstr]; simpa using hq0
          have hfn : fnd e.d.labels z.s = k := fnd_at _ _ _ hno (hq0 ▸ hx)
          obtain ⟨y, hy⟩ : ∃ y, e.l[k + 1]? = some y := ⟨_, List.getElem?_eq_getElem (by have := HNF.out; split at this <;> omega)⟩
          obtain ⟨nx, hnx⟩ : ∃ x, e.d.names[k]? = some x := ⟨_, List.getElem?_eq_getElem (by omega)⟩
          obtain ⟨zz, hzz⟩ : ∃ x, z.l[0]? = some x := ⟨_, List.getElem?_eq_getElem (by omega)⟩
          have HC2 := Lib.hid (show s.choose e env z = { s with next := some (y, (nx, zz) :: env) } from HC.out.trans (by rw [if_pos (by omega), hfn, hy, hnx, hzz]; rfl))
          obtain ⟨nb, no, hnA, hnc⟩ := hN.str (k := k) (by omega)
          have hn1 := hnc k (by omega)
          rw [show e.d.names[k] = nx from by rw [List.getElem?_eq_getElem (by omega)] at hnx; exact Option.some.inj hnx] at hn1
          rw [hnA] at k6
          obtain ⟨pb, po, hpA, hyI⟩ := ex_part HE.out hy
          rw [hpA] at k7
          obtain ⟨csz, hvz, hcz, hpz⟩ := HZ.out.vs
          obtain ⟨ab, ao, hA⟩ := hvz.addr (by omega)
          subst hA
          obtain ⟨Az, kz, pz, LAz, lkz, hvzz, g0, g1, g2, g3, g4, g5⟩ := (hvz.below HB.out).six 0 (z := zz) hzz ao (ao + 1) (ao + 2) (ao + 3) (ao + 4) (ao + 5) ⟨by omega, by omega, by omega, by omega, by omega, by omega⟩
          have HT := Lib.hid (fun hb9 => HBD.out wr.drew (below_then HB.out hb9) y pb _ hyI nx zz _ _ _ _ _ _ wr hb9 hvzz)
          have n1 : (k : Int) + 1 < (e.d.pn : Int) := by have := HNF.out; split at this <;> omega
          have n2 : (e.d.pn : Int) ≤ 4000000 := by omega
          have n6 : (0 : Int) ≤ (k : Int) + 1 := by omega
          have n8 : IntKind.i64.wrap ((k : Int) + 1) = (k : Int) + 1 := by rw [IntKind.wrap_i64]; omega
          have n3 : (k : Int) < (e.d.nn : Int) := by omega
          have n4 : (0 : Int) < (z.l.length : Int) := by omega
          clear hL hN hlab hnam hpn hno hx hq0 hlc hlA hs hfn hy hnx hzz hnc hnA hpA hyI hvz hcz hpz hvzz hlt hk hpc
          go_upto_region 8 with fail
          go_still_tail 22, (by kernel_rfl)
          change wpList _ _ _ _ _ _
          go_wp2_with (go_at_call 24; (with_reducible refine (HT.out (below_drew1 _)).mono ?_); rintro e1 w2 ⟨rfl, hp⟩; have HP := Lib.hid hp; clear hp)
          all_goals
            go_wp2_with fail
            go_returns
            rw [HC2.out]
            exact ⟨rfl, HP.out.mono (HBM.out _ (Below.drew HB.out)).1 (HBM.out _ (Below.drew HB.out)).2⟩
        · have hq : ((bstr x).toList == (bstr z.s).toList) = false := by rw [beq_bstr]; simpa using hq0
          have HNO := Lib.hid hno
          have HX := Lib.hid (And.intro hx hq0)
          clear hL hN hlab hnam hpn hno hx hq0 hlc hlA hz1 hs
          go_wp2_with fail
          go_roundw
          case rel => exact ⟨k + 1, by go_num, hlt, fun j y hj hy => by
            by_cases hjk : j = k
            · subst hjk; rw [HX.out.1] at hy; cases hy; exact HX.out.2
            · exact HNO.out j y (by omega) hy, (by first | rfl | trivial)⟩
          case measure =>
            have i2 : (k : Int) + 1 ≤ 4000000 := by omega
            have e9 : wrap64 ((k : Int) + 1) = (k : Int) + 1 := by unfold wrap64; omega
            simp only [intOf, e9, Int.toNat_natCast]
            omega
      · obtain rfl : k = e.d.ln := by omega
        have hfn : fnd e.d.labels z.s = e.d.labels.length := fnd_none _ _ (fun j y hy => hno j y (by have := (List.getElem?_eq_some_iff.1 hy).1; omega) hy)
        have i1 : ¬ ((e.d.ln : Int) < (e.d.ln : Int)) := by omega
        have HC1 := Lib.hid (HC.out.trans (if_neg (show ¬ fnd e.d.labels z.s < e.d.labels.length by omega)))
        by_cases ht : e.d.t = []
        · have HC2 := Lib.hid (HC1.out.trans (if_pos ht))
          rw [ht] at k4
          have ft : ((bstr []).toList == []) = true := by rw [bstr_toList]; rfl
          have HT := Lib.hid (HS.out wr HB.out)
          clear hL hN hlab hnam hpn hno hs hfn hz1 hk hpc ht
          go_wp2_with (go_at_call 20; (with_reducible refine HT.out.mono ?_); rintro e1 w2 ⟨rfl, hp⟩; have HP := Lib.hid hp; clear hp HT)
          go_returns
          rw [HC2.out]
          exact ⟨rfl, HP.out.mono (HBM.out _ HB.out).1 (HBM.out _ HB.out).2⟩
        · have HC3 := Lib.hid (HC1.out.trans (if_neg ht))
          have ft : ((bstr e.d.t).toList == []) = false := by rw [bstr_toList]; simpa using ht
          obtain ⟨q, hq⟩ : ∃ q : Nat, e.d.pn = q + 1 := ⟨e.d.pn - 1, by have := HNF.out; split at this <;> omega⟩
          obtain ⟨y, hy⟩ : ∃ y, e.l[q]? = some y := ⟨_, List.getElem?_eq_getElem (by have := HNF.out; omega)⟩
          have HC2 := Lib.hid (show s.choose e env z = { s with next := some (y, (e.d.t, z) :: env) } from HC3.out.trans (by rw [show e.l.length - 1 = q from by have := HNF.out; omega, hy]; rfl))
          obtain ⟨pb, po, hpA, hyI⟩ := ex_part HE.out hy
          rw [hpA] at k7
          have HT := Lib.hid (fun hb9 => HBD.out wr.drew (below_then HB.out hb9) y pb _ hyI e.d.t z _ _ _ _ _ _ w (below_then HB.out hb9) HZ.out)
          have n1 : (q : Int) < (e.d.pn : Int) := by omega
          have n2 : (e.d.pn : Int) ≤ 4000000 := by omega
          have n6 : (0 : Int) ≤ (q : Int) := by omega
          have n8 : IntKind.i64.wrap ((e.d.pn : Int) - 1) = (q : Int) := by rw [IntKind.wrap_i64]; omega
          rw [← hs] at x0
          clear hL hN hlab hnam hpn hno hs hfn hz1 hk hpc ht hq hy hpA hyI
          go_upto_region 12 with fail
          go_still_tail 20, (by kernel_rfl)
          change wpList _ _ _ _ _ _
          go_wp2_with (go_at_call 24; (with_reducible refine (HT.out (below_drew1 _)).mono ?_); rintro e1 w2 ⟨rfl, hp⟩; have HP := Lib.hid hp; clear hp)
          all_goals
            go_wp2_with fail
            go_returns
            rw [HC2.out]
            exact ⟨rfl, HP.out.mono (HBM.out _ (Below.drew HB.out)).1 (HBM.out _ (Below.drew HB.out)).2⟩
  · have f0 : (z.sort != 5) = true := by simpa using hs
    have HC := Lib.hid (show s.choose e env z = { s with err := 11 } from if_neg hs)
    have HT := Lib.hid (HS.out W1 HB.out)
    go_wp2_with (go_at_call 20; (with_reducible refine HT.out.mono ?_); rintro e1 w2 ⟨rfl, hp⟩; have HP := Lib.hid hp; clear hp HT)
    go_returns
    rw [HC.out]
    exact ⟨rfl, HP.out.mono (HBM.out _ HB.out).1 (HBM.out _ HB.out).2⟩
end
end Go.Proofs.YtjmgnohepoacbaaDoor

namespace Go.Proofs.YtjmgnohepoacbaaDoor
open Go Go.ChangeShapes Go.WideShapes Go.ChangeAt Go.RowKit Go.Sort
set_option linter.unusedVariables false
set_option linter.unusedSimpArgs false

section
variable {w0 w : World} {B mb : Nat} {s : St} {t i r v f nx nm : Value} {rcs vcs fcs : List (List Value)}
def St.apply1 (s : St) (d : ExD) (x : Val) : St :=
  if d.kind = 9 ∨ d.kind = 11 then s.take d.kind d.s x
  else if d.kind = 13 then { s with vals := s.vals ++ [.mk 5 0 d.s [] [x] none] }
  else if d.kind = 17 then { s with refs := s.refs ++ [x], vals := s.vals ++ [.mk 6 s.refs.length [] [] [] none] }
  else if d.kind = 18 then s.get x else if d.kind = 20 then s.print x else s.shw x
def St.apply2 (s : St) (d : ExD) (x y : Val) : St :=
  if d.kind = 5 then s.call x y else if d.kind = 10 ∨ d.kind = 12 then s.put d.kind d.s y x
  else if d.kind = 16 then s.oper d.s x y else s.set x y
def St.apply (s : St) (d : ExD) (l : List Val) : St :=
  if d.kind = 8 then { s with vals := s.vals ++ [recOf d.labels l] } else
  match l with
  | [x] => s.apply1 d x
  | [x, y] => s.apply2 d x y
  | _ => s
/-- What the machine wants of a value. -/
structure GoodV (s : St) (z : Val) : Prop where
  fn : z.sort = 3 → z.f ≠ none
  tag : z.sort = 5 → z.l.length = 1
  ref : z.sort = 6 → ∃ k : Nat, z.n = k ∧ k < s.refs.length
  txt : z.s.length ≤ 4000000
  num : -9223372036854775808 ≤ z.n ∧ z.n ≤ 9223372036854775807
  lab : z.sort = 4 → z.labels.length = z.l.length
  len : z.labels.length ≤ 90000000000
theorem apply_any (h : Rep w0 B mb s w t i r v f nx nm rcs vcs fcs) (hv : s.vals.length ≤ 100000000000) (hr : s.refs.length ≤ 100000000000) (ht : s.trace.length ≤ 100000000000) (hT : Tab w) (e : Ex) (eb eo : Nat) (hin : e.In w) (hd : e.d.At w eb eo) (heb : eb < B) (hk : partsOk e.d = true) (l : List Val) (A : Option Addr) (css : List (List Value)) (c : Nat) (hl : Vs w0 w (Mv mb t r v f) l A css) (hn : l.length = e.d.pn) (hg : ∀ z ∈ l, GoodV s z)
    (q1 : ¬ (e.d.kind = 1 ∨ e.d.kind = 2 ∨ e.d.kind = 3 ∨ e.d.kind = 4 ∨ e.d.kind = 6 ∨ e.d.kind = 7 ∨ e.d.kind = 14 ∨ e.d.kind = 15 ∨ e.d.kind = 22)) :
    Calls Tryd.prog 31 #[.agg #[.pointer (some ⟨mb, 0, none⟩)], .pointer (some ⟨eb, eo, none⟩), .slice A l.length c] w fun e1 w' => e1 = .returned (.tuple #[]) ∧ Post w0 B mb (Mv mb t r v f) w (s.apply e.d l) w' := by
  have hkk := partsKind hk
  by_cases k8 : e.d.kind = 8
  · rw [show s.apply e.d l = _ from if_pos k8]
    exact applyRecord_any h hv e eb eo hin hd l A css c hl (hn.trans (parts8 hk k8)) k8
  rw [show s.apply e.d l = _ from if_neg k8]
  by_cases p1 : e.d.kind = 9 ∨ e.d.kind = 11 ∨ e.d.kind = 13 ∨ e.d.kind = 17 ∨ e.d.kind = 18 ∨ e.d.kind = 20 ∨ e.d.kind = 21
  · obtain ⟨x, rfl⟩ := len1 (hn.trans (parts1 hk (.inr p1)))
    obtain ⟨ab, ao, rfl⟩ := hl.addr Nat.one_pos
    have gx := hg x (List.mem_cons_self ..)
    show Calls _ _ _ _ fun e1 w' => e1 = .returned (.tuple #[]) ∧ Post w0 B mb (Mv mb t r v f) w (s.apply1 e.d x) w'
    unfold St.apply1
    rcases p1 with k | k | k | k | k | k | k
    · rw [if_pos (.inl k)]; exact applySel_any h hv e eb eo hd x css ab ao c hl k gx.lab gx.len
    · rw [if_pos (.inr k)]; exact applyCut_any h hv e eb eo hd x css ab ao c hl k gx.lab gx.len
    · rw [if_neg (by omega), if_pos k]; exact applyTag_any h hv e eb eo hd x css ab ao c hl k heb
    · rw [if_neg (by omega), if_neg (by omega), if_pos k]; exact applyRef_any h hv hr e eb eo hd x css ab ao c hl k
    · rw [if_neg (by omega), if_neg (by omega), if_neg (by omega), if_pos k]; exact applyGet_any h hv hr e eb eo hd x css ab ao c hl k gx.ref
    · rw [if_neg (by omega), if_neg (by omega), if_neg (by omega), if_neg (by omega), if_pos k]; exact applyPrint_any h hv ht e eb eo hd x css ab ao c hl k
    · rw [if_neg (by omega), if_neg (by omega), if_neg (by omega), if_neg (by omega), if_neg (by omega)]; exact applyShow_any h hv hT e eb eo hd x css ab ao c hl k gx.num
  have p2 : e.d.kind = 5 ∨ e.d.kind = 10 ∨ e.d.kind = 12 ∨ e.d.kind = 16 ∨ e.d.kind = 19 := by omega
  obtain ⟨x, y, rfl⟩ := len2 (hn.trans (parts2 hk (by omega)))
  obtain ⟨ab, ao, rfl⟩ := hl.addr Nat.two_pos
  have gx := hg x (List.mem_cons_self ..)
  have gy := hg y (List.mem_cons_of_mem _ (List.mem_cons_self ..))
  show Calls _ _ _ _ fun e1 w' => e1 = .returned (.tuple #[]) ∧ Post w0 B mb (Mv mb t r v f) w (s.apply2 e.d x y) w'
  unfold St.apply2
  rcases p2 with k | k | k | k | k
  · rw [if_pos k]; exact applyCall_any h hv e eb eo hd x y css ab ao c hl k gx.fn
  · rw [if_neg (by omega), if_pos (.inl k)]; exact applyExt_any h hv e eb eo hd x y css ab ao c hl k heb gy.lab gy.len
  · rw [if_neg (by omega), if_pos (.inr k)]; exact applyUpd_any h hv e eb eo hd x y css ab ao c hl k heb gy.lab gy.len
  · rw [if_neg (by omega), if_neg (by omega), if_pos k]; exact applyOper_any h hv e eb eo hd x y css ab ao c hl k gx.txt gy.txt gx.num gy.num
  · rw [if_neg (by omega), if_neg (by omega), if_neg (by omega)]; exact applySet_any h hv hr e eb eo hd x y css ab ao c hl k gx.ref
end
end Go.Proofs.YtjmgnohepoacbaaDoor

namespace Go.Proofs.YtjmgnohepoacbaaDoor
open Go Go.ChangeShapes Go.WideShapes Go.ChangeAt Go.RowKit Go.Sort
set_option linter.unusedVariables false
set_option linter.unusedSimpArgs false

theorem two_boxes (w : World) (o1 o2 : Obj) : ((w.alloc o1).alloc o2).heap[w.heap.size]? = some o1 ∧ ((w.alloc o1).alloc o2).heap[w.heap.size + 1]? = some o2 ∧ Below w.heap.size w ((w.alloc o1).alloc o2) :=
  ⟨(Below.heap_alloc _ _ _ (by rw [World.size_alloc]; omega)).trans (heap_new rfl), heap_new (World.size_alloc _ _), ((Below.refl _ _).alloc (Nat.le_refl _) _).alloc (by rw [World.size_alloc]; omega) _⟩
section
variable {w0 w w' : World} {B mb : Nat} {s : St} {t i r v f nx nm : Value} {rcs vcs fcs : List (List Value)}
variable {A0 : Option Addr} {k0 q1 k1 : Nat} {fs : List Frm} {x : Frm}
theorem Ended.tr (hE : Ended w0 w B mb s t i r A0 k0 q1 k1 nx nm rcs vcs fcs fs x w') :
    Tr w (Mv mb t r (.slice A0 s.vals.length k0) (.slice (some ⟨q1, 0, none⟩) (fs.length + 1) k1)) w' (Mv mb t r (.slice A0 x.base k0) (.slice (some ⟨q1, 0, none⟩) fs.length k1)) :=
  fun b hb hl => ⟨⟨hb.1, hb.2.1, hb.2.2.1, by rw [own_len A0 x.base s.vals.length]; exact hb.2.2.2.1, hb.2.2.2.2⟩, hE.kept b hb.1⟩
theorem Ended.below (hE : Ended w0 w B mb s t i r A0 k0 q1 k1 nx nm rcs vcs fcs fs x w') : Below B w w' := by
  have hB := hE.rep.base.2
  exact ⟨hE.io.1, hE.io.2.1, hE.io.2.2.1, by rw [hE.io.2.2.2]; exact Nat.le_refl _, fun b hb => hE.kept b (by omega)⟩
/-- Values that stand elsewhere than in the machine's own block stand still. -/
theorem Ended.vs (hE : Ended w0 w B mb s t i r A0 k0 q1 k1 nx nm rcs vcs fcs fs x w') {l : List Val} {A : Option Addr} {css : List (List Value)} (h : Vs w0 w (Mv mb t r (.slice A0 s.vals.length k0) (.slice (some ⟨q1, 0, none⟩) (fs.length + 1) k1)) l A css) (hA : 0 < l.length → ∀ a, A = some a → a.block ≠ mb) :
    Vs w0 w' (Mv mb t r (.slice A0 x.base k0) (.slice (some ⟨q1, 0, none⟩) fs.length k1)) l A css :=
  ⟨rd_keepP (P := fun b => b ≠ mb) h.rd hA (fun b hb _ => hE.kept b hb), h.lr.imp (fun a c => VR.keep hE.tr)⟩
theorem below_w0 (hW : Below w0.heap.size w0 w) (hB : w0.heap.size ≤ B) (hb : Below B w w') : Below w0.heap.size w0 w' := hW.trans (hb.mono hB)
def St.ended (s : St) (fs : List Frm) (x : Frm) : St := { s with vals := s.vals.take x.base, frames := fs }
set_option maxHeartbeats 8000000 in
theorem goApply_any (h : Rep w0 B mb s w t i r v f nx nm rcs vcs fcs) (hW : Below w0.heap.size w0 w) (hT : Tab w0) (hv : s.vals.length ≤ 100000000000) (hr : s.refs.length ≤ 100000000000) (ht : s.trace.length ≤ 100000000000) (hf : s.frames.length ≤ 100000000000)
    (fs : List Frm) (x : Frm) (hx : s.frames = fs ++ [x]) (hbs : x.base ≤ s.vals.length) (hk : partsOk x.e.d = true) (eb eo : Nat) (u : Option Addr) (he : EN w0 w (Mv mb t r v f) x.e x.env eb eo (.pointer u)) (l : List Val) (A : Option Addr) (css : List (List Value)) (c : Nat) (hl : Vs w0 w (Mv mb t r v f) l A css) (hA : 0 < l.length → ∀ a, A = some a → a.block ≠ mb) (hn : l.length = x.e.d.pn) (hg : ∀ z ∈ l, GoodV s z)
    (q1 : ¬ (x.e.d.kind = 1 ∨ x.e.d.kind = 2 ∨ x.e.d.kind = 3 ∨ x.e.d.kind = 4 ∨ x.e.d.kind = 6 ∨ x.e.d.kind = 7 ∨ x.e.d.kind = 14 ∨ x.e.d.kind = 15 ∨ x.e.d.kind = 22)) :
    Calls Tryd.prog 15 #[.agg #[.pointer (some ⟨mb, 0, none⟩)], .agg #[.pointer (some ⟨eb, eo, none⟩), .pointer u, .int .i64 x.base], .slice A l.length c] w fun e1 w' => e1 = .returned (.tuple #[]) ∧ Post w0 B mb (Mv mb t r v f) w ((s.ended fs x).apply x.e.d l) w' := by
  obtain ⟨A0, k0, rfl, _⟩ := own_cap h.vr
  obtain ⟨hq1, hq2, hb⟩ := two_boxes w (boxM mb) (boxF eb eo u x.base)
  have hp : x.e.d.pn ≤ 4000000 := he.1.1.cap.2.2.1.2.2
  have HE := Lib.hid (end_any (h.below hb) fs x hx hf hbs hv)
  have HAP := Lib.hid (fun (q1' k1' : Nat) (hff : f = .slice (some ⟨q1', 0, none⟩) (fs.length + 1) k1') (wr : World) (hE : Ended w0 ((w.alloc (boxM mb)).alloc (boxF eb eo u x.base)) B mb s t i r A0 k0 q1' k1' nx nm rcs vcs fcs fs x wr) => (show Calls Tryd.prog 31 #[.agg #[.pointer (some ⟨mb, 0, none⟩)], .pointer (some ⟨eb, eo, none⟩), .slice A l.length c] wr fun e1 w' => e1 = .returned (.tuple #[]) ∧ Post w0 B mb (Mv mb t r (.slice A0 s.vals.length k0) f) w ((s.ended fs x).apply x.e.d l) w' from by
    subst hff
    have hw' : Below w0.heap.size w0 wr := below_w0 (hW.trans (hb.mono (Nat.le_trans h.base.1 (Nat.le_of_lt (Nat.lt_of_le_of_lt h.base.2 h.lt))))) h.base.1 hE.below
    have hT1 : Tr w (Mv mb t r (.slice A0 s.vals.length k0) (.slice (some ⟨q1', 0, none⟩) (fs.length + 1) k1')) wr (Mv mb t r (.slice A0 x.base k0) (.slice (some ⟨q1', 0, none⟩) fs.length k1')) := (Tr.below (P := Mv mb t r (.slice A0 s.vals.length k0) (.slice (some ⟨q1', 0, none⟩) (fs.length + 1) k1')) hb).trans hb.size hE.tr
    have hB1 : Below B w wr := (hb.mono (Nat.le_of_lt (Nat.lt_of_le_of_lt h.base.2 h.lt))).trans hE.below
    refine (apply_any hE.rep (s := s.ended fs x) (by show (s.vals.take x.base).length ≤ _; rw [List.length_take]; omega) hr ht (tab_below hT hw') x.e eb eo (he.1.1.lower hw') (he.1.2.lower hw') (by have := he.1.2.blt; have := h.base.1; omega) hk l A css c (hE.vs (hl.below hb) hA) hn (fun z hz => ⟨(hg z hz).fn, (hg z hz).tag, (hg z hz).ref, (hg z hz).txt, (hg z hz).num, (hg z hz).lab, (hg z hz).len⟩) q1).mono ?_
    rintro e1 w' ⟨rfl, hp⟩
    exact ⟨rfl, hp.mono hT1 hB1⟩))
  obtain ⟨f0, f1, f2⟩ := cells3 hq2
  have c0 : ((w.alloc (boxM mb)).alloc (boxF eb eo u x.base)).cell? ⟨w.heap.size, 0, none⟩ = some (.pointer (some ⟨mb, 0, none⟩)) := (by rw [Lib.cell_of_heap hq1]; rfl)
  have HC := Lib.hid (fun (q1' k1' : Nat) (wr : World) (hE : Ended w0 ((w.alloc (boxM mb)).alloc (boxF eb eo u x.base)) B mb s t i r A0 k0 q1' k1' nx nm rcs vcs fcs fs x wr) => (show wr.cell? ⟨w.heap.size, 0, none⟩ = some (.pointer (some ⟨mb, 0, none⟩)) from by rw [Lib.cell_of_heap ((hE.kept _ (Nat.ne_of_gt h.lt)).trans hq1)]; rfl))
  have hdd := (he.1.2.lower hW).lower hb
  have kd := hdd.c0
  have k5 := hdd.c7
  have hkk := partsKind hk
  obtain ⟨K, hK⟩ : ∃ K, x.e.d.kind = K := ⟨_, rfl⟩
  rw [hK] at kd q1 hkk
  have e14 : (K == 14) = false := by simp; omega
  have e6 : (K == 6) = false := by simp; omega
  have e15 : (K == 15) = false := by simp; omega
  rw [hn] at HAP ⊢
  clear h hW hT hv hr ht hf hx hbs hk he hl hA hn hg q1 hb hq1 hq2 hdd hK hkk hp
  rcases Bool.eq_false_or_eq_true ((x.e.d.pn : Int) == 1) with e1 | e1
  all_goals
    go_enter Tryd.func15, Tryd.ntmps15
    go_wp2_with (first
      | (go_at_call 28; (with_reducible refine HE.out.mono ?_); rintro e1 w1 ⟨rfl, q1', k1', hff, hE⟩; have c0' := HC.out _ _ _ hE; have HA2 := Lib.hid (HAP.out _ _ hff _ hE); clear hE hff)
      | (go_at_call 31; (with_reducible refine HA2.out.mono ?_); rintro e1 w2 ⟨rfl, hp⟩; have HP := Lib.hid hp; clear hp))
    go_returns
    with_reducible exact ⟨rfl, HP.out⟩
end
end Go.Proofs.YtjmgnohepoacbaaDoor
