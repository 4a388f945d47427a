/-
  A record out of labels and values: model.recordOf. (Made by gen_mcj.py.)
  A record without a label: take's last region. (Made by gen_mcn.py.)
  Parts of rows of texts; what a machine's call leaves of new memory.
  Rows joined around a new one.
  The machine: a label's value, a record without it: take. (Made by gen_mcp.py.)
  A record with a label: what put's last region reads. (Made by gen_mcn.py.)
-/
import Derived.Test.YtjmgnohepoacbaaDoorK05
import Derived.BigQuiet
import Derived.Deep.RegionLaw
namespace Go.Proofs.YtjmgnohepoacbaaDoor
open Go Go.ChangeShapes Go.WideShapes Go.ChangeAt Go.RowKit Go.Sort
set_option linter.unusedVariables false
set_option linter.unusedSimpArgs false

theorem rec_ret {R : Ending → World → Prop} {W : World} {g : Nat} {x0 x1 x2 x3 x4 x5 : Value} (h : W.heap[g]? = some (.cells #[x0, x1, x2, x3, x4, x5] 45)) (tm : Array Value) (h4 : tm[4]?.getD undef = .pointer (some ⟨g, 0, none⟩)) (hR : R (.returned (.agg #[x0, x1, x2, x3, x4, x5])) W) :
    bodyPost Tryd.prog Tryd.f37 R Exit.ret ⟨tm, []⟩ W := by
  obtain ⟨b0, b1, b2, b3, b4, b5⟩ := cells6 h
  refine bodyPost_ret (v := .agg #[x0, x1, x2, x3, x4, x5]) (by simp [results, Tryd.results37, go_sem, h4, b0, b1, b2, b3, b4, b5]; try rfl) rfl ?_
  exact hR
theorem below_dN (w : World) (k : Nat) : Below w.heap.size w (w.drewN k) := ⟨rfl, rfl, rfl, Nat.le_refl _, fun _ _ => rfl⟩
/-- Values lie below where memory ends. -/
theorem vs_in {w0 w : World} {P : Nat → Prop} {l : List Val} {A : Option Addr} {css : List (List Value)} (h : Vs w0 w P l A css) : Vs w0 w (fun b => P b ∧ b < w.heap.size) l A css := ⟨h.rd, h.lr.imp (fun a c => VR.keep (fun b hb hl => ⟨⟨hb, hl⟩, rfl⟩))⟩
theorem Vs.below' {w0 w w' : World} {P : Nat → Prop} {l : List Val} {A : Option Addr} {css : List (List Value)} (h : Vs w0 w P l A css) (hb : Below w.heap.size w w') : Vs w0 w' P l A css := h.below hb
theorem rec_lab {labels : List Str} {ord : List Nat} {q i : Nat} {x : Str} {hin : i < labels.length} (hi : ord[q]? = some i) (hx : labels[i] = x) : labels[ord[q]?.getD 0]?.getD [] = x := by
  rw [hi]
  show labels[i]?.getD [] = x
  rw [List.getElem?_eq_getElem hin]
  exact hx
theorem rec_eq {labels : List Str} {ord : List Nat} {q q' i i2 : Nat} {x x2 : Str} {hin : i < labels.length} {hin2 : i2 < labels.length} (hi2 : ord[q']? = some i2) (hi : ord[q]? = some i) (hx2 : labels[i2] = x2) (hx : labels[i] = x) (h : labels[ord[q']?.getD 0]?.getD [] = labels[ord[q]?.getD 0]?.getD []) : x2 = x := by
  rw [rec_lab (hin := hin2) hi2 hx2, rec_lab (hin := hin) hi hx] at h
  exact h
theorem rec_same {labels : List Str} {l : List Val} {ord : List Nat} {q k i i2 : Nat} {x x2 : Str} {hin : i < labels.length} {hin2 : i2 < labels.length} (hk : ord.length = k) (hq : q + 1 < k) (hi2 : ord[q + 1]? = some i2) (hi : ord[q]? = some i) (hx2 : labels[i2] = x2) (hx : labels[i] = x) (h : x2 = x) : recT labels l ord (q + 1) = recT labels l ord q := by
  rw [recT, if_pos ⟨by omega, by rw [rec_lab (hin := hin2) hi2 hx2, rec_lab (hin := hin) hi hx]; exact h⟩]
theorem rec_more {labels : List Str} {l : List Val} {ord : List Nat} {q i : Nat} {x : Str} {z : Val} {hin : i < labels.length} (hi : ord[q]? = some i) (hx : labels[i] = x) (hz : l[i]? = some z) (h : ¬ (q + 1 < ord.length ∧ labels[ord[q + 1]?.getD 0]?.getD [] = labels[ord[q]?.getD 0]?.getD [])) : recT labels l ord (q + 1) = ((recT labels l ord q).1 ++ [x], (recT labels l ord q).2 ++ [z]) := by
  rw [recT, if_neg h, rec_lab (hin := hin) hi hx, hi]
  show (_, _ ++ [l[i]?.getD zV]) = _
  rw [hz]
  rfl
set_option maxHeartbeats 4000000 in
set_option maxRecDepth 100000 in
theorem recordOf_any (w0 w : World) (P : Nat → Prop) (hP : ∀ b, w.heap.size ≤ b → P b) (labels : List Str) (LA : Option Addr) (lc : Nat) (hL : Rd w 1 LA labels.length (strs labels)) (l : List Val) (A : Option Addr) (css : List (List Value)) (c : Nat) (hV : Vs w0 w P l A css) (hll : l.length = labels.length) (hn : labels.length ≤ 4000000) :
    Calls Tryd.prog 37 #[.slice LA labels.length lc, .slice A labels.length c] w fun e w' => ∃ LA' lc' A' c', e = .returned (.agg #[.int .i64 4, .int .i64 0, .string ⟨#[]⟩, .slice LA' (recOf labels l).labels.length lc', .slice A' (recOf labels l).l.length c', .pointer none]) ∧ VR w0 w' P (recOf labels l) [.int .i64 4, .int .i64 0, .string (bstr []), .slice LA' (recOf labels l).labels.length lc', .slice A' (recOf labels l).l.length c', .pointer none] ∧ Below w.heap.size w w' := by
  have hb1 : Below w.heap.size w ((w.alloc (.cells #[.slice LA labels.length lc] 22)).alloc (.cells #[.int .i64 0, .int .i64 0, .string ⟨#[]⟩, .slice none 0 0, .slice none 0 0, .pointer none] 45)) := ((Below.refl _ _).alloc (Nat.le_refl _) _).alloc (by rw [World.size_alloc]; omega) _
  have hlb : LbB ((w.alloc (.cells #[.slice LA labels.length lc] 22)).alloc (.cells #[.int .i64 0, .int .i64 0, .string ⟨#[]⟩, .slice none 0 0, .slice none 0 0, .pointer none] 45)) w.heap.size (w.heap.size + 2) labels := by
    refine ⟨by omega, LA, lc, 22, (Below.heap_alloc _ _ _ (by rw [World.size_alloc]; omega)).trans (heap_new rfl), hL.below hb1, fun h0 a ha => ?_⟩
    have := hL.lt6 h0 ha
    omega
  obtain ⟨n, hnn⟩ : ∃ n, labels.length = n := ⟨_, rfl⟩
  have HLB := Lib.hid (And.intro hlb hb1)
  have HNN := Lib.hid hnn
  have hx4 : ((w.alloc (.cells #[.slice LA labels.length lc] 22)).alloc (.cells #[.int .i64 0, .int .i64 0, .string ⟨#[]⟩, .slice none 0 0, .slice none 0 0, .pointer none] 45)).heap[w.heap.size + 1]? = some (.cells #[.int .i64 0, .int .i64 0, .string ⟨#[]⟩, .slice none 0 0, .slice none 0 0, .pointer none] 45) := heap_new (World.size_alloc _ _)
  have c0 : ((w.alloc (.cells #[.slice LA labels.length lc] 22)).alloc (.cells #[.int .i64 0, .int .i64 0, .string ⟨#[]⟩, .slice none 0 0, .slice none 0 0, .pointer none] 45)).cell? ⟨w.heap.size, 0, none⟩ = some (.slice LA labels.length lc) := by rw [Lib.cell_of_heap ((Below.heap_alloc _ _ _ (by rw [World.size_alloc]; omega)).trans (heap_new (w := w) (o := .cells #[.slice LA labels.length lc] 22) rfl))]; rfl
  have HX4 := Lib.hid hx4
  have HL := Lib.hid hL
  have HV := Lib.hid hV
  have HP := Lib.hid hP
  have HLL := Lib.hid hll
  rw [hnn] at c0 hn HLB HX4 ⊢
  have hn2 : (n : Int) ≤ 4000000 := by omega
  have hsz : ((w.alloc (.cells #[.slice LA n lc] 22)).alloc (.cells #[.int .i64 0, .int .i64 0, .string ⟨#[]⟩, .slice none 0 0, .slice none 0 0, .pointer none] 45)).heap.size = w.heap.size + 2 := by rw [World.size_alloc, World.size_alloc]
  have HSZ := Lib.hid hsz
  clear hL hV hP hll hlb hb1 hx4 hnn hsz
  go_enter Tryd.func37, Tryd.ntmps37
  go_upto_region 1 with fail
  generalize hW1 : (w.alloc (.cells #[.slice LA n lc] 22)).alloc (.cells #[.int .i64 0, .int .i64 0, .string ⟨#[]⟩, .slice none 0 0, .slice none 0 0, .pointer none] 45) = W1 at *
  clear hW1
  go_wp2_with (at_make; refine wpList_mk elInt W1 rfl (.tmp 11) (.tmp 11) rfl W1.heap.size .i64 .i64 (n : Int) (n : Int) n n rfl rfl rfl rfl (Nat.le_refl _) (by omega) (Nat.le_refl _) ?_; intro W2 hown2 hb2 hs2; have H2 := Lib.hid (And.intro hown2 (And.intro hb2 hs2)); clear hown2 hb2 hs2)
  -- the places
  go_loopw [15] (fun i wr => ∃ (k : Nat) (xs : List Value), i = .int .i64 k ∧ k ≤ n ∧ wr.ownsRow W1.heap.size 3 1 (.slice (some ⟨W1.heap.size, 0, none⟩) n n) n xs ∧ (∀ j, j < k → xs[j]? = some (.int .i64 (j : Nat))) ∧ Below W1.heap.size W1 wr ∧ W1.heap.size < wr.heap.size) (fun i _ => n - (intOf i).toNat)
  case atStart => exact ⟨0, _, rfl, Nat.zero_le _, H2.out.1, fun j hj => absurd hj (by omega), H2.out.2.1, H2.out.2.2⟩
  case round =>
    obtain ⟨k, xs, rfl, hk, hown, hxs, hbr, hgr⟩ := hrel
    by_cases hlt : k < n
    · have hltz : (k : Int) < (n : Int) := by omega
      have hxl : xs.length = n := by have := hown.1; omega
      obtain ⟨q1, q2⟩ := own_cell hown (i := k) (u := xs[k]) (List.getElem?_eq_getElem _)
      have HW := Lib.hid (own_set hown k (by omega) (.int .i64 (k : Nat)))
      have HX := Lib.hid (And.intro hxs (And.intro hbr (And.intro hgr hxl)))
      clear hown hxs hbr hgr
      go_wp2_with fail
      go_roundw
      case rel => exact ⟨k + 1, _, by go_num, hlt, HW.out, fun j hj => (by
        rw [List.getElem?_set]
        by_cases e : k = j
        · subst e; rw [if_pos rfl, if_pos (by have := HX.out.2.2.2; omega)]
        · rw [if_neg e]; exact HX.out.1 j (by omega)), HX.out.2.1.setCell (p := ⟨W1.heap.size, k, none⟩) (Nat.le_refl _) _, by rw [World.size_setCell]; exact HX.out.2.2.1⟩
      case measure => simp [intOf] <;> omega
    · have hkn : k = n := by omega
      subst hkn
      have hltz : ¬ (k : Int) < (k : Int) := by omega
      have HO := Lib.hid (And.intro hown (And.intro hxs (And.intro hbr hgr)))
      clear hown hxs hbr hgr hlt hk
      have HT := Lib.hid (sorted_any wr w.heap.size W1.heap.size k W1.heap.size labels (by
        have h1 := HLB.out.1
        have h2 := HSZ.out
        rw [← h2] at h1
        exact h1.keep HO.out.2.2.1) HNN.out hn HO.out.1 HO.out.2.1 HO.out.2.2.2)
      go_wp2_with (go_at_call 56; (with_reducible refine HT.out.mono ?_); rintro e1 w3 ⟨rfl, hrd3, hb3⟩; have H3 := Lib.hid (And.intro hrd3 hb3); clear hrd3 hb3 HT)
      have hsz3 : W1.heap.size < w3.heap.size := Nat.lt_of_lt_of_le HO.out.2.2.2 H3.out.2.size
      have hbw3 : Below W1.heap.size W1 w3 := HO.out.2.2.1.trans H3.out.2
      have HB3 := Lib.hid (And.intro hbw3 hsz3)
      clear hbw3 hsz3
      clear hltz
      have hord := ordOf_len labels
      have HORD := Lib.hid (And.intro (hord.trans HNN.out) (ordOf_lt labels))
      clear hord
      have hT0 : TS w0 (fun b => P b ∧ b < w.heap.size) w3.heap.size (w3.alloc (.cells (HR7 (.slice none 0 0) (.slice none 0 0)) 45)) [] [] [] (.slice none 0 0) (.slice none 0 0) (.slice none 0 0) (.slice none 0 0) (w3.alloc (.cells (HR7 (.slice none 0 0) (.slice none 0 0)) 45)) :=
        ⟨heap_new rfl, World.ownsRow_nil _ _ _ _, World.ownsRow_nil _ _ _ _, LR.nil, fun q hq => (by cases hq), Below.refl _ _, fun b hb => by have := HB3.out.2; have := HSZ.out; omega⟩
      have HT0 := Lib.hid hT0
      clear hT0
      go_loopw [29] (fun i wr2 => ∃ (q : Nat) (c3 c4 : Value) (cs' : List (List Value)), i = .int .i64 q ∧ q ≤ k ∧ TS w0 (fun b => P b ∧ b < w.heap.size) w3.heap.size (w3.alloc (.cells (HR7 (.slice none 0 0) (.slice none 0 0)) 45)) (recT labels l (ordOf labels) q).1 (recT labels l (ordOf labels) q).2 cs' c3 c4 c3 c4 wr2) (fun i _ => k - (intOf i).toNat)
      case atStart => exact ⟨0, _, _, [], rfl, Nat.zero_le _, HT0.out⟩
      case round =>
        obtain ⟨q, c3, c4, cs', rfl, hq, hts⟩ := hrel
        have HTS := Lib.hid hts
        clear hts
        by_cases hlt : q < k
        · have hltz : (q : Int) < (k : Int) := by omega
          have hbV : Below w3.heap.size w3 wr := ((Below.refl _ _).alloc (Nat.le_refl _) _).trans HTS.out.bl
          have hbW : Below W1.heap.size W1 wr := HB3.out.1.trans (hbV.mono (Nat.le_of_lt HB3.out.2))
          have hbw : Below w.heap.size w wr := below_then HLB.out.2 hbW
          have hrd := H3.out.1.below hbV
          obtain ⟨i, hi⟩ : ∃ i, (ordOf labels)[q]? = some i := ⟨_, List.getElem?_eq_getElem (by rw [HORD.out.1]; exact hlt)⟩
          have hin : i < labels.length := HORD.out.2 i (List.mem_of_getElem? hi)
          have ci := rd_ints hrd hi
          have cb := cell_below hbW c0
          obtain ⟨b, o, rfl, hc⟩ := (HL.out.below hbw).str (k := i) hin
          have cs := hc i hin
          obtain ⟨x, hx⟩ : ∃ x, labels[i] = x := ⟨_, rfl⟩
          rw [hx] at cs
          have hil : i < l.length := by rw [HLL.out]; exact hin
          obtain ⟨z, hz⟩ : ∃ z, l[i]? = some z := ⟨_, List.getElem?_eq_getElem hil⟩
          obtain ⟨ab, ao, rfl⟩ := HV.out.addr (by omega)
          have HCC := Lib.hid (And.intro hc (And.intro hrd (And.intro hi (And.intro hin (And.intro hx hz)))))
          have HBW := Lib.hid (And.intro hbV (And.intro hbW hbw))
          have HVI := Lib.hid ((vs_in HV.out).below' hbw)
          have hik : (i : Int) < (k : Int) := by have := HNN.out; omega
          have HLQ := Lib.hid (show (recT labels l (ordOf labels) q).1.length ≤ 4000000 ∧ (recT labels l (ordOf labels) q).2.length ≤ 4000000 from by have := recT_len labels l (ordOf labels) q; omega)
          have hbl : b < w.heap.size := HL.out.lt6 (by omega) rfl
          have hal : ab < w.heap.size := HV.out.rd.lt6 (by omega) rfl
          have hgl : w.heap.size < w3.heap.size := by have := HB3.out.2; have := HSZ.out; omega
          have HBG := Lib.hid (And.intro hbl (And.intro hal hgl))
          clear hbl hal hgl
          clear hbV hbW hbw hrd hi hc hx hz hil
          by_cases hnx : q + 1 < k
          · obtain ⟨i2, hi2⟩ : ∃ i, (ordOf labels)[q + 1]? = some i := ⟨_, List.getElem?_eq_getElem (by rw [HORD.out.1]; exact hnx)⟩
            have hin2 : i2 < labels.length := HORD.out.2 i2 (List.mem_of_getElem? hi2)
            have ci2 := rd_ints HCC.out.2.1 hi2
            have cs2 := HCC.out.1 i2 hin2
            obtain ⟨x2, hx2⟩ : ∃ x, labels[i2] = x := ⟨_, rfl⟩
            rw [hx2] at cs2
            have hik2 : (i2 : Int) < (k : Int) := by have := HNN.out; omega
            have d1 : decide ((q : Int) + 1 < (k : Int)) = true := decide_eq_true (by omega)
            have d1' : (q : Int) + 1 < (k : Int) := by omega
            have HCD := Lib.hid (And.intro hi2 hx2)
            clear hi2 hx2
            by_cases hxx : x2 = x
            · have fx : ((bstr x2).toList == (bstr x).toList) = true := by rw [beq_bstr]; simpa using hxx
              have HXX := Lib.hid hxx
              clear hxx
              go_upto_region 12 with fail
              go_quiet (fail)
              have HTV := Lib.hid (HTS.out.below (below_dN wr nq))
              generalize wr.drewN nq = V at HTV ⊢
              go_wp2_with fail
              go_roundw
              case rel => exact ⟨q + 1, c3, c4, cs', by go_num, hlt, (by rw [rec_same HORD.out.1 hnx HCD.out.1 HCC.out.2.2.1 HCD.out.2 HCC.out.2.2.2.2.1 HXX.out]; exact HTV.out)⟩
              case measure => simp [intOf] <;> omega
            · have fx : ((bstr x2).toList == (bstr x).toList) = false := by rw [beq_bstr]; simpa using hxx
              have HRT := Lib.hid (rec_more (l := l) (q := q) HCC.out.2.2.1 HCC.out.2.2.2.2.1 HCC.out.2.2.2.2.2 (fun h => hxx (rec_eq HCD.out.1 HCC.out.2.2.1 HCD.out.2 HCC.out.2.2.2.2.1 h.2)))
              clear hxx
              go_upto_region 12 with fail
              go_quiet (fail)
              have HTV := Lib.hid (HTS.out.below (below_dN wr nq))
              have HB9 := Lib.hid (below_dN wr nq)
              clear fx d1 d1' cs2 ci2
              go_upto_region 13 with fail
              generalize wr.drewN nq = V at HTV HB9 ⊢
              obtain ⟨Az, cz, pz, LAz, lcz, hvz, z0, z1, z2, z3, z4, z5⟩ := HVI.out.six i HCC.out.2.2.2.2.2 (ao + i * 6) (ao + i * 6 + 1) (ao + i * 6 + 2) (ao + i * 6 + 3) (ao + i * 6 + 4) (ao + i * 6 + 5) ⟨rfl, rfl, rfl, rfl, rfl, rfl⟩
              have HC2 := Lib.hid (show C2 w.heap.size b o i ab ao k lc x z LAz lcz Az cz pz V from ⟨cell_below HB9.out cb, cell_below HB9.out cs, cell_below HB9.out z0, cell_below HB9.out z1, cell_below HB9.out z2, cell_below HB9.out z3, cell_below HB9.out z4, cell_below HB9.out z5⟩)
              have HVZ := Lib.hid (hvz.keep (Tr.below HB9.out))
              clear hvz z0 z1 z2 z3 z4 z5 ci cb cs HB9
              refine rec13_any (fun _ _ _ _ _ h => h) HTV.out HC2.out HVZ.out ⟨HBG.out.2.2, Nat.lt_trans HBG.out.1 HBG.out.2.2, Nat.lt_trans HBG.out.2.1 HBG.out.2.2⟩ (by omega) hn HLQ.out ?_
              intro y54 y55 y56 y57 y58 y59 y60 y61 y62 y63 y64 y65 y66 y67 y68 y69 y70 y71 V' d3 d4 hts'
              have HT' := Lib.hid hts'
              clear hts' HTV HC2 HVZ
              go_wp2_with fail
              go_roundw
              case rel => exact ⟨q + 1, _, _, _, by go_num, hlt, (by rw [HRT.out]; exact HT'.out)⟩
              case measure => simp [intOf] <;> omega
          · have d1 : decide ((q : Int) + 1 < (k : Int)) = false := decide_eq_false (by omega)
            have d1' : ¬ (q : Int) + 1 < (k : Int) := by omega
            have HRT := Lib.hid (rec_more (l := l) (q := q) HCC.out.2.2.1 HCC.out.2.2.2.2.1 HCC.out.2.2.2.2.2 (fun h => hnx (by have := h.1; rw [HORD.out.1] at this; exact this)))
            go_upto_region 12 with fail
            go_quiet (fail)
            have HTV := Lib.hid (HTS.out.below (below_dN wr nq))
            have HB9 := Lib.hid (below_dN wr nq)
            clear d1 d1'
            go_upto_region 13 with fail
            generalize wr.drewN nq = V at HTV HB9 ⊢
            obtain ⟨Az, cz, pz, LAz, lcz, hvz, z0, z1, z2, z3, z4, z5⟩ := HVI.out.six i HCC.out.2.2.2.2.2 (ao + i * 6) (ao + i * 6 + 1) (ao + i * 6 + 2) (ao + i * 6 + 3) (ao + i * 6 + 4) (ao + i * 6 + 5) ⟨rfl, rfl, rfl, rfl, rfl, rfl⟩
            have HC2 := Lib.hid (show C2 w.heap.size b o i ab ao k lc x z LAz lcz Az cz pz V from ⟨cell_below HB9.out cb, cell_below HB9.out cs, cell_below HB9.out z0, cell_below HB9.out z1, cell_below HB9.out z2, cell_below HB9.out z3, cell_below HB9.out z4, cell_below HB9.out z5⟩)
            have HVZ := Lib.hid (hvz.keep (Tr.below HB9.out))
            clear hvz z0 z1 z2 z3 z4 z5 ci cb cs HB9
            refine rec13_any (fun _ _ _ _ _ h => h) HTV.out HC2.out HVZ.out ⟨HBG.out.2.2, Nat.lt_trans HBG.out.1 HBG.out.2.2, Nat.lt_trans HBG.out.2.1 HBG.out.2.2⟩ (by omega) hn HLQ.out ?_
            intro y54 y55 y56 y57 y58 y59 y60 y61 y62 y63 y64 y65 y66 y67 y68 y69 y70 y71 V' d3 d4 hts'
            have HT' := Lib.hid hts'
            clear hts' HTV HC2 HVZ
            go_wp2_with fail
            go_roundw
            case rel => exact ⟨q + 1, _, _, _, by go_num, hlt, (by rw [HRT.out]; exact HT'.out)⟩
            case measure => simp [intOf] <;> omega
        · have hqk : q = k := by omega
          subst hqk
          have hltz : ¬ (q : Int) < (q : Int) := by omega
          have hts := HTS.out
          clear HTS
          obtain ⟨A3, k3, rfl, m3a, m3b, _⟩ := own_cap hts.o3
          obtain ⟨A4, k4, rfl, m4a, m4b, _⟩ := own_cap hts.o4
          have hbV : Below w3.heap.size w3 wr := ((Below.refl _ _).alloc (Nat.le_refl _) _).trans hts.bl
          have hbW : Below W1.heap.size W1 wr := HB3.out.1.trans (hbV.mono (Nat.le_of_lt HB3.out.2))
          have hx4 : wr.heap[w.heap.size + 1]? = some (.cells #[.int .i64 0, .int .i64 0, .string ⟨#[]⟩, .slice none 0 0, .slice none 0 0, .pointer none] 45) := (hbW.block _ (by have := HSZ.out; omega)).trans HX4.out
          obtain ⟨a0, a1, a2, a3, a4, a5⟩ := cells6 hts.hd
          obtain ⟨d40, d41, d42, d43, d44, d45⟩ := cells6 hx4
          have f0 := frozenN hx4 0
          have f1 := frozenN hx4 1
          have f2 := frozenN hx4 2
          have f3 := frozenN hx4 3
          have f4 := frozenN hx4 4
          have f5 := frozenN hx4 5
          obtain ⟨y1, y2, y3⟩ := own_block6 hx4 (.int .i64 4) (.int .i64 0) (.string ⟨#[]⟩) (.slice A3 (recT labels l (ordOf labels) q).1.length k3) (.slice A4 (recT labels l (ordOf labels) q).2.length k4) (.pointer none) (below_then HLB.out.2 hbW) (show w.heap.size ≤ w.heap.size + 1 by omega)
          have hv : VR w0 wr (fun b => (P b ∧ b < w.heap.size) ∨ w3.heap.size < b) (.mk 4 0 [] (recT labels l (ordOf labels) q).1 (recT labels l (ordOf labels) q).2 none) [.int .i64 4, .int .i64 0, .string (bstr []), .slice A3 (recT labels l (ordOf labels) q).1.length k3, .slice A4 (recT labels l (ordOf labels) q).2.length k4, .pointer none] :=
            Vs.vr ⟨Rd.of_own hts.o4, hts.lr.imp (fun a c => VR.keep (fun b hb _ => ⟨.inl hb, rfl⟩))⟩ (fun hn' a ha => .inr (by subst ha; have := (hts.o4.lt a.block rfl).1; omega)) ⟨m4a, m4b⟩ ⟨Rd.of_own hts.o3, fun hn' a ha => ⟨.inr (by subst ha; have := (hts.o3.lt a.block rfl).1; omega), own_off hts.o3 a ha⟩, m3a, m3b⟩ 4 0 []
          have hgl : w.heap.size + 1 < w3.heap.size := by have := HB3.out.2; have := HSZ.out; omega
          have hv' := hv.keep (Q := P) (fun b hb hlt => ⟨(by rcases hb with hb | hb; exact hb.1; exact HP.out b (by omega)), y3 b (by rcases hb with hb | hb; have := hb.2; omega; omega)⟩)
          have hlen := recT_len labels l (ordOf labels) q
          have HR := Lib.hid (And.intro y1 (And.intro y2 hv'))
          have HNN2 := Lib.hid HNN.out
          clear y1 y2 y3 hv hv' hx4 hbV hbW hts hlen
          go_wp2_with fail
          with_reducible refine rec_ret HR.out.1 _ ?_ ?_
          · rfl
          refine ⟨A3, k3, A4, k4, ?_, ?_, HR.out.2.1⟩
          · unfold recOf; rw [HNN2.out]; rfl
          · unfold recOf; rw [HNN2.out]; exact HR.out.2.2
end Go.Proofs.YtjmgnohepoacbaaDoor

namespace Go.Proofs.YtjmgnohepoacbaaDoor
open Go Go.ChangeShapes Go.WideShapes Go.ChangeAt Go.RowKit Go.Sort
set_option linter.unusedVariables false
set_option linter.unusedSimpArgs false

def q38_0 : Oper := { dst := some 18, op := Go.Op.fieldAddr 41 (Go.Operand.tmp 3) 0, type := 0, pos := "apply.go:67", after := #[], guard := none }
def q38_1 : Oper := { dst := some 19, op := Go.Op.load 38 (Go.Operand.tmp 18), type := 38, pos := "apply.go:67", after := #[{ on := 0, ground := Go.Ground.data }], guard := none }
def q38_2 : Oper := { dst := some 20, op := Go.Op.fieldAddr 45 (Go.Operand.tmp 5) 3, type := 0, pos := "apply.go:67", after := #[], guard := none }
def q38_3 : Oper := { dst := some 21, op := Go.Op.load 22 (Go.Operand.tmp 20), type := 22, pos := "apply.go:67", after := #[{ on := 2, ground := Go.Ground.data }], guard := none }
def q38_4 : Oper := { dst := some 22, op := Go.Op.move (Go.Operand.tmp 6), type := 3, pos := "apply.go:67", after := #[], guard := none }
def q38_5 : Oper := { dst := some 23, op := Go.Op.slice 22 (Go.Operand.tmp 21) none (some (Go.Operand.tmp 22)) none, type := 22, pos := "apply.go:67", after := #[{ on := 3, ground := Go.Ground.data }, { on := 4, ground := Go.Ground.data }], guard := none }
def q38_6 : Oper := { dst := some 24, op := Go.Op.fieldAddr 45 (Go.Operand.tmp 5) 3, type := 0, pos := "apply.go:67", after := #[], guard := none }
def q38_7 : Oper := { dst := some 25, op := Go.Op.load 22 (Go.Operand.tmp 24), type := 22, pos := "apply.go:67", after := #[{ on := 6, ground := Go.Ground.data }], guard := none }
def q38_8 : Oper := { dst := some 26, op := Go.Op.move (Go.Operand.tmp 6), type := 3, pos := "apply.go:67", after := #[], guard := none }
def q38_9 : Oper := { dst := some 27, op := Go.Op.binOp Go.BinOp.add 3 (Go.Operand.tmp 26) (Go.Operand.const (Go.Value.int Go.IntKind.i64 1)) 3, type := 3, pos := "apply.go:67", after := #[{ on := 8, ground := Go.Ground.data }], guard := none }
def q38_10 : Oper := { dst := some 28, op := Go.Op.slice 22 (Go.Operand.tmp 25) (some (Go.Operand.tmp 27)) none none, type := 22, pos := "apply.go:67", after := #[{ on := 7, ground := Go.Ground.data }, { on := 9, ground := Go.Ground.data }], guard := none }
def q38_11 : Oper := { dst := some 29, op := Go.Op.buildSlice 109 2 #[(0, Go.Operand.tmp 23), (1, Go.Operand.tmp 28)], type := 109, pos := "apply.go:67", after := #[{ on := 5, ground := Go.Ground.data }, { on := 10, ground := Go.Ground.data }], guard := none }
def q38_12 : Oper := { dst := some 30, op := Go.Op.call { callee := Go.Callee.value (Go.Operand.func 60), args := #[Go.Operand.tmp 29], argTypes := #[109] }, type := 22, pos := "apply.go:69", after := #[{ on := 11, ground := Go.Ground.data }], guard := none }
def q38_13 : Oper := { dst := some 31, op := Go.Op.fieldAddr 45 (Go.Operand.tmp 5) 4, type := 0, pos := "apply.go:67", after := #[], guard := none }
def q38_14 : Oper := { dst := some 32, op := Go.Op.load 42 (Go.Operand.tmp 31), type := 42, pos := "apply.go:67", after := #[{ on := 13, ground := Go.Ground.data }], guard := none }
def q38_15 : Oper := { dst := some 33, op := Go.Op.move (Go.Operand.tmp 6), type := 3, pos := "apply.go:67", after := #[], guard := none }
def q38_16 : Oper := { dst := some 34, op := Go.Op.slice 42 (Go.Operand.tmp 32) none (some (Go.Operand.tmp 33)) none, type := 42, pos := "apply.go:67", after := #[{ on := 14, ground := Go.Ground.data }, { on := 15, ground := Go.Ground.data }], guard := none }
def q38_17 : Oper := { dst := some 35, op := Go.Op.fieldAddr 45 (Go.Operand.tmp 5) 4, type := 0, pos := "apply.go:67", after := #[], guard := none }
def q38_18 : Oper := { dst := some 36, op := Go.Op.load 42 (Go.Operand.tmp 35), type := 42, pos := "apply.go:67", after := #[{ on := 17, ground := Go.Ground.data }], guard := none }
def q38_19 : Oper := { dst := some 37, op := Go.Op.move (Go.Operand.tmp 6), type := 3, pos := "apply.go:67", after := #[], guard := none }
def q38_20 : Oper := { dst := some 38, op := Go.Op.binOp Go.BinOp.add 3 (Go.Operand.tmp 37) (Go.Operand.const (Go.Value.int Go.IntKind.i64 1)) 3, type := 3, pos := "apply.go:67", after := #[{ on := 19, ground := Go.Ground.data }], guard := none }
def q38_21 : Oper := { dst := some 39, op := Go.Op.slice 42 (Go.Operand.tmp 36) (some (Go.Operand.tmp 38)) none none, type := 42, pos := "apply.go:67", after := #[{ on := 18, ground := Go.Ground.data }, { on := 20, ground := Go.Ground.data }], guard := none }
def q38_22 : Oper := { dst := some 40, op := Go.Op.buildSlice 111 2 #[(0, Go.Operand.tmp 34), (1, Go.Operand.tmp 39)], type := 111, pos := "apply.go:67", after := #[{ on := 16, ground := Go.Ground.data }, { on := 21, ground := Go.Ground.data }], guard := none }
def q38_23 : Oper := { dst := some 41, op := Go.Op.call { callee := Go.Callee.value (Go.Operand.func 61), args := #[Go.Operand.tmp 40], argTypes := #[111] }, type := 42, pos := "apply.go:70", after := #[{ on := 22, ground := Go.Ground.data }, { on := 12, ground := Go.Ground.chain }], guard := none }
def q38_24 : Oper := { dst := some 42, op := Go.Op.build 45 #[(0, Go.Operand.const (Go.Value.int Go.IntKind.i64 4)), (3, Go.Operand.tmp 30), (4, Go.Operand.tmp 41)], type := 45, pos := "apply.go:67", after := #[{ on := 12, ground := Go.Ground.data }, { on := 23, ground := Go.Ground.data }], guard := none }
def q38_25 : Oper := { dst := some 43, op := Go.Op.call { callee := Go.Callee.value (Go.Operand.func 21), args := #[Go.Operand.tmp 19, Go.Operand.tmp 42], argTypes := #[38, 45] }, type := 0, pos := "apply.go:67", after := #[{ on := 1, ground := Go.Ground.data }, { on := 24, ground := Go.Ground.data }, { on := 23, ground := Go.Ground.chain }], guard := none }
def q38 : Array Oper := #[q38_0, q38_1, q38_2, q38_3, q38_4, q38_5, q38_6, q38_7, q38_8, q38_9, q38_10, q38_11, q38_12, q38_13, q38_14, q38_15, q38_16, q38_17, q38_18, q38_19, q38_20, q38_21, q38_22, q38_23, q38_24, q38_25]
/-- Values that stand, in memory that nobody writes. -/
def Fs (w0 : World) (P : Nat → Prop) (l : List Val) (A : Option Addr) (c : Nat) (w : World) : Prop := ∃ css, Vs w0 w P l A css ∧ (0 < l.length → ∀ a, A = some a → P a.block) ∧ (l.length ≤ c ∧ c ≤ maxLen)
theorem Fs.below {w0 w w' : World} {P : Nat → Prop} {l : List Val} {A : Option Addr} {c : Nat} (h : Fs w0 P l A c w) (hb : Below w.heap.size w w') : Fs w0 P l A c w' := by
  obtain ⟨css, h1, h2, h3⟩ := h
  exact ⟨css, h1.below hb, h2, h3⟩
def FL (P : Nat → Prop) (l : List Str) (A : Option Addr) (c : Nat) (w : World) : Prop := Ls w P l A c
theorem FL.below {w w' : World} {P : Nat → Prop} {l : List Str} {A : Option Addr} {c : Nat} (h : FL P l A c w) (hb : Below w.heap.size w w') : FL P l A c w' := Ls.below h hb
def C38 (mb b3 b5 : Nat) (LA : Option Addr) (n lc : Nat) (A : Option Addr) (c : Nat) (V : World) : Prop := V.cell? ⟨b3, 0, none⟩ = some (.pointer (some ⟨mb, 0, none⟩)) ∧ V.cell? ⟨b5, 3, none⟩ = some (.slice LA n lc) ∧ V.cell? ⟨b5, 4, none⟩ = some (.slice A n c)
theorem C38.keep {mb b3 b5 : Nat} {LA : Option Addr} {n lc : Nat} {A : Option Addr} {c : Nat} {V V' : World} (h : C38 mb b3 b5 LA n lc A c V) (hb : Below V.heap.size V V') : C38 mb b3 b5 LA n lc A c V' := ⟨cell_below hb h.1, cell_below hb h.2.1, cell_below hb h.2.2⟩
set_option maxHeartbeats 4000000 in
set_option maxRecDepth 100000 in
theorem reg38_any {Q : Exit → Act → World → Prop} (hQp : ∀ c (a : Act) (d : Tmp) v w, Q (.panic c) (a.put (some d) v) w → Q (.panic c) a w) {w0 V : World} {P : Nat → Prop} {Good : World → Prop} {mb b3 b5 k n lc c : Nat} {lab lao vab vao : Nat} {LA3 A3 : Option Addr} {labs : List Str} {vals : List Val}
    (hS : (C38 mb b3 b5 (some ⟨lab, lao, none⟩) n lc (some ⟨vab, vao, none⟩) c) V) (hk : k < n) (hlc : n ≤ lc ∧ lc ≤ maxLen) (hc : n ≤ c ∧ c ≤ maxLen) (hL3 : (if lc = k + 1 then some (⟨lab, lao, none⟩ : Addr) else some ⟨lab, lao + (k + 1), none⟩) = LA3) (hA3 : (if c = k + 1 then some (⟨vab, vao, none⟩ : Addr) else some ⟨vab, vao + (k + 1) * 6, none⟩) = A3)
    (hCS : ∀ V' g, Below V.heap.size V V' → Rd V' 1 (some ⟨g, 0, none⟩) 2 [.slice (some ⟨lab, lao, none⟩) k lc, .slice LA3 (n - (k + 1)) (lc - (k + 1))] → Calls Tryd.prog 60 #[.slice (some ⟨g, 0, none⟩) 2 2] V' fun e w' => ∃ A c, e = .returned (.slice A labs.length c) ∧ FL P labs A c w' ∧ Below V'.heap.size V' w')
    (hCV : ∀ V' g, Below V.heap.size V V' → Rd V' 1 (some ⟨g, 0, none⟩) 2 [.slice (some ⟨vab, vao, none⟩) k c, .slice A3 (n - (k + 1)) (c - (k + 1))] → Calls Tryd.prog 61 #[.slice (some ⟨g, 0, none⟩) 2 2] V' fun e w' => ∃ A c, e = .returned (.slice A vals.length c) ∧ Fs w0 P vals A c w' ∧ Below V'.heap.size V' w')
    (hT : ∀ V' LA' lc' A' c', Below V.heap.size V V' → FL P labs LA' lc' V' → Fs w0 P vals A' c' V' → Calls Tryd.prog 21 #[.pointer (some ⟨mb, 0, none⟩), .agg #[.int .i64 4, .int .i64 0, .string ⟨#[]⟩, .slice LA' labs.length lc', .slice A' vals.length c', .pointer none]] V' fun e w' => e = .returned (.tuple #[]) ∧ Good w' ∧ (C38 mb b3 b5 (some ⟨lab, lao, none⟩) n lc (some ⟨vab, vao, none⟩) c) w') {u0 u1 u2 u4 u7 u8 u9 u10 u11 u12 u13 u14 u15 u16 u17 u18 u19 u20 u21 u22 u23 u24 u25 u26 u27 u28 u29 u30 u31 u32 u33 u34 u35 u36 u37 u38 u39 u40 u41 u42 u43 u44 u45 u46 u47 u48 u49 u50 u51 u52 u53 u54 u55 u56 u57 u58 u59 u60 u61 u62 u63 u64 u65 u66 u67 u68 : Value}
    (hKK : ∀ (y18 : Value) (y19 : Value) (y20 : Value) (y21 : Value) (y22 : Value) (y23 : Value) (y24 : Value) (y25 : Value) (y26 : Value) (y27 : Value) (y28 : Value) (y29 : Value) (y30 : Value) (y31 : Value) (y32 : Value) (y33 : Value) (y34 : Value) (y35 : Value) (y36 : Value) (y37 : Value) (y38 : Value) (y39 : Value) (y40 : Value) (y41 : Value) (y42 : Value) (y43 : Value) V', Good V' → Q .normal ⟨#[u0, u1, u2, .pointer (some ⟨b3, 0, none⟩), u4, .pointer (some ⟨b5, 0, none⟩), .int .i64 (k : Nat), u7, u8, u9, u10, u11, u12, u13, u14, u15, u16, u17, y18, y19, y20, y21, y22, y23, y24, y25, y26, y27, y28, y29, y30, y31, y32, y33, y34, y35, y36, y37, y38, y39, y40, y41, y42, y43, u44, u45, u46, u47, u48, u49, u50, u51, u52, u53, u54, u55, u56, u57, u58, u59, u60, u61, u62, u63, u64, u65, u66, u67, u68], []⟩ V') :
    Code.wp Tryd.prog (.region 2 q38 true) Q ⟨#[u0, u1, u2, .pointer (some ⟨b3, 0, none⟩), u4, .pointer (some ⟨b5, 0, none⟩), .int .i64 (k : Nat), u7, u8, u9, u10, u11, u12, u13, u14, u15, u16, u17, u18, u19, u20, u21, u22, u23, u24, u25, u26, u27, u28, u29, u30, u31, u32, u33, u34, u35, u36, u37, u38, u39, u40, u41, u42, u43, u44, u45, u46, u47, u48, u49, u50, u51, u52, u53, u54, u55, u56, u57, u58, u59, u60, u61, u62, u63, u64, u65, u66, u67, u68], []⟩ V := by
  have n0 : (0 : Int) ≤ (k : Int) := by omega
  have n1 : (k : Int) < (n : Int) := by omega
  have n3 : (n : Int) ≤ (lc : Int) := by omega
  have n3' : (n : Int) ≤ (c : Int) := by omega
  have n4 : (k : Int) ≤ (lc : Int) := by omega
  have n4' : (k : Int) ≤ (c : Int) := by omega
  have n7 : (lc : Int) ≤ 9223372036854775807 := by have := hlc.2; simp only [maxLen] at this; omega
  have n7' : (c : Int) ≤ 9223372036854775807 := by have := hc.2; simp only [maxLen] at this; omega
  have n5 : (k : Int) + 1 ≤ (n : Int) := by omega
  have n6 : (0 : Int) ≤ (k : Int) + 1 := by omega
  have n8 : IntKind.i64.wrap ((k : Int) + 1) = (k : Int) + 1 := by rw [IntKind.wrap_i64]; omega
  have n9 : (k : Int) + 1 ≤ (lc : Int) := by omega
  have n9' : (k : Int) + 1 ≤ (c : Int) := by omega
  have eCS : ∀ args w, (callFunc 60 args).run Tryd.prog w = .ok (.enter 60 args) w := enters_of Tryd.func60 (by kernel_rfl) rfl
  have eCV : ∀ args w, (callFunc 61 args).run Tryd.prog w = .ok (.enter 61 args) w := enters_of Tryd.func61 (by kernel_rfl) rfl
  have eT : ∀ args w, (callFunc 21 args).run Tryd.prog w = .ok (.enter 21 args) w := enters_of Tryd.func21 (by kernel_rfl) rfl
  have HCS := Lib.hid hCS
  have HCV := Lib.hid hCV
  have HTELL := Lib.hid hT
  have hKK := Lib.hid hKK
  have HB0 := Lib.hid (Below.drew (Below.refl V.heap.size V))
  have HS0 := Lib.hid (hS.keep HB0.out)
  clear hS hCS hCV hT hk hlc hc
  refine wp_region_C (S1 := fun _ => True) (S2 := (C38 mb b3 b5 (some ⟨lab, lao, none⟩) n lc (some ⟨vab, vao, none⟩) c)) (ss := []) (by kernel_rfl) ?_
  generalize V.drew = W9 at HB0 HS0 ⊢
  refine wpAnyC_takeY (i := 0) (oi := q38_0) (v := ?vx1_81165) (by kernel_rfl) (by kernel_rfl) (by kernel_rfl) (by kernel_rfl) ⟨HS0.out, fun _ => trivial⟩ rfl (fun c a w h => hQp c a _ _ w h) rfl ?hyx1_81165 ?restx1_81165
  case hyx1_81165 => intro W hSw; obtain ⟨s0, s1, s2⟩ := hSw; unfold q38_0; go_simp; try with_reducible rfl
  try simp only [q38_0, Act.put, List.setIfInBounds_toArray, List.set_cons_zero, List.set_cons_succ]
  refine wpAnyC_takeY (i := 1) (oi := q38_1) (v := ?vx2_81165) (by kernel_rfl) (by kernel_rfl) (by kernel_rfl) (by kernel_rfl) ⟨HS0.out, fun _ => trivial⟩ rfl (fun c a w h => hQp c a _ _ w h) rfl ?hyx2_81165 ?restx2_81165
  case hyx2_81165 => intro W hSw; obtain ⟨s0, s1, s2⟩ := hSw; unfold q38_1; go_simp; try with_reducible rfl
  try simp only [q38_1, Act.put, List.setIfInBounds_toArray, List.set_cons_zero, List.set_cons_succ]
  refine wpAnyC_takeY (i := 2) (oi := q38_2) (v := ?vx3_81165) (by kernel_rfl) (by kernel_rfl) (by kernel_rfl) (by kernel_rfl) ⟨HS0.out, fun _ => trivial⟩ rfl (fun c a w h => hQp c a _ _ w h) rfl ?hyx3_81165 ?restx3_81165
  case hyx3_81165 => intro W hSw; obtain ⟨s0, s1, s2⟩ := hSw; unfold q38_2; go_simp; try with_reducible rfl
  try simp only [q38_2, Act.put, List.setIfInBounds_toArray, List.set_cons_zero, List.set_cons_succ]
  refine wpAnyC_takeY (i := 3) (oi := q38_3) (v := ?vx4_81165) (by kernel_rfl) (by kernel_rfl) (by kernel_rfl) (by kernel_rfl) ⟨HS0.out, fun _ => trivial⟩ rfl (fun c a w h => hQp c a _ _ w h) rfl ?hyx4_81165 ?restx4_81165
  case hyx4_81165 => intro W hSw; obtain ⟨s0, s1, s2⟩ := hSw; unfold q38_3; go_simp; try with_reducible rfl
  try simp only [q38_3, Act.put, List.setIfInBounds_toArray, List.set_cons_zero, List.set_cons_succ]
  refine wpAnyC_takeY (i := 4) (oi := q38_4) (v := ?vx5_81165) (by kernel_rfl) (by kernel_rfl) (by kernel_rfl) (by kernel_rfl) ⟨HS0.out, fun _ => trivial⟩ rfl (fun c a w h => hQp c a _ _ w h) rfl ?hyx5_81165 ?restx5_81165
  case hyx5_81165 => intro W hSw; obtain ⟨s0, s1, s2⟩ := hSw; unfold q38_4; go_simp; try with_reducible rfl
  try simp only [q38_4, Act.put, List.setIfInBounds_toArray, List.set_cons_zero, List.set_cons_succ]
  refine wpAnyC_takeY (i := 5) (oi := q38_5) (v := ?vx6_81165) (by kernel_rfl) (by kernel_rfl) (by kernel_rfl) (by kernel_rfl) ⟨HS0.out, fun _ => trivial⟩ rfl (fun c a w h => hQp c a _ _ w h) rfl ?hyx6_81165 ?restx6_81165
  case hyx6_81165 => intro W hSw; obtain ⟨s0, s1, s2⟩ := hSw; unfold q38_5; go_simp; try with_reducible rfl
  try simp only [q38_5, Act.put, List.setIfInBounds_toArray, List.set_cons_zero, List.set_cons_succ]
  refine wpAnyC_takeY (i := 6) (oi := q38_6) (v := ?vx7_81165) (by kernel_rfl) (by kernel_rfl) (by kernel_rfl) (by kernel_rfl) ⟨HS0.out, fun _ => trivial⟩ rfl (fun c a w h => hQp c a _ _ w h) rfl ?hyx7_81165 ?restx7_81165
  case hyx7_81165 => intro W hSw; obtain ⟨s0, s1, s2⟩ := hSw; unfold q38_6; go_simp; try with_reducible rfl
  try simp only [q38_6, Act.put, List.setIfInBounds_toArray, List.set_cons_zero, List.set_cons_succ]
  refine wpAnyC_takeY (i := 7) (oi := q38_7) (v := ?vx8_81165) (by kernel_rfl) (by kernel_rfl) (by kernel_rfl) (by kernel_rfl) ⟨HS0.out, fun _ => trivial⟩ rfl (fun c a w h => hQp c a _ _ w h) rfl ?hyx8_81165 ?restx8_81165
  case hyx8_81165 => intro W hSw; obtain ⟨s0, s1, s2⟩ := hSw; unfold q38_7; go_simp; try with_reducible rfl
  try simp only [q38_7, Act.put, List.setIfInBounds_toArray, List.set_cons_zero, List.set_cons_succ]
  refine wpAnyC_takeY (i := 8) (oi := q38_8) (v := ?vx9_81165) (by kernel_rfl) (by kernel_rfl) (by kernel_rfl) (by kernel_rfl) ⟨HS0.out, fun _ => trivial⟩ rfl (fun c a w h => hQp c a _ _ w h) rfl ?hyx9_81165 ?restx9_81165
  case hyx9_81165 => intro W hSw; obtain ⟨s0, s1, s2⟩ := hSw; unfold q38_8; go_simp; try with_reducible rfl
  try simp only [q38_8, Act.put, List.setIfInBounds_toArray, List.set_cons_zero, List.set_cons_succ]
  refine wpAnyC_takeY (i := 9) (oi := q38_9) (v := ?vx10_81165) (by kernel_rfl) (by kernel_rfl) (by kernel_rfl) (by kernel_rfl) ⟨HS0.out, fun _ => trivial⟩ rfl (fun c a w h => hQp c a _ _ w h) rfl ?hyx10_81165 ?restx10_81165
  case hyx10_81165 => intro W hSw; obtain ⟨s0, s1, s2⟩ := hSw; unfold q38_9; go_simp; try with_reducible rfl
  try simp only [q38_9, Act.put, List.setIfInBounds_toArray, List.set_cons_zero, List.set_cons_succ]
  refine wpAnyC_takeY (i := 10) (oi := q38_10) (v := ?vx11_81165) (by kernel_rfl) (by kernel_rfl) (by kernel_rfl) (by kernel_rfl) ⟨HS0.out, fun _ => trivial⟩ rfl (fun c a w h => hQp c a _ _ w h) rfl ?hyx11_81165 ?restx11_81165
  case hyx11_81165 => intro W hSw; obtain ⟨s0, s1, s2⟩ := hSw; unfold q38_10; go_simp; try with_reducible rfl
  try simp only [q38_10, Act.put, List.setIfInBounds_toArray, List.set_cons_zero, List.set_cons_succ]
  refine wpAnyC_takeY (i := 13) (oi := q38_13) (v := ?vx12_81165) (by kernel_rfl) (by kernel_rfl) (by kernel_rfl) (by kernel_rfl) ⟨HS0.out, fun _ => trivial⟩ rfl (fun c a w h => hQp c a _ _ w h) rfl ?hyx12_81165 ?restx12_81165
  case hyx12_81165 => intro W hSw; obtain ⟨s0, s1, s2⟩ := hSw; unfold q38_13; go_simp; try with_reducible rfl
  try simp only [q38_13, Act.put, List.setIfInBounds_toArray, List.set_cons_zero, List.set_cons_succ]
  refine wpAnyC_takeY (i := 14) (oi := q38_14) (v := ?vx13_81165) (by kernel_rfl) (by kernel_rfl) (by kernel_rfl) (by kernel_rfl) ⟨HS0.out, fun _ => trivial⟩ rfl (fun c a w h => hQp c a _ _ w h) rfl ?hyx13_81165 ?restx13_81165
  case hyx13_81165 => intro W hSw; obtain ⟨s0, s1, s2⟩ := hSw; unfold q38_14; go_simp; try with_reducible rfl
  try simp only [q38_14, Act.put, List.setIfInBounds_toArray, List.set_cons_zero, List.set_cons_succ]
  refine wpAnyC_takeY (i := 15) (oi := q38_15) (v := ?vx14_81165) (by kernel_rfl) (by kernel_rfl) (by kernel_rfl) (by kernel_rfl) ⟨HS0.out, fun _ => trivial⟩ rfl (fun c a w h => hQp c a _ _ w h) rfl ?hyx14_81165 ?restx14_81165
  case hyx14_81165 => intro W hSw; obtain ⟨s0, s1, s2⟩ := hSw; unfold q38_15; go_simp; try with_reducible rfl
  try simp only [q38_15, Act.put, List.setIfInBounds_toArray, List.set_cons_zero, List.set_cons_succ]
  refine wpAnyC_takeY (i := 16) (oi := q38_16) (v := ?vx15_81165) (by kernel_rfl) (by kernel_rfl) (by kernel_rfl) (by kernel_rfl) ⟨HS0.out, fun _ => trivial⟩ rfl (fun c a w h => hQp c a _ _ w h) rfl ?hyx15_81165 ?restx15_81165
  case hyx15_81165 => intro W hSw; obtain ⟨s0, s1, s2⟩ := hSw; unfold q38_16; go_simp; try with_reducible rfl
  try simp only [q38_16, Act.put, List.setIfInBounds_toArray, List.set_cons_zero, List.set_cons_succ]
  refine wpAnyC_takeY (i := 17) (oi := q38_17) (v := ?vx16_81165) (by kernel_rfl) (by kernel_rfl) (by kernel_rfl) (by kernel_rfl) ⟨HS0.out, fun _ => trivial⟩ rfl (fun c a w h => hQp c a _ _ w h) rfl ?hyx16_81165 ?restx16_81165
  case hyx16_81165 => intro W hSw; obtain ⟨s0, s1, s2⟩ := hSw; unfold q38_17; go_simp; try with_reducible rfl
  try simp only [q38_17, Act.put, List.setIfInBounds_toArray, List.set_cons_zero, List.set_cons_succ]
  refine wpAnyC_takeY (i := 18) (oi := q38_18) (v := ?vx17_81165) (by kernel_rfl) (by kernel_rfl) (by kernel_rfl) (by kernel_rfl) ⟨HS0.out, fun _ => trivial⟩ rfl (fun c a w h => hQp c a _ _ w h) rfl ?hyx17_81165 ?restx17_81165
  case hyx17_81165 => intro W hSw; obtain ⟨s0, s1, s2⟩ := hSw; unfold q38_18; go_simp; try with_reducible rfl
  try simp only [q38_18, Act.put, List.setIfInBounds_toArray, List.set_cons_zero, List.set_cons_succ]
  refine wpAnyC_takeY (i := 19) (oi := q38_19) (v := ?vx18_81165) (by kernel_rfl) (by kernel_rfl) (by kernel_rfl) (by kernel_rfl) ⟨HS0.out, fun _ => trivial⟩ rfl (fun c a w h => hQp c a _ _ w h) rfl ?hyx18_81165 ?restx18_81165
  case hyx18_81165 => intro W hSw; obtain ⟨s0, s1, s2⟩ := hSw; unfold q38_19; go_simp; try with_reducible rfl
  try simp only [q38_19, Act.put, List.setIfInBounds_toArray, List.set_cons_zero, List.set_cons_succ]
  refine wpAnyC_takeY (i := 20) (oi := q38_20) (v := ?vx19_81165) (by kernel_rfl) (by kernel_rfl) (by kernel_rfl) (by kernel_rfl) ⟨HS0.out, fun _ => trivial⟩ rfl (fun c a w h => hQp c a _ _ w h) rfl ?hyx19_81165 ?restx19_81165
  case hyx19_81165 => intro W hSw; obtain ⟨s0, s1, s2⟩ := hSw; unfold q38_20; go_simp; try with_reducible rfl
  try simp only [q38_20, Act.put, List.setIfInBounds_toArray, List.set_cons_zero, List.set_cons_succ]
  refine wpAnyC_takeY (i := 21) (oi := q38_21) (v := ?vx20_81165) (by kernel_rfl) (by kernel_rfl) (by kernel_rfl) (by kernel_rfl) ⟨HS0.out, fun _ => trivial⟩ rfl (fun c a w h => hQp c a _ _ w h) rfl ?hyx20_81165 ?restx20_81165
  case hyx20_81165 => intro W hSw; obtain ⟨s0, s1, s2⟩ := hSw; unfold q38_21; go_simp; try with_reducible rfl
  try simp only [q38_21, Act.put, List.setIfInBounds_toArray, List.set_cons_zero, List.set_cons_succ]
  refine wpAnyC_two (i := 11) (i' := 22) (o := q38_11) (o' := q38_22) (by kernel_rfl) rfl rfl ?_ ?_
  · intro K1 hK1
    have HK1 := Lib.hid hK1
    clear hK1
    unfold q38_11
    refine step_eq rfl (v := .slice (some ⟨W9.heap.size, 0, none⟩) 2 2) (w' := W9.alloc (.cells #[.slice (some ⟨lab, lao, none⟩) k lc, .slice LA3 (n - (k + 1)) (lc - (k + 1))] 22)) ?hrl21_59307 ?hnl21_59307
    case hrl21_59307 => go_simp; try with_reducible rfl
    have HA1 := Lib.hid (show Below W9.heap.size W9 (W9.alloc (.cells #[.slice (some ⟨lab, lao, none⟩) k lc, .slice LA3 (n - (k + 1)) (lc - (k + 1))] 22)) from (Below.refl _ _).alloc (Nat.le_refl _) _)
    have HB1 := Lib.hid (below_then HB0.out HA1.out)
    have HS1 := Lib.hid (HS0.out.keep HA1.out)
    have HR11_1 := Lib.hid (show Rd (W9.alloc (.cells #[.slice (some ⟨lab, lao, none⟩) k lc, .slice LA3 (n - (k + 1)) (lc - (k + 1))] 22)) 1 (some ⟨W9.heap.size, 0, none⟩) 2 [.slice (some ⟨lab, lao, none⟩) k lc, .slice LA3 (n - (k + 1)) (lc - (k + 1))] from Rd.lit (size := 1) (n := 2) W9 #[.slice (some ⟨lab, lao, none⟩) k lc, .slice LA3 (n - (k + 1)) (lc - (k + 1))] _ rfl (fr := (0, 0)))
    refine HK1.out _ _ HS1.out (fun _ => trivial) ?_
    clear HK1 K1
    generalize W9.alloc (.cells #[.slice (some ⟨lab, lao, none⟩) k lc, .slice LA3 (n - (k + 1)) (lc - (k + 1))] 22) = V1 at HB1 HS1 HR11_1 HA1 ⊢
    try simp only [Act.put, List.setIfInBounds_toArray, List.set_cons_zero, List.set_cons_succ]
    refine wpAnyC_two (i := 12) (i' := 22) (o := q38_12) (o' := q38_22) (by kernel_rfl) rfl rfl ?_ ?_
    · intro K2 hK2
      have HK2 := Lib.hid hK2
      clear hK2
      unfold q38_12
      refine step_call (F := 60) (args := ?arc22_58603) rfl ?hrc22_58603 ?hcc22_58603
      case hrc22_58603 => go_simp; try with_reducible rfl
      refine (HCS.out _ _ HB1.out HR11_1.out).mono ?_
      rintro e2 V2 ⟨Ar2, cr2, rfl, hf, hb⟩
      have HA2 := Lib.hid hb
      have HF12_2 := Lib.hid hf
      clear hb hf
      refine ⟨_, rfl, ?_⟩
      have HB2 := Lib.hid (below_then HB1.out HA2.out)
      have HS2 := Lib.hid (HS1.out.keep HA2.out)
      have HR11_2 := Lib.hid (HR11_1.out.below HA2.out)
      refine HK2.out _ _ HS2.out (fun _ => trivial) ?_
      clear HK2 K2
      try simp only [Act.put, List.setIfInBounds_toArray, List.set_cons_zero, List.set_cons_succ]
      refine wpAnyC_one (i := 22) (o := q38_22) (by kernel_rfl) rfl ?_
      intro K3 hK3
      have HK3 := Lib.hid hK3
      clear hK3
      unfold q38_22
      refine step_eq rfl (v := .slice (some ⟨V2.heap.size, 0, none⟩) 2 2) (w' := V2.alloc (.cells #[.slice (some ⟨vab, vao, none⟩) k c, .slice A3 (n - (k + 1)) (c - (k + 1))] 42)) ?hrl23_58603 ?hnl23_58603
      case hrl23_58603 => go_simp; try with_reducible rfl
      have HA3 := Lib.hid (show Below V2.heap.size V2 (V2.alloc (.cells #[.slice (some ⟨vab, vao, none⟩) k c, .slice A3 (n - (k + 1)) (c - (k + 1))] 42)) from (Below.refl _ _).alloc (Nat.le_refl _) _)
      have HB3 := Lib.hid (below_then HB2.out HA3.out)
      have HS3 := Lib.hid (HS2.out.keep HA3.out)
      have HR11_3 := Lib.hid (HR11_2.out.below HA3.out)
      have HF12_3 := Lib.hid (HF12_2.out.below HA3.out)
      have HR22_3 := Lib.hid (show Rd (V2.alloc (.cells #[.slice (some ⟨vab, vao, none⟩) k c, .slice A3 (n - (k + 1)) (c - (k + 1))] 42)) 1 (some ⟨V2.heap.size, 0, none⟩) 2 [.slice (some ⟨vab, vao, none⟩) k c, .slice A3 (n - (k + 1)) (c - (k + 1))] from Rd.lit (size := 1) (n := 2) V2 #[.slice (some ⟨vab, vao, none⟩) k c, .slice A3 (n - (k + 1)) (c - (k + 1))] _ rfl (fr := (0, 0)))
      refine HK3.out _ _ HS3.out (fun _ => trivial) ?_
      clear HK3 K3
      generalize V2.alloc (.cells #[.slice (some ⟨vab, vao, none⟩) k c, .slice A3 (n - (k + 1)) (c - (k + 1))] 42) = V3 at HB3 HS3 HR11_3 HF12_3 HR22_3 HA3 ⊢
      try simp only [Act.put, List.setIfInBounds_toArray, List.set_cons_zero, List.set_cons_succ]
      refine wpAnyC_one (i := 23) (o := q38_23) (by kernel_rfl) rfl ?_
      intro K4 hK4
      have HK4 := Lib.hid hK4
      clear hK4
      unfold q38_23
      refine step_call (F := 61) (args := ?arc24_58603) rfl ?hrc24_58603 ?hcc24_58603
      case hrc24_58603 => go_simp; try with_reducible rfl
      refine (HCV.out _ _ HB3.out HR22_3.out).mono ?_
      rintro e4 V4 ⟨Ar4, cr4, rfl, hf, hb⟩
      have HA4 := Lib.hid hb
      have HF23_4 := Lib.hid hf
      clear hb hf
      refine ⟨_, rfl, ?_⟩
      have HB4 := Lib.hid (below_then HB3.out HA4.out)
      have HS4 := Lib.hid (HS3.out.keep HA4.out)
      have HR11_4 := Lib.hid (HR11_3.out.below HA4.out)
      have HR22_4 := Lib.hid (HR22_3.out.below HA4.out)
      have HF12_4 := Lib.hid (HF12_3.out.below HA4.out)
      refine HK4.out _ _ HS4.out (fun _ => trivial) ?_
      clear HK4 K4
      try simp only [Act.put, List.setIfInBounds_toArray, List.set_cons_zero, List.set_cons_succ]
      refine wpAnyC_takeY (i := 24) (oi := q38_24) (v := ?vx25_58603) (by kernel_rfl) (by kernel_rfl) (by kernel_rfl) (by kernel_rfl) ⟨HS4.out, fun _ => trivial⟩ rfl (fun c a w h => hQp c a _ _ w h) rfl ?hyx25_58603 ?restx25_58603
      case hyx25_58603 => intro W hSw; obtain ⟨s0, s1, s2⟩ := hSw; unfold q38_24; go_simp; try with_reducible rfl
      try simp only [q38_24, Act.put, List.setIfInBounds_toArray, List.set_cons_zero, List.set_cons_succ]
      refine wpAnyC_one (i := 25) (o := q38_25) (by kernel_rfl) rfl ?_
      intro K5 hK5
      have HK5 := Lib.hid hK5
      clear hK5
      unfold q38_25
      refine step_call (F := 21) (args := ?arc26_58603) rfl ?hrc26_58603 ?hcc26_58603
      case hrc26_58603 => go_simp; try with_reducible rfl
      refine (HTELL.out _ _ _ _ _ HB4.out HF12_4.out HF23_4.out).mono ?_
      rintro e5 V5 ⟨rfl, hg, hs⟩
      have HG := Lib.hid hg
      have HS5 := Lib.hid hs
      clear hg hs
      refine ⟨_, rfl, ?_⟩
      refine HK5.out _ _ HS5.out (fun _ => trivial) ?_
      clear HK5 K5
      try simp only [Act.put, List.setIfInBounds_toArray, List.set_cons_zero, List.set_cons_succ]
      exact wpAnyC_done (by kernel_rfl) (hKK.out _ _ _ _ _ _ _ _ _ _ _ _ _ _ _ _ _ _ _ _ _ _ _ _ _ _ _ HG.out) _
    · intro K2 hK2
      have HK2 := Lib.hid hK2
      clear hK2
      unfold q38_22
      refine step_eq rfl (v := .slice (some ⟨V1.heap.size, 0, none⟩) 2 2) (w' := V1.alloc (.cells #[.slice (some ⟨vab, vao, none⟩) k c, .slice A3 (n - (k + 1)) (c - (k + 1))] 42)) ?hrl27_30164 ?hnl27_30164
      case hrl27_30164 => go_simp; try with_reducible rfl
      have HA2 := Lib.hid (show Below V1.heap.size V1 (V1.alloc (.cells #[.slice (some ⟨vab, vao, none⟩) k c, .slice A3 (n - (k + 1)) (c - (k + 1))] 42)) from (Below.refl _ _).alloc (Nat.le_refl _) _)
      have HB2 := Lib.hid (below_then HB1.out HA2.out)
      have HS2 := Lib.hid (HS1.out.keep HA2.out)
      have HR11_2 := Lib.hid (HR11_1.out.below HA2.out)
      have HR22_2 := Lib.hid (show Rd (V1.alloc (.cells #[.slice (some ⟨vab, vao, none⟩) k c, .slice A3 (n - (k + 1)) (c - (k + 1))] 42)) 1 (some ⟨V1.heap.size, 0, none⟩) 2 [.slice (some ⟨vab, vao, none⟩) k c, .slice A3 (n - (k + 1)) (c - (k + 1))] from Rd.lit (size := 1) (n := 2) V1 #[.slice (some ⟨vab, vao, none⟩) k c, .slice A3 (n - (k + 1)) (c - (k + 1))] _ rfl (fr := (0, 0)))
      refine HK2.out _ _ HS2.out (fun _ => trivial) ?_
      clear HK2 K2
      generalize V1.alloc (.cells #[.slice (some ⟨vab, vao, none⟩) k c, .slice A3 (n - (k + 1)) (c - (k + 1))] 42) = V2 at HB2 HS2 HR11_2 HR22_2 HA2 ⊢
      try simp only [Act.put, List.setIfInBounds_toArray, List.set_cons_zero, List.set_cons_succ]
      refine wpAnyC_one (i := 12) (o := q38_12) (by kernel_rfl) rfl ?_
      intro K3 hK3
      have HK3 := Lib.hid hK3
      clear hK3
      unfold q38_12
      refine step_call (F := 60) (args := ?arc28_30164) rfl ?hrc28_30164 ?hcc28_30164
      case hrc28_30164 => go_simp; try with_reducible rfl
      refine (HCS.out _ _ HB2.out HR11_2.out).mono ?_
      rintro e3 V3 ⟨Ar3, cr3, rfl, hf, hb⟩
      have HA3 := Lib.hid hb
      have HF12_3 := Lib.hid hf
      clear hb hf
      refine ⟨_, rfl, ?_⟩
      have HB3 := Lib.hid (below_then HB2.out HA3.out)
      have HS3 := Lib.hid (HS2.out.keep HA3.out)
      have HR11_3 := Lib.hid (HR11_2.out.below HA3.out)
      have HR22_3 := Lib.hid (HR22_2.out.below HA3.out)
      refine HK3.out _ _ HS3.out (fun _ => trivial) ?_
      clear HK3 K3
      try simp only [Act.put, List.setIfInBounds_toArray, List.set_cons_zero, List.set_cons_succ]
      refine wpAnyC_one (i := 23) (o := q38_23) (by kernel_rfl) rfl ?_
      intro K4 hK4
      have HK4 := Lib.hid hK4
      clear hK4
      unfold q38_23
      refine step_call (F := 61) (args := ?arc29_30164) rfl ?hrc29_30164 ?hcc29_30164
      case hrc29_30164 => go_simp; try with_reducible rfl
      refine (HCV.out _ _ HB3.out HR22_3.out).mono ?_
      rintro e4 V4 ⟨Ar4, cr4, rfl, hf, hb⟩
      have HA4 := Lib.hid hb
      have HF23_4 := Lib.hid hf
      clear hb hf
      refine ⟨_, rfl, ?_⟩
      have HB4 := Lib.hid (below_then HB3.out HA4.out)
      have HS4 := Lib.hid (HS3.out.keep HA4.out)
      have HR11_4 := Lib.hid (HR11_3.out.below HA4.out)
      have HR22_4 := Lib.hid (HR22_3.out.below HA4.out)
      have HF12_4 := Lib.hid (HF12_3.out.below HA4.out)
      refine HK4.out _ _ HS4.out (fun _ => trivial) ?_
      clear HK4 K4
      try simp only [Act.put, List.setIfInBounds_toArray, List.set_cons_zero, List.set_cons_succ]
      refine wpAnyC_takeY (i := 24) (oi := q38_24) (v := ?vx30_30164) (by kernel_rfl) (by kernel_rfl) (by kernel_rfl) (by kernel_rfl) ⟨HS4.out, fun _ => trivial⟩ rfl (fun c a w h => hQp c a _ _ w h) rfl ?hyx30_30164 ?restx30_30164
      case hyx30_30164 => intro W hSw; obtain ⟨s0, s1, s2⟩ := hSw; unfold q38_24; go_simp; try with_reducible rfl
      try simp only [q38_24, Act.put, List.setIfInBounds_toArray, List.set_cons_zero, List.set_cons_succ]
      refine wpAnyC_one (i := 25) (o := q38_25) (by kernel_rfl) rfl ?_
      intro K5 hK5
      have HK5 := Lib.hid hK5
      clear hK5
      unfold q38_25
      refine step_call (F := 21) (args := ?arc31_30164) rfl ?hrc31_30164 ?hcc31_30164
      case hrc31_30164 => go_simp; try with_reducible rfl
      refine (HTELL.out _ _ _ _ _ HB4.out HF12_4.out HF23_4.out).mono ?_
      rintro e5 V5 ⟨rfl, hg, hs⟩
      have HG := Lib.hid hg
      have HS5 := Lib.hid hs
      clear hg hs
      refine ⟨_, rfl, ?_⟩
      refine HK5.out _ _ HS5.out (fun _ => trivial) ?_
      clear HK5 K5
      try simp only [Act.put, List.setIfInBounds_toArray, List.set_cons_zero, List.set_cons_succ]
      exact wpAnyC_done (by kernel_rfl) (hKK.out _ _ _ _ _ _ _ _ _ _ _ _ _ _ _ _ _ _ _ _ _ _ _ _ _ _ _ HG.out) _
  · intro K1 hK1
    have HK1 := Lib.hid hK1
    clear hK1
    unfold q38_22
    refine step_eq rfl (v := .slice (some ⟨W9.heap.size, 0, none⟩) 2 2) (w' := W9.alloc (.cells #[.slice (some ⟨vab, vao, none⟩) k c, .slice A3 (n - (k + 1)) (c - (k + 1))] 42)) ?hrl32_58603 ?hnl32_58603
    case hrl32_58603 => go_simp; try with_reducible rfl
    have HA1 := Lib.hid (show Below W9.heap.size W9 (W9.alloc (.cells #[.slice (some ⟨vab, vao, none⟩) k c, .slice A3 (n - (k + 1)) (c - (k + 1))] 42)) from (Below.refl _ _).alloc (Nat.le_refl _) _)
    have HB1 := Lib.hid (below_then HB0.out HA1.out)
    have HS1 := Lib.hid (HS0.out.keep HA1.out)
    have HR22_1 := Lib.hid (show Rd (W9.alloc (.cells #[.slice (some ⟨vab, vao, none⟩) k c, .slice A3 (n - (k + 1)) (c - (k + 1))] 42)) 1 (some ⟨W9.heap.size, 0, none⟩) 2 [.slice (some ⟨vab, vao, none⟩) k c, .slice A3 (n - (k + 1)) (c - (k + 1))] from Rd.lit (size := 1) (n := 2) W9 #[.slice (some ⟨vab, vao, none⟩) k c, .slice A3 (n - (k + 1)) (c - (k + 1))] _ rfl (fr := (0, 0)))
    refine HK1.out _ _ HS1.out (fun _ => trivial) ?_
    clear HK1 K1
    generalize W9.alloc (.cells #[.slice (some ⟨vab, vao, none⟩) k c, .slice A3 (n - (k + 1)) (c - (k + 1))] 42) = V1 at HB1 HS1 HR22_1 HA1 ⊢
    try simp only [Act.put, List.setIfInBounds_toArray, List.set_cons_zero, List.set_cons_succ]
    refine wpAnyC_one (i := 11) (o := q38_11) (by kernel_rfl) rfl ?_
    intro K2 hK2
    have HK2 := Lib.hid hK2
    clear hK2
    unfold q38_11
    refine step_eq rfl (v := .slice (some ⟨V1.heap.size, 0, none⟩) 2 2) (w' := V1.alloc (.cells #[.slice (some ⟨lab, lao, none⟩) k lc, .slice LA3 (n - (k + 1)) (lc - (k + 1))] 22)) ?hrl33_58603 ?hnl33_58603
    case hrl33_58603 => go_simp; try with_reducible rfl
    have HA2 := Lib.hid (show Below V1.heap.size V1 (V1.alloc (.cells #[.slice (some ⟨lab, lao, none⟩) k lc, .slice LA3 (n - (k + 1)) (lc - (k + 1))] 22)) from (Below.refl _ _).alloc (Nat.le_refl _) _)
    have HB2 := Lib.hid (below_then HB1.out HA2.out)
    have HS2 := Lib.hid (HS1.out.keep HA2.out)
    have HR22_2 := Lib.hid (HR22_1.out.below HA2.out)
    have HR11_2 := Lib.hid (show Rd (V1.alloc (.cells #[.slice (some ⟨lab, lao, none⟩) k lc, .slice LA3 (n - (k + 1)) (lc - (k + 1))] 22)) 1 (some ⟨V1.heap.size, 0, none⟩) 2 [.slice (some ⟨lab, lao, none⟩) k lc, .slice LA3 (n - (k + 1)) (lc - (k + 1))] from Rd.lit (size := 1) (n := 2) V1 #[.slice (some ⟨lab, lao, none⟩) k lc, .slice LA3 (n - (k + 1)) (lc - (k + 1))] _ rfl (fr := (0, 0)))
    refine HK2.out _ _ HS2.out (fun _ => trivial) ?_
    clear HK2 K2
    generalize V1.alloc (.cells #[.slice (some ⟨lab, lao, none⟩) k lc, .slice LA3 (n - (k + 1)) (lc - (k + 1))] 22) = V2 at HB2 HS2 HR22_2 HR11_2 HA2 ⊢
    try simp only [Act.put, List.setIfInBounds_toArray, List.set_cons_zero, List.set_cons_succ]
    refine wpAnyC_one (i := 12) (o := q38_12) (by kernel_rfl) rfl ?_
    intro K3 hK3
    have HK3 := Lib.hid hK3
    clear hK3
    unfold q38_12
    refine step_call (F := 60) (args := ?arc34_58603) rfl ?hrc34_58603 ?hcc34_58603
    case hrc34_58603 => go_simp; try with_reducible rfl
    refine (HCS.out _ _ HB2.out HR11_2.out).mono ?_
    rintro e3 V3 ⟨Ar3, cr3, rfl, hf, hb⟩
    have HA3 := Lib.hid hb
    have HF12_3 := Lib.hid hf
    clear hb hf
    refine ⟨_, rfl, ?_⟩
    have HB3 := Lib.hid (below_then HB2.out HA3.out)
    have HS3 := Lib.hid (HS2.out.keep HA3.out)
    have HR22_3 := Lib.hid (HR22_2.out.below HA3.out)
    have HR11_3 := Lib.hid (HR11_2.out.below HA3.out)
    refine HK3.out _ _ HS3.out (fun _ => trivial) ?_
    clear HK3 K3
    try simp only [Act.put, List.setIfInBounds_toArray, List.set_cons_zero, List.set_cons_succ]
    refine wpAnyC_one (i := 23) (o := q38_23) (by kernel_rfl) rfl ?_
    intro K4 hK4
    have HK4 := Lib.hid hK4
    clear hK4
    unfold q38_23
    refine step_call (F := 61) (args := ?arc35_58603) rfl ?hrc35_58603 ?hcc35_58603
    case hrc35_58603 => go_simp; try with_reducible rfl
    refine (HCV.out _ _ HB3.out HR22_3.out).mono ?_
    rintro e4 V4 ⟨Ar4, cr4, rfl, hf, hb⟩
    have HA4 := Lib.hid hb
    have HF23_4 := Lib.hid hf
    clear hb hf
    refine ⟨_, rfl, ?_⟩
    have HB4 := Lib.hid (below_then HB3.out HA4.out)
    have HS4 := Lib.hid (HS3.out.keep HA4.out)
    have HR22_4 := Lib.hid (HR22_3.out.below HA4.out)
    have HR11_4 := Lib.hid (HR11_3.out.below HA4.out)
    have HF12_4 := Lib.hid (HF12_3.out.below HA4.out)
    refine HK4.out _ _ HS4.out (fun _ => trivial) ?_
    clear HK4 K4
    try simp only [Act.put, List.setIfInBounds_toArray, List.set_cons_zero, List.set_cons_succ]
    refine wpAnyC_takeY (i := 24) (oi := q38_24) (v := ?vx36_58603) (by kernel_rfl) (by kernel_rfl) (by kernel_rfl) (by kernel_rfl) ⟨HS4.out, fun _ => trivial⟩ rfl (fun c a w h => hQp c a _ _ w h) rfl ?hyx36_58603 ?restx36_58603
    case hyx36_58603 => intro W hSw; obtain ⟨s0, s1, s2⟩ := hSw; unfold q38_24; go_simp; try with_reducible rfl
    try simp only [q38_24, Act.put, List.setIfInBounds_toArray, List.set_cons_zero, List.set_cons_succ]
    refine wpAnyC_one (i := 25) (o := q38_25) (by kernel_rfl) rfl ?_
    intro K5 hK5
    have HK5 := Lib.hid hK5
    clear hK5
    unfold q38_25
    refine step_call (F := 21) (args := ?arc37_58603) rfl ?hrc37_58603 ?hcc37_58603
    case hrc37_58603 => go_simp; try with_reducible rfl
    refine (HTELL.out _ _ _ _ _ HB4.out HF12_4.out HF23_4.out).mono ?_
    rintro e5 V5 ⟨rfl, hg, hs⟩
    have HG := Lib.hid hg
    have HS5 := Lib.hid hs
    clear hg hs
    refine ⟨_, rfl, ?_⟩
    refine HK5.out _ _ HS5.out (fun _ => trivial) ?_
    clear HK5 K5
    try simp only [Act.put, List.setIfInBounds_toArray, List.set_cons_zero, List.set_cons_succ]
    exact wpAnyC_done (by kernel_rfl) (hKK.out _ _ _ _ _ _ _ _ _ _ _ _ _ _ _ _ _ _ _ _ _ _ _ _ _ _ _ HG.out) _
end Go.Proofs.YtjmgnohepoacbaaDoor

namespace Go.Proofs.YtjmgnohepoacbaaDoor
open Go Go.ChangeShapes Go.WideShapes Go.ChangeAt Go.RowKit Go.Sort
set_option linter.unusedVariables false
set_option linter.unusedSimpArgs false

theorem add_eq (b o n : Nat) : (⟨b, o, none⟩ : Addr).add n = ⟨b, o + n, none⟩ := by
  unfold Addr.add
  split
  · rename_i e; first | (subst e; rfl) | (simp at e; subst e; rfl)
  · rfl
theorem strsT (l : List Str) (k : Nat) : strs (l.take k) = (strs l).take k := by simp [strs, List.map_take]
theorem strsD (l : List Str) (k : Nat) : strs (l.drop k) = (strs l).drop k := by simp [strs, List.map_drop]
theorem rd_takeS {w : World} {l : List Str} {A : Option Addr} (h : Rd w 1 A l.length (strs l)) {k : Nat} (hk : k ≤ l.length) : Rd w 1 A (l.take k).length (strs (l.take k)) := by
  have := h.cut (lo := 0) (hi := k) (k := 0) (Nat.zero_le _) hk rfl
  rw [Nat.sub_zero, Nat.zero_mul, List.drop_zero, Nat.mul_one] at this
  rw [strsT, List.length_take, Nat.min_eq_left hk]
  cases A with
  | none => exact this
  | some a => rw [Option.map_some, add_zero] at this; exact this
theorem rd_dropS {w : World} {l : List Str} {b o c : Nat} (h : Rd w 1 (some ⟨b, o, none⟩) l.length (strs l)) {k : Nat} (hk : k ≤ l.length) (hc : l.length ≤ c) : Rd w 1 (if c = k then some (⟨b, o, none⟩ : Addr) else some ⟨b, o + k, none⟩) (l.drop k).length (strs (l.drop k)) := by
  have := h.from_ (lo := k) (k := k) (c := c) hk hc (by omega)
  rw [Nat.mul_one, Option.map_some, add_eq] at this
  rw [strsD, List.length_drop]
  exact this
theorem Vs.dropD {w0 w : World} {P : Nat → Prop} {l : List Val} {b o : Nat} {css : List (List Value)} (h : Vs w0 w P l (some ⟨b, o, none⟩) css) (k : Nat) (hk : k ≤ l.length) (c : Nat) (hc : l.length ≤ c) : Vs w0 w P (l.drop k) (if c = k then some (⟨b, o, none⟩ : Addr) else some ⟨b, o + k * 6, none⟩) (css.drop k) := by
  have := h.dropC k hk c hc
  rw [add_eq] at this
  exact this
theorem two_newS (w : World) (o1 o2 : Obj) : ((w.alloc o1).alloc o2).heap[w.heap.size]? = some o1 ∧ ((w.alloc o1).alloc o2).heap[w.heap.size + 1]? = some o2 ∧ Below w.heap.size w ((w.alloc o1).alloc o2) :=
  ⟨(Below.heap_alloc _ _ _ (by rw [World.size_alloc]; omega)).trans (heap_new rfl), heap_new (World.size_alloc _ _), ((Below.refl _ _).alloc (Nat.le_refl _) _).alloc (by rw [World.size_alloc]; omega) _⟩
/-- What lies in new memory behind a machine's call stays. -/
theorem cell_new_post {w0 w wr w3 : World} {B mb : Nat} {s s' : St} {t i r v f nx nm : Value} {rcs vcs fcs : List (List Value)} (h : Rep w0 B mb s w t i r v f nx nm rcs vcs fcs) {b o : Nat} {u : Value} (hb : w.heap.size ≤ b) (hc : wr.cell? ⟨b, o, none⟩ = some u) (hp : Post w0 B mb (Mv mb t r v f) wr s' w3) : w3.cell? ⟨b, o, none⟩ = some u := by
  obtain ⟨t', i', r', v', f', nx', nm', rcs', vcs', fcs', h1, h2, h3⟩ := hp
  exact cell_tr h2 (h.mvNew _ hb) hc
/-- Two rows of texts joined. -/
theorem scat2 {w V' : World} {P : Nat → Prop} (hP : ∀ b, w.heap.size ≤ b → P b) {l : List Str} {b o lc k : Nat} (hl : Rd w 1 (some ⟨b, o, none⟩) l.length (strs l)) (hk : k < l.length) (hlc : l.length ≤ lc) (hm : l.length ≤ 90000000000) (hb : Below w.heap.size w V') {g : Nat} {LA3 : Option Addr} (h3 : (if lc = k + 1 then some (⟨b, o, none⟩ : Addr) else some ⟨b, o + (k + 1), none⟩) = LA3)
    (hR : Rd V' 1 (some ⟨g, 0, none⟩) 2 [.slice (some ⟨b, o, none⟩) k lc, .slice LA3 (l.length - (k + 1)) (lc - (k + 1))]) :
    Calls Tryd.prog 60 #[.slice (some ⟨g, 0, none⟩) 2 2] V' fun e w' => ∃ A c, e = .returned (.slice A (l.take k ++ l.drop (k + 1)).length c) ∧ FL P (l.take k ++ l.drop (k + 1)) A c w' ∧ Below V'.heap.size V' w' := by
  have hrl : (([⟨some ⟨b, o, none⟩, l.take k, lc⟩, ⟨LA3, l.drop (k + 1), lc - (k + 1)⟩] : List Rs).flatMap Rs.l) = l.take k ++ l.drop (k + 1) := by simp
  have hkl : k ≤ l.length := Nat.le_of_lt hk
  refine (sconcat_any V' [⟨some ⟨b, o, none⟩, l.take k, lc⟩, ⟨LA3, l.drop (k + 1), lc - (k + 1)⟩] (some ⟨g, 0, none⟩) 2 (by simpa [Rs.cell, hkl] using hR) (fun r hr => ?_) (by rw [hrl]; simp; omega) (by simp)).mono ?_
  · simp only [List.mem_cons, List.not_mem_nil, or_false] at hr
    rcases hr with rfl | rfl
    · exact rd_takeS (hl.below hb) hkl
    · have := rd_dropS (c := lc) (hl.below hb) (k := k + 1) hk hlc
      rw [h3] at this
      exact this
  · rintro e w' ⟨A', c', h1, h2, h4, h5, h6⟩
    rw [hrl] at h1 h2 h4 h5
    exact ⟨A', c', h1, ⟨h2, fun h0 a ha => ⟨hP _ (Nat.le_trans hb.size (h4 h0 a ha).1), (h4 h0 a ha).2⟩, h5⟩, h6⟩
theorem vcat2 {w0 w V' : World} {P : Nat → Prop} (hP : ∀ b, w.heap.size ≤ b → P b) {l : List Val} {css : List (List Value)} {b o c k : Nat} (hl : Vs w0 w P l (some ⟨b, o, none⟩) css) (hk : k < l.length) (hc : l.length ≤ c) (hm : l.length ≤ 90000000000) (hb : Below w.heap.size w V') {g : Nat} {A3 : Option Addr} (h3 : (if c = k + 1 then some (⟨b, o, none⟩ : Addr) else some ⟨b, o + (k + 1) * 6, none⟩) = A3)
    (hR : Rd V' 1 (some ⟨g, 0, none⟩) 2 [.slice (some ⟨b, o, none⟩) k c, .slice A3 (l.length - (k + 1)) (c - (k + 1))]) :
    Calls Tryd.prog 61 #[.slice (some ⟨g, 0, none⟩) 2 2] V' fun e w' => ∃ A c, e = .returned (.slice A (l.take k ++ l.drop (k + 1)).length c) ∧ Fs w0 P (l.take k ++ l.drop (k + 1)) A c w' ∧ Below V'.heap.size V' w' := by
  have hrl : (([⟨some ⟨b, o, none⟩, l.take k, c, css.take k⟩, ⟨A3, l.drop (k + 1), c - (k + 1), css.drop (k + 1)⟩] : List Rw).flatMap Rw.l) = l.take k ++ l.drop (k + 1) := by simp
  have hkl : k ≤ l.length := Nat.le_of_lt hk
  refine (vconcat_any w0 V' P [⟨some ⟨b, o, none⟩, l.take k, c, css.take k⟩, ⟨A3, l.drop (k + 1), c - (k + 1), css.drop (k + 1)⟩] (some ⟨g, 0, none⟩) 2 (by simpa [Rw.cell, hkl] using hR) (fun r hr => ?_) (by rw [hrl]; simp; omega) (by simp)).mono ?_
  · simp only [List.mem_cons, List.not_mem_nil, or_false] at hr
    rcases hr with rfl | rfl
    · exact (hl.below hb).take k hkl
    · have := (hl.below hb).dropD (k + 1) hk c hc
      rw [h3] at this
      exact this
  · rintro e w' ⟨A', c', h1, h2, h4, h5, h6⟩
    rw [hrl] at h1 h2 h4 h5
    exact ⟨A', c', h1, ⟨_, h2, fun h0 a ha => hP _ (Nat.le_trans hb.size (h4 h0 a ha)), h5⟩, h6⟩
end Go.Proofs.YtjmgnohepoacbaaDoor

namespace Go.Proofs.YtjmgnohepoacbaaDoor
open Go Go.ChangeShapes Go.WideShapes Go.ChangeAt Go.RowKit Go.Sort
set_option linter.unusedVariables false
set_option linter.unusedSimpArgs false

theorem scat3 {V' : World} {P : Nat → Prop} (hP : ∀ b, V'.heap.size ≤ b → P b) {l1 l3 : List Str} {A1 A3 : Option Addr} {c1 c3 g g1 : Nat} {x : Str} (h1 : Rd V' 1 A1 l1.length (strs l1)) (h2 : Rd V' 1 (some ⟨g1, 0, none⟩) 1 [.string (bstr x)]) (h3 : Rd V' 1 A3 l3.length (strs l3)) (hm : l1.length + l3.length ≤ 90000000000)
    (hR : Rd V' 1 (some ⟨g, 0, none⟩) 3 [.slice A1 l1.length c1, .slice (some ⟨g1, 0, none⟩) 1 1, .slice A3 l3.length c3]) :
    Calls Tryd.prog 60 #[.slice (some ⟨g, 0, none⟩) 3 3] V' fun e w' => ∃ A c, e = .returned (.slice A (l1 ++ [x] ++ l3).length c) ∧ FL P (l1 ++ [x] ++ l3) A c w' ∧ Below V'.heap.size V' w' := by
  have hrl : (([⟨A1, l1, c1⟩, ⟨some ⟨g1, 0, none⟩, [x], 1⟩, ⟨A3, l3, c3⟩] : List Rs).flatMap Rs.l) = l1 ++ [x] ++ l3 := by simp
  refine (sconcat_any V' [⟨A1, l1, c1⟩, ⟨some ⟨g1, 0, none⟩, [x], 1⟩, ⟨A3, l3, c3⟩] (some ⟨g, 0, none⟩) 3 hR (fun r hr => ?_) (by rw [hrl]; simp; omega) (by simp)).mono ?_
  · simp only [List.mem_cons, List.not_mem_nil, or_false] at hr
    rcases hr with rfl | rfl | rfl
    · exact h1
    · exact h2
    · exact h3
  · rintro e w' ⟨A', c', e1, e2, e4, e5, e6⟩
    rw [hrl] at e1 e2 e4 e5
    exact ⟨A', c', e1, ⟨e2, fun h0 a ha => ⟨hP _ (e4 h0 a ha).1, (e4 h0 a ha).2⟩, e5⟩, e6⟩
theorem vcat3 {w0 V' : World} {P : Nat → Prop} (hP : ∀ b, V'.heap.size ≤ b → P b) {l1 l3 : List Val} {css1 css3 : List (List Value)} {A1 A3 : Option Addr} {c1 c3 g g1 : Nat} {y : Val} {csy : List Value} (h1 : Vs w0 V' P l1 A1 css1) (hy : VR w0 V' P y csy) (h2 : Rd V' 6 (some ⟨g1, 0, none⟩) 1 csy) (h3 : Vs w0 V' P l3 A3 css3) (hm : l1.length + l3.length ≤ 90000000000)
    (hR : Rd V' 1 (some ⟨g, 0, none⟩) 3 [.slice A1 l1.length c1, .slice (some ⟨g1, 0, none⟩) 1 1, .slice A3 l3.length c3]) :
    Calls Tryd.prog 61 #[.slice (some ⟨g, 0, none⟩) 3 3] V' fun e w' => ∃ A c, e = .returned (.slice A (l1 ++ [y] ++ l3).length c) ∧ Fs w0 P (l1 ++ [y] ++ l3) A c w' ∧ Below V'.heap.size V' w' := by
  have hrl : (([⟨A1, l1, c1, css1⟩, ⟨some ⟨g1, 0, none⟩, [y], 1, [csy]⟩, ⟨A3, l3, c3, css3⟩] : List Rw).flatMap Rw.l) = l1 ++ [y] ++ l3 := by simp
  refine (vconcat_any w0 V' P [⟨A1, l1, c1, css1⟩, ⟨some ⟨g1, 0, none⟩, [y], 1, [csy]⟩, ⟨A3, l3, c3, css3⟩] (some ⟨g, 0, none⟩) 3 hR (fun r hr => ?_) (by rw [hrl]; simp; omega) (by simp)).mono ?_
  · simp only [List.mem_cons, List.not_mem_nil, or_false] at hr
    rcases hr with rfl | rfl | rfl
    · exact h1
    · exact ⟨by simpa using h2, ⟨rfl, fun i v cs e1 e2 => by
        cases i with
        | zero => simp only [List.getElem?_cons_zero, Option.some.injEq] at e1 e2; subst e1; subst e2; exact hy
        | succ i => simp at e1⟩⟩
    · exact h3
  · rintro e w' ⟨A', c', e1, e2, e4, e5, e6⟩
    rw [hrl] at e1 e2 e4 e5
    exact ⟨A', c', e1, ⟨_, e2, fun h0 a ha => hP _ (e4 h0 a ha), e5⟩, e6⟩
theorem three_newS (w : World) (o1 o2 o3 : Obj) : (((w.alloc o1).alloc o2).alloc o3).heap[w.heap.size]? = some o1 ∧ (((w.alloc o1).alloc o2).alloc o3).heap[w.heap.size + 1]? = some o2 ∧ (((w.alloc o1).alloc o2).alloc o3).heap[w.heap.size + 1 + 1]? = some o3 ∧ Below w.heap.size w (((w.alloc o1).alloc o2).alloc o3) := by
  obtain ⟨h1, h2, h3⟩ := two_newS w o1 o2
  have hs : ((w.alloc o1).alloc o2).heap.size = w.heap.size + 1 + 1 := by rw [World.size_alloc, World.size_alloc]
  exact ⟨(Below.heap_alloc _ _ _ (by rw [hs]; omega)).trans h1, (Below.heap_alloc _ _ _ (by rw [hs]; omega)).trans h2, heap_new hs, h3.alloc (by rw [hs]; omega) _⟩
end Go.Proofs.YtjmgnohepoacbaaDoor

namespace Go.Proofs.YtjmgnohepoacbaaDoor
open Go Go.ChangeShapes Go.WideShapes Go.ChangeAt Go.RowKit Go.Sort
set_option linter.unusedVariables false
set_option linter.unusedSimpArgs false

def St.take (s : St) (k : Int) (x : Str) (z : Val) : St :=
  if z.sort = 4 ∧ isS z.labels x = true then
    (if k = 9 then { s with vals := s.vals ++ [z.l[atS z.labels x]?.getD zV] }
    else { s with vals := s.vals ++ [.mk 4 0 [] (z.labels.take (atS z.labels x) ++ z.labels.drop (atS z.labels x + 1)) (z.l.take (atS z.labels x) ++ z.l.drop (atS z.labels x + 1)) none] })
  else { s with err := 11 }
section
variable {w0 w : World} {B mb : Nat} {s : St} {t i r v f nx nm : Value} {rcs vcs fcs : List (List Value)}
set_option maxHeartbeats 8000000 in
set_option maxRecDepth 100000 in
theorem take_any (h : Rep w0 B mb s w t i r v f nx nm rcs vcs fcs) (hv : s.vals.length ≤ 100000000000) (e : Ex) (eb eo : Nat) (hd : e.d.At w eb eo) (z : Val) (A : Option Addr) (c : Nat) (p : Option Addr) (LA : Option Addr) (lc : Nat) (hz : VR w0 w (Mv mb t r v f) z [.int .i64 z.sort, .int .i64 z.n, .string (bstr z.s), .slice LA z.labels.length lc, .slice A z.l.length c, .pointer p]) (hll : z.sort = 4 → z.labels.length = z.l.length) (hx : z.labels.length ≤ 90000000000) (hkd : e.d.kind = 9 ∨ e.d.kind = 11) :
    Calls Tryd.prog 38 #[.agg #[.pointer (some ⟨mb, 0, none⟩)], .pointer (some ⟨eb, eo, none⟩), .agg #[.int .i64 z.sort, .int .i64 z.n, .string (bstr z.s), .slice LA z.labels.length lc, .slice A z.l.length c, .pointer p]] w fun e1 w' => e1 = .returned (.tuple #[]) ∧ Post w0 B mb (Mv mb t r v f) w (s.take e.d.kind e.d.s z) w' := by
  obtain ⟨q1, q2, hb⟩ := two_newS w (boxM mb) (boxV z A c p LA lc)
  have hlab := hz.lab
  obtain ⟨csx, hvx, hcx, hpx⟩ := hz.vs
  have HB := Lib.hid hb
  have HH := Lib.hid h
  have HZ := Lib.hid (And.intro hlab (And.intro hvx (And.intro hcx hpx)))
  have HL := Lib.hid (And.intro hll hx)
  have HD := Lib.hid (hd.lower hb)
  have HQ := Lib.hid (And.intro q1 q2)
  have HV := Lib.hid hv
  have HBM := Lib.hid (fun (wr : World) (hb : Below w.heap.size w wr) => And.intro (Tr.below (P := Mv mb t r v f) hb) (hb.mono (Nat.le_of_lt (Nat.lt_of_le_of_lt h.base.2 h.lt))))
  have HS := Lib.hid (fun (wr : World) (hb : Below w.heap.size w wr) => stuck_any (h.below hb))
  have HBS := Lib.hid (fun (V : World) (hb' : Below w.heap.size w V) => (searchS_any LA z.labels e.d.s z.labels.length lc V (hlab.1.below hb') (by omega)).mono fun e9 w' ⟨h1, h2⟩ => (show e9 = Ending.returned (.tuple #[.int .i64 (atS z.labels e.d.s), .bool (isS z.labels e.d.s)]) ∧ ∃ q os', w' = grow (V.drewN q) os' from ⟨h1, 0, #[], by rw [grow_empty]; exact h2⟩))
  have a3 := cell_grown (block_lt_of_cell (cells6 q2).2.2.2.1) (cells6 q2).2.2.2.1
  have k3 := cell_grown (block_lt_of_cell (hd.lower hb).c3) (hd.lower hb).c3
  have mixed : Tryd.prog.follows .mixedOrders = true := by kernel_rfl
  clear h hd hz hb hlab hvx hcx hpx hll hx q1 q2 hv
  go_enter Tryd.func38, Tryd.ntmps38
  go_upto_region 1 with fail
  generalize hW1 : (w.alloc (boxM mb)).alloc (boxV z A c p LA lc) = W1 at HB HD HQ a3 k3 ⊢
  clear hW1
  go_quiet_grown (first | (go_at_call 59; refine Calls.grown_of (HBS.out _ (below_then HB.out (below_growN _ _)))))
  have HB2 := Lib.hid (below_growN (w := W1) nq osq)
  generalize grow (W1.drewN nq) osq = V at HB2 ⊢
  have HBV := Lib.hid (below_then HB.out HB2.out)
  obtain ⟨x0, x1, x2, x3, x4, x5⟩ := cells6 ((HB2.out.block _ (lt_of_heap HQ.out.2)).trans HQ.out.2)
  have m0 : V.cell? ⟨w.heap.size, 0, none⟩ = some (.pointer (some ⟨mb, 0, none⟩)) := by rw [Lib.cell_of_heap ((HB2.out.block _ (lt_of_heap HQ.out.1)).trans HQ.out.1)]; rfl
  have k0 := (HD.out.lower HB2.out).c0
  clear a3 k3
  by_cases hs : z.sort = 4
  · rw [hs] at x0
    have HZS := Lib.hid hs
    by_cases hi : isS z.labels e.d.s = true
    · rw [hi]
      have hlt := isS_lt hi
      obtain ⟨k, hk⟩ : ∃ k, atS z.labels e.d.s = k := ⟨_, rfl⟩
      have HE := Lib.hid (show s.take e.d.kind e.d.s z = _ from if_pos ⟨hs, hi⟩)
      rw [hk] at hlt HE ⊢
      have hln := HL.out.1 hs
      rcases hkd with hkd | hkd
      · rw [hkd] at k0 HE
        obtain ⟨ab, ao, rfl⟩ := HZ.out.2.1.addr (by omega)
        obtain ⟨y, hy⟩ : ∃ y, z.l[k]? = some y := ⟨_, List.getElem?_eq_getElem (by omega)⟩
        obtain ⟨A9, c9, p9, LA9, lc9, hvy, g0, g1, g2, g3, g4, g5⟩ := (HZ.out.2.1.below HBV.out).six k hy (ao + k * 6) (ao + k * 6 + 1) (ao + k * 6 + 2) (ao + k * 6 + 3) (ao + k * 6 + 4) (ao + k * 6 + 5) ⟨rfl, rfl, rfl, rfl, rfl, rfl⟩
        have HC := Lib.hid (fun (wr : World) (hb' : Below V.heap.size V wr) => tell_any (HH.out.below (below_then HBV.out hb')) HV.out y (hvy.keep (Tr.below hb')))
        have HY := Lib.hid hy
        have i1 : (k : Int) < (z.l.length : Int) := by omega
        have i0 : (0 : Int) ≤ (k : Int) := by omega
        clear hvy hy hs hi hlt hk hln
        go_upto_region 6 with fail
        go_region_law (go_simp; go_at_call 21; (with_reducible refine (HC.out _ (below_drew1 _)).mono ?_); rintro e1 w2 ⟨rfl, hp⟩; have HP := Lib.hid hp; clear hp)
        all_goals
          go_wp2_with fail
          go_returns
          rw [HE.out, if_pos trivial, HY.out]
          exact ⟨rfl, HP.out.mono (HBM.out _ (Below.drew HBV.out)).1 (HBM.out _ (Below.drew HBV.out)).2⟩
      · rw [hkd] at k0 HE
        obtain ⟨ab, ao, rfl⟩ := HZ.out.2.1.addr (by omega)
        obtain ⟨lab, lao, rfl, _⟩ := HZ.out.1.1.base (by rw [strs_length]; omega)
        have hP : ∀ b, w.heap.size ≤ b → Mv mb t r v f b := fun b hb => HH.out.mvNew b hb
        have hx' := HL.out.2
        have HKL := Lib.hid (And.intro hlt hln)
        have hkl : k < z.l.length := by omega
        rw [hln] at x3
        have HTL := Lib.hid (fun (wr : World) (LA' : Option Addr) (lc' : Nat) (A' : Option Addr) (c' : Nat) (hb' : Below w.heap.size w wr) (h1 : FL (Mv mb t r v f) (z.labels.take k ++ z.labels.drop (k + 1)) LA' lc' wr) (h2 : Fs w0 (Mv mb t r v f) (z.l.take k ++ z.l.drop (k + 1)) A' c' wr) => (show Calls Tryd.prog 21 #[.pointer (some ⟨mb, 0, none⟩), .agg #[.int .i64 4, .int .i64 0, .string ⟨#[]⟩, .slice LA' (z.labels.take k ++ z.labels.drop (k + 1)).length lc', .slice A' (z.l.take k ++ z.l.drop (k + 1)).length c', .pointer none]] wr fun e w' => e = .returned (.tuple #[]) ∧ Post w0 B mb (Mv mb t r v f) wr { s with vals := s.vals ++ [.mk 4 0 [] (z.labels.take k ++ z.labels.drop (k + 1)) (z.l.take k ++ z.l.drop (k + 1)) none] } w' from by
          obtain ⟨css', v1, v2, v3⟩ := h2
          exact tell_any (HH.out.below hb') HV.out (.mk 4 0 [] (z.labels.take k ++ z.labels.drop (k + 1)) (z.l.take k ++ z.l.drop (k + 1)) none) (v1.vr v2 v3 h1 4 0 [])))
        have e9 : ¬ ((11 : Int) = 9) := by decide
        clear hs hi hlt hk hln
        go_upto_region 2 with fail
        refine reg38_any (fun _ _ _ _ _ h => h) (w0 := w0) (P := Mv mb t r v f) (Good := fun w' => Post w0 B mb (Mv mb t r v f) w { s with vals := s.vals ++ [.mk 4 0 [] (z.labels.take k ++ z.labels.drop (k + 1)) (z.l.take k ++ z.l.drop (k + 1)) none] } w') (labs := z.labels.take k ++ z.labels.drop (k + 1)) (vals := z.l.take k ++ z.l.drop (k + 1)) (n := z.l.length) (k := k) (mb := mb) (b3 := w.heap.size) (b5 := w.heap.size + 1) (lc := lc) (c := c) ⟨m0, x3, x4⟩ hkl ⟨by rw [← HKL.out.2]; exact HZ.out.1.2.2.1, HZ.out.1.2.2.2⟩ HZ.out.2.2.1 rfl rfl ?hcs ?hcv ?ht ?hk9
        case hcs =>
          intro V' g hb' hR
          refine scat2 hP HZ.out.1.1 HKL.out.1 HZ.out.1.2.2.1 hx' (below_then HBV.out hb') rfl ?_
          rw [HKL.out.2]
          exact hR
        case hcv =>
          intro V' g hb' hR
          exact vcat2 hP HZ.out.2.1 hkl HZ.out.2.2.1.1 (by rw [← HKL.out.2]; exact hx') (below_then HBV.out hb') rfl hR
        case ht =>
          intro V' LA' lc' A' c' hb' h1 h2
          refine (HTL.out V' LA' lc' A' c' (below_then HBV.out hb') h1 h2).mono ?_
          rintro e w' ⟨rfl, hp⟩
          have hbw := below_then HBV.out hb'
          exact ⟨rfl, hp.mono (HBM.out _ hbw).1 (HBM.out _ hbw).2, cell_new_post HH.out (Nat.le_refl _) (cell_below hb' m0) hp, cell_new_post HH.out (by omega) (cell_below hb' x3) hp, cell_new_post HH.out (by omega) (cell_below hb' x4) hp⟩
        case hk9 =>
          intro y18 y19 y20 y21 y22 y23 y24 y25 y26 y27 y28 y29 y30 y31 y32 y33 y34 y35 y36 y37 y38 y39 y40 y41 y42 y43 V' hg
          have HG := Lib.hid hg
          clear hg
          go_wp2_with fail
          go_returns
          rw [hkd, HE.out, if_neg e9]
          exact ⟨rfl, HG.out⟩
    · have hi' : isS z.labels e.d.s = false := by simpa using hi
      rw [hi']
      have HE := Lib.hid (show s.take e.d.kind e.d.s z = { s with err := 11 } from if_neg (fun q => hi q.2))
      have HC := Lib.hid (HS.out V HBV.out)
      clear hi hi' hs
      go_wp2_with (go_at_call 20; (with_reducible refine HC.out.mono ?_); rintro e1 w2 ⟨rfl, hp⟩; have HP := Lib.hid hp; clear hp HC)
      go_returns
      rw [HE.out]
      exact ⟨rfl, HP.out.mono (HBM.out _ HBV.out).1 (HBM.out _ HBV.out).2⟩
  · have f0 : (z.sort != 4) = true := by simpa using hs
    have HE := Lib.hid (show s.take e.d.kind e.d.s z = { s with err := 11 } from if_neg (fun q => hs q.1))
    have HC := Lib.hid (HS.out V HBV.out)
    clear hs
    go_wp2_with (go_at_call 20; (with_reducible refine HC.out.mono ?_); rintro e1 w2 ⟨rfl, hp⟩; have HP := Lib.hid hp; clear hp HC)
    go_returns
    rw [HE.out]
    exact ⟨rfl, HP.out.mono (HBM.out _ HBV.out).1 (HBM.out _ HBV.out).2⟩
end
end Go.Proofs.YtjmgnohepoacbaaDoor

namespace Go.Proofs.YtjmgnohepoacbaaDoor
open Go Go.ChangeShapes Go.WideShapes Go.ChangeAt Go.RowKit Go.Sort
set_option linter.unusedVariables false
set_option linter.unusedSimpArgs false

def q39_0 : Oper := { dst := some 40, op := Go.Op.fieldAddr 41 (Go.Operand.tmp 4) 0, type := 0, pos := "apply.go:86", after := #[], guard := none }
def q39_1 : Oper := { dst := some 41, op := Go.Op.load 38 (Go.Operand.tmp 40), type := 38, pos := "apply.go:86", after := #[{ on := 0, ground := Go.Ground.data }], guard := none }
def q39_2 : Oper := { dst := some 42, op := Go.Op.fieldAddr 45 (Go.Operand.tmp 6) 3, type := 0, pos := "apply.go:86", after := #[], guard := none }
def q39_3 : Oper := { dst := some 43, op := Go.Op.load 22 (Go.Operand.tmp 42), type := 22, pos := "apply.go:86", after := #[{ on := 2, ground := Go.Ground.data }], guard := none }
def q39_4 : Oper := { dst := some 44, op := Go.Op.move (Go.Operand.tmp 8), type := 3, pos := "apply.go:86", after := #[], guard := none }
def q39_5 : Oper := { dst := some 45, op := Go.Op.slice 22 (Go.Operand.tmp 43) none (some (Go.Operand.tmp 44)) none, type := 22, pos := "apply.go:86", after := #[{ on := 3, ground := Go.Ground.data }, { on := 4, ground := Go.Ground.data }], guard := none }
def q39_6 : Oper := { dst := some 46, op := Go.Op.move (Go.Operand.tmp 1), type := 47, pos := "apply.go:86", after := #[], guard := none }
def q39_7 : Oper := { dst := some 47, op := Go.Op.nilCheck (Go.Operand.tmp 46), type := 0, pos := "apply.go:86", after := #[{ on := 6, ground := Go.Ground.data }], guard := none }
def q39_8 : Oper := { dst := some 48, op := Go.Op.fieldAddr 25 (Go.Operand.tmp 47) 3, type := 0, pos := "apply.go:86", after := #[{ on := 7, ground := Go.Ground.data }], guard := none }
def q39_9 : Oper := { dst := some 49, op := Go.Op.load 9 (Go.Operand.tmp 48), type := 9, pos := "apply.go:86", after := #[{ on := 8, ground := Go.Ground.data }], guard := none }
def q39_10 : Oper := { dst := some 50, op := Go.Op.buildSlice 22 1 #[(0, Go.Operand.tmp 49)], type := 22, pos := "apply.go:86", after := #[{ on := 9, ground := Go.Ground.data }], guard := none }
def q39_11 : Oper := { dst := some 51, op := Go.Op.fieldAddr 45 (Go.Operand.tmp 6) 3, type := 0, pos := "apply.go:86", after := #[], guard := none }
def q39_12 : Oper := { dst := some 52, op := Go.Op.load 22 (Go.Operand.tmp 51), type := 22, pos := "apply.go:86", after := #[{ on := 11, ground := Go.Ground.data }], guard := none }
def q39_13 : Oper := { dst := some 53, op := Go.Op.move (Go.Operand.tmp 10), type := 3, pos := "apply.go:86", after := #[], guard := none }
def q39_14 : Oper := { dst := some 54, op := Go.Op.slice 22 (Go.Operand.tmp 52) (some (Go.Operand.tmp 53)) none none, type := 22, pos := "apply.go:86", after := #[{ on := 12, ground := Go.Ground.data }, { on := 13, ground := Go.Ground.data }], guard := none }
def q39_15 : Oper := { dst := some 55, op := Go.Op.buildSlice 109 3 #[(0, Go.Operand.tmp 45), (1, Go.Operand.tmp 50), (2, Go.Operand.tmp 54)], type := 109, pos := "apply.go:86", after := #[{ on := 5, ground := Go.Ground.data }, { on := 10, ground := Go.Ground.data }, { on := 14, ground := Go.Ground.data }], guard := none }
def q39_16 : Oper := { dst := some 56, op := Go.Op.call { callee := Go.Callee.value (Go.Operand.func 60), args := #[Go.Operand.tmp 55], argTypes := #[109] }, type := 22, pos := "apply.go:88", after := #[{ on := 15, ground := Go.Ground.data }], guard := none }
def q39_17 : Oper := { dst := some 57, op := Go.Op.fieldAddr 45 (Go.Operand.tmp 6) 4, type := 0, pos := "apply.go:86", after := #[], guard := none }
def q39_18 : Oper := { dst := some 58, op := Go.Op.load 42 (Go.Operand.tmp 57), type := 42, pos := "apply.go:86", after := #[{ on := 17, ground := Go.Ground.data }], guard := none }
def q39_19 : Oper := { dst := some 59, op := Go.Op.move (Go.Operand.tmp 8), type := 3, pos := "apply.go:86", after := #[], guard := none }
def q39_20 : Oper := { dst := some 60, op := Go.Op.slice 42 (Go.Operand.tmp 58) none (some (Go.Operand.tmp 59)) none, type := 42, pos := "apply.go:86", after := #[{ on := 18, ground := Go.Ground.data }, { on := 19, ground := Go.Ground.data }], guard := none }
def q39_21 : Oper := { dst := some 61, op := Go.Op.load 45 (Go.Operand.tmp 7), type := 45, pos := "apply.go:86", after := #[], guard := none }
def q39_22 : Oper := { dst := some 62, op := Go.Op.buildSlice 42 1 #[(0, Go.Operand.tmp 61)], type := 42, pos := "apply.go:86", after := #[{ on := 21, ground := Go.Ground.data }], guard := none }
def q39_23 : Oper := { dst := some 63, op := Go.Op.fieldAddr 45 (Go.Operand.tmp 6) 4, type := 0, pos := "apply.go:86", after := #[], guard := none }
def q39_24 : Oper := { dst := some 64, op := Go.Op.load 42 (Go.Operand.tmp 63), type := 42, pos := "apply.go:86", after := #[{ on := 23, ground := Go.Ground.data }], guard := none }
def q39_25 : Oper := { dst := some 65, op := Go.Op.move (Go.Operand.tmp 10), type := 3, pos := "apply.go:86", after := #[], guard := none }
def q39_26 : Oper := { dst := some 66, op := Go.Op.slice 42 (Go.Operand.tmp 64) (some (Go.Operand.tmp 65)) none none, type := 42, pos := "apply.go:86", after := #[{ on := 24, ground := Go.Ground.data }, { on := 25, ground := Go.Ground.data }], guard := none }
def q39_27 : Oper := { dst := some 67, op := Go.Op.buildSlice 111 3 #[(0, Go.Operand.tmp 60), (1, Go.Operand.tmp 62), (2, Go.Operand.tmp 66)], type := 111, pos := "apply.go:86", after := #[{ on := 20, ground := Go.Ground.data }, { on := 22, ground := Go.Ground.data }, { on := 26, ground := Go.Ground.data }], guard := none }
def q39_28 : Oper := { dst := some 68, op := Go.Op.call { callee := Go.Callee.value (Go.Operand.func 61), args := #[Go.Operand.tmp 67], argTypes := #[111] }, type := 42, pos := "apply.go:89", after := #[{ on := 27, ground := Go.Ground.data }, { on := 16, ground := Go.Ground.chain }], guard := none }
def q39_29 : Oper := { dst := some 69, op := Go.Op.build 45 #[(0, Go.Operand.const (Go.Value.int Go.IntKind.i64 4)), (3, Go.Operand.tmp 56), (4, Go.Operand.tmp 68)], type := 45, pos := "apply.go:86", after := #[{ on := 16, ground := Go.Ground.data }, { on := 28, ground := Go.Ground.data }], guard := none }
def q39_30 : Oper := { dst := some 70, op := Go.Op.call { callee := Go.Callee.value (Go.Operand.func 21), args := #[Go.Operand.tmp 41, Go.Operand.tmp 69], argTypes := #[38, 45] }, type := 0, pos := "apply.go:86", after := #[{ on := 1, ground := Go.Ground.data }, { on := 29, ground := Go.Ground.data }, { on := 28, ground := Go.Ground.chain }], guard := none }
def q39 : Array Oper := #[q39_0, q39_1, q39_2, q39_3, q39_4, q39_5, q39_6, q39_7, q39_8, q39_9, q39_10, q39_11, q39_12, q39_13, q39_14, q39_15, q39_16, q39_17, q39_18, q39_19, q39_20, q39_21, q39_22, q39_23, q39_24, q39_25, q39_26, q39_27, q39_28, q39_29, q39_30]
def C39 (mb b4 b6 b7 eb eo : Nat) (x : Str) (LA : Option Addr) (n lc : Nat) (A : Option Addr) (c : Nat) (z : Val) (LAz : Option Addr) (lcz : Nat) (Az : Option Addr) (cz : Nat) (pz : Option Addr) (V : World) : Prop :=
  V.cell? ⟨b4, 0, none⟩ = some (.pointer (some ⟨mb, 0, none⟩)) ∧ V.cell? ⟨b6, 3, none⟩ = some (.slice LA n lc) ∧ V.cell? ⟨b6, 4, none⟩ = some (.slice A n c) ∧ V.cell? ⟨eb, eo + 3, none⟩ = some (.string (bstr x)) ∧ V.cell? ⟨b7, 0, none⟩ = some (.int .i64 z.sort) ∧ V.cell? ⟨b7, 1, none⟩ = some (.int .i64 z.n) ∧ V.cell? ⟨b7, 2, none⟩ = some (.string (bstr z.s)) ∧ V.cell? ⟨b7, 3, none⟩ = some (.slice LAz z.labels.length lcz) ∧ V.cell? ⟨b7, 4, none⟩ = some (.slice Az z.l.length cz) ∧ V.cell? ⟨b7, 5, none⟩ = some (.pointer pz)
theorem C39.keep {mb b4 b6 b7 eb eo : Nat} {x : Str} {LA : Option Addr} {n lc : Nat} {A : Option Addr} {c : Nat} {z : Val} {LAz : Option Addr} {lcz : Nat} {Az : Option Addr} {cz : Nat} {pz : Option Addr} {V V' : World} (h : C39 mb b4 b6 b7 eb eo x LA n lc A c z LAz lcz Az cz pz V) (hb : Below V.heap.size V V') : C39 mb b4 b6 b7 eb eo x LA n lc A c z LAz lcz Az cz pz V' :=
  ⟨cell_below hb h.1, cell_below hb h.2.1, cell_below hb h.2.2.1, cell_below hb h.2.2.2.1, cell_below hb h.2.2.2.2.1, cell_below hb h.2.2.2.2.2.1, cell_below hb h.2.2.2.2.2.2.1, cell_below hb h.2.2.2.2.2.2.2.1, cell_below hb h.2.2.2.2.2.2.2.2.1, cell_below hb h.2.2.2.2.2.2.2.2.2⟩
end Go.Proofs.YtjmgnohepoacbaaDoor
