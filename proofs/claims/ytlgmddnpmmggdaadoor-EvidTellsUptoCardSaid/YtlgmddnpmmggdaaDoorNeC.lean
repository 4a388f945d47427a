/-
  What is to be told of a type, by the code: Needs, where the type may be.
-/
import Derived.Test.YtlgmddnpmmggdaaDoorNeB
namespace Go.Proofs.YtlgmddnpmmggdaaDoor
open Go.ChangeShapes Go.WideShapes Go.ChangeAt Go.RowKit Go.Sort Go.Maps
set_option linter.unusedVariables false
set_option linter.unusedSimpArgs false

theorem ND.row {w2 wr : World} {q : Nat} {N : List (Int × Str)} {v x : Value} {e : TypeId} {n size : Nat} {xs : List Value} (h : ND w2 q N v wr) (hr : w2.ownsRow (q + 1) e size x n xs) : wr.ownsRow (q + 1) e size x n xs := by
  refine ⟨hr.1, ?_⟩
  rcases hr.2 with hn | ⟨g, cap, cur, rfl, hb, hgg, rest⟩
  · exact .inl hn
  · exact .inr ⟨g, cap, cur, rfl, hb, (h.blk g (Array.getElem?_eq_some_iff.1 hgg).1 (by omega)).trans hgg, rest⟩
theorem take_map_snoc {l : List Str} {j : Nat} {r : Int} {x : Str} (h : l.take (j + 1) = l.take j ++ [x]) (a : List (Int × Str)) : a ++ (l.take (j + 1)).map (fun s => (r, s)) = (a ++ (l.take j).map fun s => (r, s)) ++ [(r, x)] := by rw [h]; simp

set_option maxRecDepth 100000 in
set_option maxHeartbeats 1000000 in
theorem needs_yes (w0 : World) (t : Ty) (hI : t.In w0) (hG : t.Rg) (hn : t.nodes ≤ 5000) (pb : Nat) (LA : Option Addr) (lc : Nat) (L : List Lk) (w : World) (hb : Below w0.heap.size w0 w) (hm : (mayF t 0).isSome = true)
    (hc : w.cell? ⟨pb, 0, Option.none⟩ = some (.slice LA L.length lc)) (hr : Rd w 1 LA L.length (L.map Lk.val)) (hL : L.length ≤ 4000000) (hLI : ∀ k ∈ L, k.In w) :
    Calls Tryd.prog 16 #[.agg t.d.arr, lackFn pb] w fun e w' => ∃ v, e = .returned v ∧ w'.ownsRow w.heap.size 43 2 v (needsOf L (meetT t [] []).2).length (nds (needsOf L (meetT t [] []).2)) ∧ Below w.heap.size w w' := by
  have hmf : ∀ (fn : Fn) (first cap : Array Value) (w : World), (Instr.makeFunc fn first cap).run Tryd.prog w = .ok (.func fn first cap) w := fun _ _ _ _ => rfl
  have hnf := fn_not_nil
  unfold lackFn
  have hM := may_any t ((w.alloc (.cells t.d.arr 25)).alloc (.cells #[.slice Option.none 0 0] 28)) (hI.lower (hb.trans (((Below.refl _ _).alloc hb.size _).alloc (by rw [World.size_alloc]; have := hb.size; omega) _)))
  rw [hm] at hM
  have hA1 := (box_at w t.d).lower ((Below.refl _ _).alloc (Nat.le_refl _) (.cells #[.slice Option.none 0 0] 28))
  have hC : ((w.alloc (.cells t.d.arr 25)).alloc (.cells #[.slice Option.none 0 0] 28)).cell? ⟨w.heap.size + 1, 0, Option.none⟩ = some (.slice Option.none 0 0) := by
    have := cell_new (w.alloc (.cells t.d.arr 25)) #[.slice Option.none 0 0] 28 0 (v := .slice Option.none 0 0) rfl (fr := (0, 0))
    rwa [World.size_alloc] at this
  have hB : RowKit.Below w.heap.size w ((w.alloc (.cells t.d.arr 25)).alloc (.cells #[.slice Option.none 0 0] 28)) := ((Below.refl _ _).alloc (Nat.le_refl _) _).alloc (by simp) _
  have hF : ((w.alloc (.cells t.d.arr 25)).alloc (.cells #[.slice Option.none 0 0] 28)).frozen? ⟨w.heap.size + 1, 0, Option.none⟩ = false := by
    have := heap_alloc_new (w.alloc (.cells t.d.arr 25)) (.cells #[.slice Option.none 0 0] 28)
    rw [World.size_alloc] at this
    unfold World.frozen?
    rw [show (⟨w.heap.size + 1, 0, Option.none⟩ : Addr).block = w.heap.size + 1 from rfl, this]
    rfl
  have HM := Lib.hid hM
  have HB := Lib.hid hB
  have HF := Lib.hid (And.intro hC hF)
  have HT := Lib.hid (And.intro hI (And.intro hG (And.intro hn hb)))
  have HLL := Lib.hid (And.intro hc (And.intro hr (And.intro hL hLI)))
  have HSZ := Lib.hid (show ((w.alloc (.cells t.d.arr 25)).alloc (.cells #[.slice Option.none 0 0] 28)).heap.size = w.heap.size + 1 + 1 by rw [World.size_alloc, World.size_alloc])
  have HAt := Lib.hid hA1
  clear hM hB hC hF hI hb hm hc hr hL hLI hn hG
  obtain ⟨a0, a1, a2, a3, a4⟩ := hA1
  go_enter_defers Tryd.func16, Tryd.ntmps16
  go_wp2_with fail
  generalize ((w.alloc (.cells t.d.arr 25)).alloc (.cells #[.slice Option.none 0 0] 28)) = w1 at *
  refine HM.out.mono ?_
  rintro e w2 ⟨rfl, hb2⟩
  have HAt2 := Lib.hid (HAt.out.lower hb2)
  have HF2 := Lib.hid (And.intro (cell_below hb2 HF.out.1) ((hb2.frozen (p := ⟨w.heap.size + 1, 0, Option.none⟩) (by have := HSZ.out; show w.heap.size + 1 < _; omega)).trans HF.out.2))
  have HB2 := Lib.hid (below_then HB.out hb2)
  have HS2 := Lib.hid (show w.heap.size + 1 + 1 ≤ w2.heap.size by have := HSZ.out; have := hb2.size; omega)
  clear hb2 HM HB HF HAt HSZ a0 a1 a2 a3 a4
  obtain ⟨a0, a1, a2, a3, a4⟩ := HAt2.out
  go_wp2_with fail
  refine (vars_any w0 t HT.out.1 HT.out.2.1 (by have := HT.out.2.2.1; omega) w2 (HT.out.2.2.2.trans (HB2.out.mono HT.out.2.2.2.size))).mono ?_
  rintro e w3 ⟨A1, c1, A2, c2, rfl, _, hrow, hb3⟩
  clear a0 a1 a2 a3 a4
  obtain ⟨R, hR⟩ : ∃ R, (meetT t [] []).2 = R := ⟨_, rfl⟩
  have hR5 : R.length ≤ 5000 := by
    have := (meetT_len t [] []).2
    rw [hR] at this
    have := HT.out.2.2.1
    simp at *
    omega
  have HRE := Lib.hid hR
  rw [hR] at hrow ⊢
  have HR5 := Lib.hid hR5
  have HROW := Lib.hid (own_base hrow HS2.out)
  have HW3 := Lib.hid (below_then HB2.out hb3)
  have HQ := Lib.hid (show w.heap.size + 1 < w3.heap.size by have := HS2.out; have := hb3.size; omega)
  have HND := Lib.hid (show ND w3 (w.heap.size + 1) [] (.slice Option.none 0 0) w3 from ⟨cell_below hb3 HF2.out.1, (hb3.frozen (p := ⟨w.heap.size + 1, 0, Option.none⟩) (by have := HS2.out; show w.heap.size + 1 < _; omega)).trans HF2.out.2, World.ownsRow_nil _ _ _ _, Below.refl _ _, fun _ _ _ => rfl⟩)
  clear hrow hb3 HF2 HAt2 HB2 HS2 hR5 hR HT
  obtain ⟨q, hq⟩ : ∃ q, w.heap.size + 1 = q := ⟨_, rfl⟩
  have HWQ := Lib.hid (show w.heap.size ≤ q by omega)
  rw [hq] at HROW HQ HND ⊢
  clear hq
  go_wp2_with fail
  go_loopw [26] (fun i wr => ∃ (k : Nat) (v : Value), i = .int .i64 k ∧ k ≤ R.length ∧ ND w3 q (needsOf L (R.take k)) v wr) (fun i _ => R.length - (intOf i).toNat)
  case atStart => exact ⟨0, _, rfl, Nat.zero_le _, HND.out⟩
  case round =>
    obtain ⟨k, v, rfl, hk, hnd⟩ := hrel
    have HD := Lib.hid hnd
    have HWR := Lib.hid (HW3.out.trans (hnd.b.mono HWQ.out))
    by_cases hlt : k < R.length
    · obtain ⟨b, o, rfl, _, hcel⟩ := (Rd.of_own (hnd.row HROW.out)).int (k := k) hlt
      have h1 := hcel k hlt
      obtain ⟨x, hx⟩ : ∃ x, R[k] = x := ⟨_, rfl⟩
      rw [hx] at h1
      have htk : R.take (k + 1) = R.take k ++ [x] := by rw [List.take_succ_eq_append_getElem hlt, hx]
      have hki : (k : Int) < (R.length : Int) := by omega
      have hk4 : (k : Int) ≤ 5000 := by have := HR5.out; omega
      have hlen := needs_len L (fun y hy => by rw [(HLL.out.2.2.2 y hy).len]; exact (HLL.out.2.2.2 y hy).few) (R.take k)
      rw [List.length_take_of_le hk] at hlen
      have HLEN := Lib.hid hlen
      have HTK := Lib.hid (show needsOf L (R.take (k + 1)) = needsOf L (R.take k) ++ (lackV L x).l.map fun s => (x, s) by rw [htk, needs_snoc])
      have HLK := Lib.hid (lack_any pb LA lc L x wr (cell_below HWR.out HLL.out.1) (HLL.out.2.1.below HWR.out) HLL.out.2.2.1)
      have HLI := Lib.hid (lackV_in HLL.out.2.2.2 x)
      obtain ⟨lk, hlk⟩ : ∃ lk, lackV L x = lk := ⟨_, rfl⟩
      rw [hlk] at HTK HLK HLI
      obtain ⟨A, n, c, l⟩ := lk
      clear hcel hx htk hlk hlen hnd
      unfold Lk.val at HLK
      have hca := HLI.out.cap
      have hle := HLI.out.le
      have hfew := HLI.out.few
      go_wp2_with fail
      refine HLK.out.mono ?_
      rintro e w4 ⟨rfl, rfl⟩
      go_wp2_with fail
      clear h1 HLK
      go_loopw [34] (fun i wr => ∃ (j : Nat) (v : Value), i = .int .i64 j ∧ j ≤ n ∧ ND w3 q (needsOf L (R.take k) ++ (l.take j).map fun s => (x, s)) v wr) (fun i _ => n - (intOf i).toNat)
      case atStart => exact ⟨0, v, rfl, Nat.zero_le _, by simpa using HD.out⟩
      case round =>
        clear HD HWR
        obtain ⟨j, v5, rfl, hj, hnd⟩ := hrel
        have HD := Lib.hid hnd
        have HWR := Lib.hid (HW3.out.trans (hnd.b.mono HWQ.out))
        by_cases hlt2 : j < n
        · have hjl : j < l.length := by rw [HLI.out.len]; exact hlt2
          obtain ⟨b2, o2, rfl, hcel⟩ := (HLI.out.rd.below HWR.out).str (k := j) hjl
          have h1 := hcel j hjl
          obtain ⟨y, hy⟩ : ∃ y, l[j] = y := ⟨_, rfl⟩
          rw [hy] at h1
          have hmi : (j : Int) < (n : Int) := by omega
          have hj4 : (j : Int) ≤ 4000000 := by omega
          have HTJ := Lib.hid (take_map_snoc (r := x) (show l.take (j + 1) = l.take j ++ [y] by rw [List.take_succ_eq_append_getElem hjl, hy]) (needsOf L (R.take k)))
          obtain ⟨N, hN⟩ : ∃ N, (needsOf L (R.take k) ++ (l.take j).map fun s => (x, s)) = N := ⟨_, rfl⟩
          have hNl : N.length ≤ 20004000000 := by
            have h9 := HLEN.out
            rw [← hN, List.length_append, List.length_map, List.length_take]
            have : min j l.length ≤ 4000000 := by omega
            have : k * 4000000 ≤ 5000 * 4000000 := Nat.mul_le_mul_right _ (by omega)
            omega
          rw [hN] at HD HTJ hnd
          obtain ⟨A5, c5, rfl, _⟩ := own_cap hnd.own
          have c0 := hnd.c
          have f0 := hnd.f
          have c0b : (wr.alloc (.cells #[.int .i64 x, .string (bstr y)] 43)).cell? ⟨q, 0, Option.none⟩ = _ := cell_alloc c0
          have HNL := Lib.hid (show (N.length + 1) * 24 ≤ 140737488355328 by omega)
          have HSB := Lib.hid (show w3.heap.size ≤ (wr.alloc (.cells #[.int .i64 x, .string (bstr y)] 43)).heap.size by rw [World.size_alloc]; have := hnd.b.size; omega)
          clear hcel hy hN hNl hjl hnd
          go_wp2_with (first
            | (at_builtin; refine wpList_app elNeed _ rfl (.tmp 38) (.tmp 42) rfl w3.heap.size (.slice A5 N.length c5) N.length (nds N) rfl (HD.out.own.alloc _) (some ⟨wr.heap.size, 0, Option.none⟩) 1 1 _ rfl (Rd.lit wr _ _ rfl) (two_one _ _) HNL.out HSB.out ?_; intro v6 w6 hown6 hb6 hg6 ho6; obtain ⟨l6, f6⟩ := HD.out.far HQ.out hg6; obtain ⟨A6, c6, hv6, _⟩ := own_cap hown6; rw [hv6] at hown6 ho6 ⊢; clear hv6; have H6 := Lib.hid (And.intro hown6 (And.intro hg6 ho6)); clear hown6 hg6 ho6 hb6)
            | fail)
          go_roundw
          case rel =>
            refine ⟨j + 1, .slice A6 (N.length + 1) c6, by go_num, hlt2, ?_⟩
            rw [HTJ.out]
            exact HD.out.add HQ.out H6.out.1 H6.out.2.1
          case measure => simp [intOf] <;> omega
        · have hmi : ¬ (j : Int) < (n : Int) := by omega
          have hln : l.length = n := HLI.out.len
          have hall : l.take j = l := List.take_of_length_le (by omega)
          clear hln
          have hnd2 := hnd
          rw [hall, ← HTK.out] at hnd2
          have HE := Lib.hid hnd2
          clear hnd hnd2 hall HD
          go_wp2_with fail
          go_roundw
          case rel => exact ⟨k + 1, _, by go_num, hlt, HE.out⟩
          case measure => simp [intOf] <;> omega
    · have hki : ¬ (k : Int) < (R.length : Int) := by omega
      have hall : R.take k = R := List.take_of_length_le (by omega)
      rw [hall] at hnd
      obtain ⟨A5, c5, rfl, _⟩ := own_cap hnd.own
      have c0 := hnd.c
      have f0 := hnd.f
      have HE := Lib.hid hnd
      clear hnd HD hall
      go_wp2_with fail
      refine leaves_cons (f := 27) (args := #[.pointer (some ⟨q, 0, Option.none⟩)]) (by simp) (by simp [go_sem]) ?_
      refine (needCatch_idle ⟨q, 0, Option.none⟩ _).mono ?_
      rintro e u' w'' ⟨rfl, rfl, rfl⟩
      have c3 : (wr.setCell ⟨q, 0, Option.none⟩ (.slice A5 (needsOf L R).length c5)).cell? ⟨q, 0, Option.none⟩ = some (.slice A5 (needsOf L R).length c5) := World.cell?_setCell_same _ _ _ c0
      have h4 : (wr.setCell ⟨q, 0, Option.none⟩ (.slice A5 (needsOf L R).length c5)).ownsRow w.heap.size 43 2 (.slice A5 (needsOf L R).length c5) (needsOf L (meetT t [] []).2).length (nds (needsOf L (meetT t [] []).2)) := by
        rw [HRE.out]
        exact own_base (ownsRow_setCell_below HE.out.own HQ.out _) HW3.out.size
      have h5 : Below w.heap.size w (wr.setCell ⟨q, 0, Option.none⟩ (.slice A5 (needsOf L R).length c5)) := HWR.out.setCell HWQ.out _
      simp only [Leaves, settle, results, Tryd.results16]
      simp [go_sem, c3]
      first | exact h5 | exact ⟨h4, h5⟩
end Go.Proofs.YtlgmddnpmmggdaaDoor
