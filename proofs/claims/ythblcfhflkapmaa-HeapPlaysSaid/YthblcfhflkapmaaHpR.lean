/-
  The heap: an object.
-/
import Derived.Test.YthblcfhflkapmaaHpQ
namespace Go.Proofs.Ythblcfhflkapmaa
open Go Go.ChangeShapes Go.WideShapes Go.ChangeAt Go.RowKit Go.Sort
set_option linter.unusedVariables false
set_option linter.unusedSimpArgs false

section
variable {w : World} {B hb : Nat} {size runs : Int} {L : List Ob} {V G V' G' : Value}
set_option maxRecDepth 100000 in
set_option maxHeartbeats 2000000 in
theorem Object_no (h : CH w B hb size runs L V G V' G') (hs : sizes L ≤ 4000000) (p : Int) (hq : at_ L p = none) :
    Calls Try.prog 20 #[.pointer (some ⟨hb, 0, none⟩), .int .i64 p] w fun e w' => e = .returned (.tuple #[.int .i64 0, .slice none 0 0, .iface 29 (.int .i64 1)]) ∧ Below w.heap.size w w' := by
  have HI := Lib.hid (isObject_any h hs p)
  rw [hq] at HI
  obtain ⟨x0, x1, x2, x3, x4, x5⟩ := cells6 h.hd
  clear h hs hq
  go_enter Try.func20, Try.ntmps20
  go_wp2_with (go_at_call 39; (with_reducible refine HI.out.mono ?_); rintro e w1 ⟨rfl, rfl⟩)
  go_returns
  exact ⟨rfl, Below.refl _ _⟩
/-- An object's words, where they lie. -/
theorem CH.cut (h : CH w B hb size runs L V G V' G') {j : Nat} (hj : j < L.length) {q c : Nat} (hV : V = .slice (some ⟨q, 0, none⟩) (sizes L) c) : Rd w 2 (some ⟨q, (place L j + 1) * 2, none⟩) (ob L j).2.length (wcells (ob L j).2) := by
  have hr := h.fw
  rw [hV] at hr
  have hfit := place_fit hj
  have h1 := (Rd.of_own hr).cut (lo := place L j + 1) (hi := place L j + 1 + (ob L j).2.length) (k := (place L j + 1) * 2) (by omega) (by omega) rfl
  rw [show place L j + 1 + (ob L j).2.length - (place L j + 1) = (ob L j).2.length by omega, wcells_cut, ← from_nil L, from_cut hj] at h1
  have e2 : (some (⟨q, 0, none⟩ : Addr)).map (fun x => x.add ((place L j + 1) * 2)) = some ⟨q, (place L j + 1) * 2, none⟩ := by simp [Addr.add_lit]
  rwa [e2] at h1
set_option maxRecDepth 100000 in
set_option maxHeartbeats 4000000 in
theorem Object_yes (h : CH w B hb size runs L V G V' G') (hw : Wf L) (hs : sizes L ≤ 4000000) (j : Nat) (hj : j < L.length) :
    Calls Try.prog 20 #[.pointer (some ⟨hb, 0, none⟩), .int .i64 (place L j : Nat)] w fun e w' => ∃ v, e = .returned (.tuple #[.int .i64 (ob L j).1, v, .nilIface]) ∧ w'.ownsRow w.heap.size WTy 2 v (ob L j).2.length (wcells (ob L j).2) ∧ Below w.heap.size w w' := by
  have HI := Lib.hid (isObject_any h hs (place L j : Nat))
  rw [at_some.2 ⟨hj, rfl⟩] at HI
  have HP := Lib.hid (head_parts w hw hj)
  have hfit := place_fit hj
  obtain ⟨q, c, hV, hql, ⟨hc1, hc2⟩, hrow⟩ := h.row (by omega)
  obtain ⟨r0, r1, _, _⟩ := hrow _ _ (flat_head (ob_get hj))
  have r1' : w.cell? ⟨q, place L j * 2 + 1, none⟩ = some (.int .i64 (16 * (ob L j).2.length + (ob L j).1)) := r1
  have r0' : w.cell? ⟨q, place L j * 2, none⟩ = some (.bool false) := r0
  have hcut := h.cut hj hV
  have HCL := Lib.hid (fun (A1 : Option Addr) (hA1 : A1 = some ⟨q, (place L j + 1) * 2, none⟩ ∨ (ob L j).2.length = 0) (V1 : World) (hb1 : Below w.heap.size w V1) (c' : Nat) => wclone_any V1 A1 (ob L j).2 c' (by
    rcases hA1 with rfl | h0
    · exact hcut.below hb1
    · rw [List.eq_nil_of_length_eq_zero h0]
      exact Rd.nil _ _ _) (by omega))
  obtain ⟨x0, x1, x2, x3, x4, x5⟩ := cells6 h.hd
  have HH := Lib.hid h.hd
  rw [hV] at x2 HH
  obtain ⟨P, hP⟩ : ∃ P, place L j = P := ⟨_, rfl⟩
  obtain ⟨K, hK⟩ : ∃ K, (ob L j).1 = K := ⟨_, rfl⟩
  obtain ⟨N, hN⟩ : ∃ N, (ob L j).2.length = N := ⟨_, rfl⟩
  rw [hP, hN, hK] at r1'
  rw [hP] at r0' HI
  rw [hK, hN] at HP
  rw [hP, hN] at HCL
  rw [hP, hN] at hfit
  rw [hP, hK, hN]
  have i1 : (P : Int) < (sizes L : Int) := by omega
  have i0 : (0 : Int) ≤ (P : Int) := by omega
  have i2 : (sizes L : Int) ≤ 4000000 := by omega
  have i3 : (P : Int) + 1 + (N : Int) ≤ (sizes L : Int) := by omega
  have i4 : (P : Int) + 1 + (N : Int) ≤ (c : Int) := by omega
  have i5 : (P : Int) + 1 ≤ (P : Int) + 1 + (N : Int) := by omega
  have i6 : (0 : Int) ≤ (P : Int) + 1 := by omega
  have i7 : (0 : Int) ≤ (P : Int) + 1 + (N : Int) := by omega
  have j1 : ((P : Int) + 1).toNat = P + 1 := by omega
  have j2 : ((P : Int) + 1 + (N : Int)).toNat = P + 1 + N := by omega
  have j3 : P + 1 + N - (P + 1) = N := by omega
  have HI4 := Lib.hid (show P + 1 + N ≤ c by omega)
  clear h hw hrow r0 r1 hfit hj hP hK hN hs hc1 hc2 hcut
  go_enter Try.func20, Try.ntmps20
  go_upto_region 4 with (first
    | (go_at_call 39; (with_reducible refine HI.out.mono ?_); rintro e w1 ⟨rfl, rfl⟩)
    | (go_at_call 40; (with_reducible refine HP.out.mono ?_); rintro e w1 ⟨rfl, hb1⟩; obtain ⟨y0, y1, y2, y3, y4, y5⟩ := cells6 ((hb1.block _ (lt_of_heap HH.out)).trans HH.out); have HB := Lib.hid hb1; clear hb1))
  by_cases hc : c = P + 1
  · have HA := Lib.hid (HCL.out (some ⟨q, 0, none⟩) (.inr (by have := HI4.out; omega)) w1 HB.out)
    go_wp2_with (go_at_call 30; (with_reducible refine (HA.out _).mono ?_); rintro e w2 ⟨v, rfl, hown, hb2⟩; have HO := Lib.hid (And.intro (own_mono hown HB.out.size) (below_then HB.out hb2)); clear hown hb2)
    go_returns
    exact ⟨_, rfl, HO.out⟩
  · have HA := Lib.hid (HCL.out _ (.inl rfl) w1 HB.out)
    go_wp2_with (go_at_call 30; (with_reducible refine (HA.out _).mono ?_); rintro e w2 ⟨v, rfl, hown, hb2⟩; have HO := Lib.hid (And.intro (own_mono hown HB.out.size) (below_then HB.out hb2)); clear hown hb2)
    go_returns
    exact ⟨_, rfl, HO.out⟩
end
end Go.Proofs.Ythblcfhflkapmaa
