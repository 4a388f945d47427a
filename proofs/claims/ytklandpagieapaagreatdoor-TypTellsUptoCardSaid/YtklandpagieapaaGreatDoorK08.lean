/-
  Whether a type may be, by the document's answer: all of it.
  Numbers that were met, by the document's answer: Meet.
  A type's text, by the document's answer.
-/
import Derived.Test.YtklandpagieapaaGreatDoorK07
import Derived.Test.YtklandpagieapaaGreatDoorK02
namespace Go.Proofs.YtklandpagieapaaGreatDoor
open Go.ChangeShapes Go.WideShapes Go.ChangeAt Go.RowKit Go.Sort
set_option linter.unusedVariables false
set_option linter.unusedSimpArgs false

set_option maxRecDepth 100000 in
set_option maxHeartbeats 1000000 in
theorem fg1 (n : Int) (pA : Option Addr) (pn pc : Nat) (lA : Option Addr) (ln lc : Nat) (labels : List Str) (tail : Int) (l : List Ty) (w : World) (hn : n = 0) (ht : tail = -1) (hl : ln = 0) (hp : pn = 0) (hlen : l.length = pn) (hpn : pn ≤ 4000000)
    (hch : ∀ x ∈ l, ∀ W, Below w.heap.size w W → Calls Tryz.prog 24 #[.agg x.d.arr] W fun e w' => e = .returned (.bool x.fine) ∧ Below W.heap.size W w')
    (hpart : ∀ k (h : k < l.length), ∃ pb po, pA = some ⟨pb, po, none⟩ ∧ (l[k]).d.At w pb (po + k * 5)) :
    Calls Tryz.prog 24 #[.agg #[.int .i64 1, .int .i64 n, .slice pA pn pc, .slice lA ln lc, .int .i64 tail]] w fun e w' => e = .returned (.bool (fineL0 l)) ∧ Below w.heap.size w w' := by
  subst ht
  subst hl
  subst hn
  have hb : Below w.heap.size w (w.alloc (.cells #[.int .i64 1, .int .i64 0, .slice pA pn pc, .slice lA 0 lc, .int .i64 (-1)] 25)) := (Below.refl _ _).alloc (Nat.le_refl _) _
  have c2 : (w.alloc (.cells #[.int .i64 1, .int .i64 0, .slice pA pn pc, .slice lA 0 lc, .int .i64 (-1)] 25)).cell? ⟨w.heap.size, 2, none⟩ = some (.slice pA pn pc) := cell_new w _ _ 2 rfl
  have HB := Lib.hid (And.intro hb c2)
  have HL := Lib.hid (And.intro hlen hpn)
  have HC := Lib.hid hch
  have HP := Lib.hid hpart
  have hpi : ((pn : Int) != 0) = false := by rw [bne_eq_false_iff_eq]; omega
  have HQ := Lib.hid hp
  clear hb c2 hlen hpn hch hpart hp
  go_enter Tryz.func24, Tryz.ntmps24
  go_wp2_with fail
  go_loopw [7] (fun i wr => ∃ (k : Nat), i = .int .i64 k ∧ k ≤ pn ∧ fineL0 (l.take k) = true ∧ Below w.heap.size w wr ∧ wr.cell? ⟨w.heap.size, 2, none⟩ = some (.slice pA pn pc)) (fun i _ => pn - (intOf i).toNat)
  case atStart => exact ⟨0, rfl, Nat.zero_le _, rfl, HB.out.1, HB.out.2⟩
  case round =>
    obtain ⟨j, rfl, hj, hf, hbr, c2⟩ := hrel
    have HR := Lib.hid (And.intro hbr (And.intro hf c2))
    clear hbr hf
    by_cases hlt2 : j < pn
    · have hjl : j < l.length := by rw [HL.out.1]; exact hlt2
      obtain ⟨pb, po, hpA, hAtM⟩ := HP.out j hjl
      have hc2' := c2
      rw [hpA] at c2
      obtain ⟨x, hx⟩ : ∃ x, l[j] = x := ⟨_, rfl⟩
      rw [hx] at hAtM
      have hxm : x ∈ l := by rw [← hx]; exact List.getElem_mem hjl
      have htk : l.take (j + 1) = l.take j ++ [x] := by rw [List.take_succ_eq_append_getElem hjl, hx]
      have hsn : fineL0 (l.take (j + 1)) = x.fine := by rw [htk, fineL0_snoc, HR.out.2.1, Bool.true_and]
      have HM := Lib.hid (HC.out x hxm wr HR.out.1)
      have HS := Lib.hid hsn
      have HCC := Lib.hid hc2'
      obtain ⟨p0, p1, p2, p3, p4⟩ := hAtM.lower HR.out.1
      have hji : (j : Int) < (pn : Int) := by omega
      have hj4 : (j : Int) ≤ 4000000 := by have := HL.out.2; omega
      clear hpA hAtM hx hxm hjl htk hsn hc2'
      cases hf2 : x.fine with
      | true =>
        rw [hf2] at HM HS
        clear hf2
        go_wp2_with fail
        refine HM.out.mono ?_
        rintro e w3 ⟨rfl, hb3⟩
        have H3 := Lib.hid (And.intro (below_then HR.out.1 hb3) (cell_below hb3 HCC.out))
        clear hb3 HM
        go_wp2_with fail
        go_roundw
        case rel => exact ⟨j + 1, by go_num, hlt2, HS.out, H3.out.1, H3.out.2⟩
        case measure => simp [intOf] <;> omega
      | false =>
        rw [hf2] at HM HS
        clear hf2
        have HF := Lib.hid (fineL0_take (l := l) (k := j + 1) HS.out)
        go_wp2_with fail
        refine HM.out.mono ?_
        rintro e w3 ⟨rfl, hb3⟩
        have H3 := Lib.hid (below_then HR.out.1 hb3)
        clear hb3 HM
        go_wp2_with fail
        go_returns
        exact ⟨by rw [HF.out]; rfl, H3.out⟩
    · have hji : ¬ (j : Int) < (pn : Int) := by omega
      have hmm : l.take j = l := List.take_of_length_le (by rw [HL.out.1]; omega)
      have hfl := HR.out.2.1
      rw [hmm] at hfl
      have HF := Lib.hid hfl
      clear hmm hfl
      go_wp2_with fail
      go_returns
      exact ⟨by rw [HF.out]; rfl, HR.out.1⟩

set_option maxRecDepth 100000 in
set_option maxHeartbeats 1000000 in
theorem fg2 (n : Int) (pA : Option Addr) (pn pc : Nat) (lA : Option Addr) (ln lc : Nat) (labels : List Str) (tail : Int) (l : List Ty) (w : World) (hn : n = 0) (ht : tail = -1) (hl : ln = 0) (hp : pn = 0) (hlen : l.length = pn) (hpn : pn ≤ 4000000)
    (hch : ∀ x ∈ l, ∀ W, Below w.heap.size w W → Calls Tryz.prog 24 #[.agg x.d.arr] W fun e w' => e = .returned (.bool x.fine) ∧ Below W.heap.size W w')
    (hpart : ∀ k (h : k < l.length), ∃ pb po, pA = some ⟨pb, po, none⟩ ∧ (l[k]).d.At w pb (po + k * 5)) :
    Calls Tryz.prog 24 #[.agg #[.int .i64 2, .int .i64 n, .slice pA pn pc, .slice lA ln lc, .int .i64 tail]] w fun e w' => e = .returned (.bool (fineL0 l)) ∧ Below w.heap.size w w' := by
  subst ht
  subst hl
  subst hn
  have hb : Below w.heap.size w (w.alloc (.cells #[.int .i64 2, .int .i64 0, .slice pA pn pc, .slice lA 0 lc, .int .i64 (-1)] 25)) := (Below.refl _ _).alloc (Nat.le_refl _) _
  have c2 : (w.alloc (.cells #[.int .i64 2, .int .i64 0, .slice pA pn pc, .slice lA 0 lc, .int .i64 (-1)] 25)).cell? ⟨w.heap.size, 2, none⟩ = some (.slice pA pn pc) := cell_new w _ _ 2 rfl
  have HB := Lib.hid (And.intro hb c2)
  have HL := Lib.hid (And.intro hlen hpn)
  have HC := Lib.hid hch
  have HP := Lib.hid hpart
  have hpi : ((pn : Int) != 0) = false := by rw [bne_eq_false_iff_eq]; omega
  have HQ := Lib.hid hp
  clear hb c2 hlen hpn hch hpart hp
  go_enter Tryz.func24, Tryz.ntmps24
  go_wp2_with fail
  go_loopw [7] (fun i wr => ∃ (k : Nat), i = .int .i64 k ∧ k ≤ pn ∧ fineL0 (l.take k) = true ∧ Below w.heap.size w wr ∧ wr.cell? ⟨w.heap.size, 2, none⟩ = some (.slice pA pn pc)) (fun i _ => pn - (intOf i).toNat)
  case atStart => exact ⟨0, rfl, Nat.zero_le _, rfl, HB.out.1, HB.out.2⟩
  case round =>
    obtain ⟨j, rfl, hj, hf, hbr, c2⟩ := hrel
    have HR := Lib.hid (And.intro hbr (And.intro hf c2))
    clear hbr hf
    by_cases hlt2 : j < pn
    · have hjl : j < l.length := by rw [HL.out.1]; exact hlt2
      obtain ⟨pb, po, hpA, hAtM⟩ := HP.out j hjl
      have hc2' := c2
      rw [hpA] at c2
      obtain ⟨x, hx⟩ : ∃ x, l[j] = x := ⟨_, rfl⟩
      rw [hx] at hAtM
      have hxm : x ∈ l := by rw [← hx]; exact List.getElem_mem hjl
      have htk : l.take (j + 1) = l.take j ++ [x] := by rw [List.take_succ_eq_append_getElem hjl, hx]
      have hsn : fineL0 (l.take (j + 1)) = x.fine := by rw [htk, fineL0_snoc, HR.out.2.1, Bool.true_and]
      have HM := Lib.hid (HC.out x hxm wr HR.out.1)
      have HS := Lib.hid hsn
      have HCC := Lib.hid hc2'
      obtain ⟨p0, p1, p2, p3, p4⟩ := hAtM.lower HR.out.1
      have hji : (j : Int) < (pn : Int) := by omega
      have hj4 : (j : Int) ≤ 4000000 := by have := HL.out.2; omega
      clear hpA hAtM hx hxm hjl htk hsn hc2'
      cases hf2 : x.fine with
      | true =>
        rw [hf2] at HM HS
        clear hf2
        go_wp2_with fail
        refine HM.out.mono ?_
        rintro e w3 ⟨rfl, hb3⟩
        have H3 := Lib.hid (And.intro (below_then HR.out.1 hb3) (cell_below hb3 HCC.out))
        clear hb3 HM
        go_wp2_with fail
        go_roundw
        case rel => exact ⟨j + 1, by go_num, hlt2, HS.out, H3.out.1, H3.out.2⟩
        case measure => simp [intOf] <;> omega
      | false =>
        rw [hf2] at HM HS
        clear hf2
        have HF := Lib.hid (fineL0_take (l := l) (k := j + 1) HS.out)
        go_wp2_with fail
        refine HM.out.mono ?_
        rintro e w3 ⟨rfl, hb3⟩
        have H3 := Lib.hid (below_then HR.out.1 hb3)
        clear hb3 HM
        go_wp2_with fail
        go_returns
        exact ⟨by rw [HF.out]; rfl, H3.out⟩
    · have hji : ¬ (j : Int) < (pn : Int) := by omega
      have hmm : l.take j = l := List.take_of_length_le (by rw [HL.out.1]; omega)
      have hfl := HR.out.2.1
      rw [hmm] at hfl
      have HF := Lib.hid hfl
      clear hmm hfl
      go_wp2_with fail
      go_returns
      exact ⟨by rw [HF.out]; rfl, HR.out.1⟩

set_option maxRecDepth 100000 in
set_option maxHeartbeats 1000000 in
theorem fg7a (n : Int) (pA : Option Addr) (pn pc : Nat) (lA : Option Addr) (ln lc : Nat) (labels : List Str) (tail : Int) (l : List Ty) (w : World) (hn : n = 0) (ht : tail = -1) (hl : ln = 0) (hp : pn = 0) (hlen : l.length = pn) (hpn : pn ≤ 4000000)
    (hch : ∀ x ∈ l, ∀ W, Below w.heap.size w W → Calls Tryz.prog 24 #[.agg x.d.arr] W fun e w' => e = .returned (.bool x.fine) ∧ Below W.heap.size W w')
    (hpart : ∀ k (h : k < l.length), ∃ pb po, pA = some ⟨pb, po, none⟩ ∧ (l[k]).d.At w pb (po + k * 5)) :
    Calls Tryz.prog 24 #[.agg #[.int .i64 7, .int .i64 n, .slice pA pn pc, .slice lA ln lc, .int .i64 tail]] w fun e w' => e = .returned (.bool (fineL0 l)) ∧ Below w.heap.size w w' := by
  subst ht
  subst hl
  subst hn
  have hb : Below w.heap.size w (w.alloc (.cells #[.int .i64 7, .int .i64 0, .slice pA pn pc, .slice lA 0 lc, .int .i64 (-1)] 25)) := (Below.refl _ _).alloc (Nat.le_refl _) _
  have c2 : (w.alloc (.cells #[.int .i64 7, .int .i64 0, .slice pA pn pc, .slice lA 0 lc, .int .i64 (-1)] 25)).cell? ⟨w.heap.size, 2, none⟩ = some (.slice pA pn pc) := cell_new w _ _ 2 rfl
  have HB := Lib.hid (And.intro hb c2)
  have HL := Lib.hid (And.intro hlen hpn)
  have HC := Lib.hid hch
  have HP := Lib.hid hpart
  have hpi : ((pn : Int) != 0) = false := by rw [bne_eq_false_iff_eq]; omega
  have HQ := Lib.hid hp
  clear hb c2 hlen hpn hch hpart hp
  go_enter Tryz.func24, Tryz.ntmps24
  go_wp2_with fail
  go_loopw [7] (fun i wr => ∃ (k : Nat), i = .int .i64 k ∧ k ≤ pn ∧ fineL0 (l.take k) = true ∧ Below w.heap.size w wr ∧ wr.cell? ⟨w.heap.size, 2, none⟩ = some (.slice pA pn pc)) (fun i _ => pn - (intOf i).toNat)
  case atStart => exact ⟨0, rfl, Nat.zero_le _, rfl, HB.out.1, HB.out.2⟩
  case round =>
    obtain ⟨j, rfl, hj, hf, hbr, c2⟩ := hrel
    have HR := Lib.hid (And.intro hbr (And.intro hf c2))
    clear hbr hf
    by_cases hlt2 : j < pn
    · have hjl : j < l.length := by rw [HL.out.1]; exact hlt2
      obtain ⟨pb, po, hpA, hAtM⟩ := HP.out j hjl
      have hc2' := c2
      rw [hpA] at c2
      obtain ⟨x, hx⟩ : ∃ x, l[j] = x := ⟨_, rfl⟩
      rw [hx] at hAtM
      have hxm : x ∈ l := by rw [← hx]; exact List.getElem_mem hjl
      have htk : l.take (j + 1) = l.take j ++ [x] := by rw [List.take_succ_eq_append_getElem hjl, hx]
      have hsn : fineL0 (l.take (j + 1)) = x.fine := by rw [htk, fineL0_snoc, HR.out.2.1, Bool.true_and]
      have HM := Lib.hid (HC.out x hxm wr HR.out.1)
      have HS := Lib.hid hsn
      have HCC := Lib.hid hc2'
      obtain ⟨p0, p1, p2, p3, p4⟩ := hAtM.lower HR.out.1
      have hji : (j : Int) < (pn : Int) := by omega
      have hj4 : (j : Int) ≤ 4000000 := by have := HL.out.2; omega
      clear hpA hAtM hx hxm hjl htk hsn hc2'
      cases hf2 : x.fine with
      | true =>
        rw [hf2] at HM HS
        clear hf2
        go_wp2_with fail
        refine HM.out.mono ?_
        rintro e w3 ⟨rfl, hb3⟩
        have H3 := Lib.hid (And.intro (below_then HR.out.1 hb3) (cell_below hb3 HCC.out))
        clear hb3 HM
        go_wp2_with fail
        go_roundw
        case rel => exact ⟨j + 1, by go_num, hlt2, HS.out, H3.out.1, H3.out.2⟩
        case measure => simp [intOf] <;> omega
      | false =>
        rw [hf2] at HM HS
        clear hf2
        have HF := Lib.hid (fineL0_take (l := l) (k := j + 1) HS.out)
        go_wp2_with fail
        refine HM.out.mono ?_
        rintro e w3 ⟨rfl, hb3⟩
        have H3 := Lib.hid (below_then HR.out.1 hb3)
        clear hb3 HM
        go_wp2_with fail
        go_returns
        exact ⟨by rw [HF.out]; rfl, H3.out⟩
    · have hji : ¬ (j : Int) < (pn : Int) := by omega
      have hmm : l.take j = l := List.take_of_length_le (by rw [HL.out.1]; omega)
      have hfl := HR.out.2.1
      rw [hmm] at hfl
      have HF := Lib.hid hfl
      clear hmm hfl
      go_wp2_with fail
      go_returns
      exact ⟨by rw [HF.out]; rfl, HR.out.1⟩

set_option maxRecDepth 100000 in
set_option maxHeartbeats 1000000 in
theorem fg7b (n : Int) (pA : Option Addr) (pn pc : Nat) (lA : Option Addr) (ln lc : Nat) (labels : List Str) (tail : Int) (l : List Ty) (w : World) (hn : 0 < n) (ht : tail = -1) (hl : ln = 0) (hp : pn = 0) (hlen : l.length = pn) (hpn : pn ≤ 4000000)
    (hch : ∀ x ∈ l, ∀ W, Below w.heap.size w W → Calls Tryz.prog 24 #[.agg x.d.arr] W fun e w' => e = .returned (.bool x.fine) ∧ Below W.heap.size W w')
    (hpart : ∀ k (h : k < l.length), ∃ pb po, pA = some ⟨pb, po, none⟩ ∧ (l[k]).d.At w pb (po + k * 5)) :
    Calls Tryz.prog 24 #[.agg #[.int .i64 7, .int .i64 n, .slice pA pn pc, .slice lA ln lc, .int .i64 tail]] w fun e w' => e = .returned (.bool (fineL0 l)) ∧ Below w.heap.size w w' := by
  subst ht
  subst hl
  have hb : Below w.heap.size w (w.alloc (.cells #[.int .i64 7, .int .i64 n, .slice pA pn pc, .slice lA 0 lc, .int .i64 (-1)] 25)) := (Below.refl _ _).alloc (Nat.le_refl _) _
  have c2 : (w.alloc (.cells #[.int .i64 7, .int .i64 n, .slice pA pn pc, .slice lA 0 lc, .int .i64 (-1)] 25)).cell? ⟨w.heap.size, 2, none⟩ = some (.slice pA pn pc) := cell_new w _ _ 2 rfl
  have HB := Lib.hid (And.intro hb c2)
  have HL := Lib.hid (And.intro hlen hpn)
  have HC := Lib.hid hch
  have HP := Lib.hid hpart
  have hpi : ((pn : Int) != 0) = false := by rw [bne_eq_false_iff_eq]; omega
  have n1 : ¬ n < 0 := by omega
  have n2 : (n != 0) = true := by rw [bne_iff_ne]; omega
  have HQ := Lib.hid hp
  clear hb c2 hlen hpn hch hpart hp
  go_enter Tryz.func24, Tryz.ntmps24
  go_wp2_with fail
  go_loopw [7] (fun i wr => ∃ (k : Nat), i = .int .i64 k ∧ k ≤ pn ∧ fineL0 (l.take k) = true ∧ Below w.heap.size w wr ∧ wr.cell? ⟨w.heap.size, 2, none⟩ = some (.slice pA pn pc)) (fun i _ => pn - (intOf i).toNat)
  case atStart => exact ⟨0, rfl, Nat.zero_le _, rfl, HB.out.1, HB.out.2⟩
  case round =>
    obtain ⟨j, rfl, hj, hf, hbr, c2⟩ := hrel
    have HR := Lib.hid (And.intro hbr (And.intro hf c2))
    clear hbr hf
    by_cases hlt2 : j < pn
    · have hjl : j < l.length := by rw [HL.out.1]; exact hlt2
      obtain ⟨pb, po, hpA, hAtM⟩ := HP.out j hjl
      have hc2' := c2
      rw [hpA] at c2
      obtain ⟨x, hx⟩ : ∃ x, l[j] = x := ⟨_, rfl⟩
      rw [hx] at hAtM
      have hxm : x ∈ l := by rw [← hx]; exact List.getElem_mem hjl
      have htk : l.take (j + 1) = l.take j ++ [x] := by rw [List.take_succ_eq_append_getElem hjl, hx]
      have hsn : fineL0 (l.take (j + 1)) = x.fine := by rw [htk, fineL0_snoc, HR.out.2.1, Bool.true_and]
      have HM := Lib.hid (HC.out x hxm wr HR.out.1)
      have HS := Lib.hid hsn
      have HCC := Lib.hid hc2'
      obtain ⟨p0, p1, p2, p3, p4⟩ := hAtM.lower HR.out.1
      have hji : (j : Int) < (pn : Int) := by omega
      have hj4 : (j : Int) ≤ 4000000 := by have := HL.out.2; omega
      clear hpA hAtM hx hxm hjl htk hsn hc2'
      cases hf2 : x.fine with
      | true =>
        rw [hf2] at HM HS
        clear hf2
        go_wp2_with fail
        refine HM.out.mono ?_
        rintro e w3 ⟨rfl, hb3⟩
        have H3 := Lib.hid (And.intro (below_then HR.out.1 hb3) (cell_below hb3 HCC.out))
        clear hb3 HM
        go_wp2_with fail
        go_roundw
        case rel => exact ⟨j + 1, by go_num, hlt2, HS.out, H3.out.1, H3.out.2⟩
        case measure => simp [intOf] <;> omega
      | false =>
        rw [hf2] at HM HS
        clear hf2
        have HF := Lib.hid (fineL0_take (l := l) (k := j + 1) HS.out)
        go_wp2_with fail
        refine HM.out.mono ?_
        rintro e w3 ⟨rfl, hb3⟩
        have H3 := Lib.hid (below_then HR.out.1 hb3)
        clear hb3 HM
        go_wp2_with fail
        go_returns
        exact ⟨by rw [HF.out]; rfl, H3.out⟩
    · have hji : ¬ (j : Int) < (pn : Int) := by omega
      have hmm : l.take j = l := List.take_of_length_le (by rw [HL.out.1]; omega)
      have hfl := HR.out.2.1
      rw [hmm] at hfl
      have HF := Lib.hid hfl
      clear hmm hfl
      go_wp2_with fail
      go_returns
      exact ⟨by rw [HF.out]; rfl, HR.out.1⟩

set_option maxRecDepth 100000 in
set_option maxHeartbeats 1000000 in
theorem fg6 (n : Int) (pA : Option Addr) (pn pc : Nat) (lA : Option Addr) (ln lc : Nat) (labels : List Str) (tail : Int) (l : List Ty) (w : World) (hn : n = 0) (ht : tail = -1) (hl : ln = 0) (hp : pn = 1) (hlen : l.length = pn) (hpn : pn ≤ 4000000)
    (hch : ∀ x ∈ l, ∀ W, Below w.heap.size w W → Calls Tryz.prog 24 #[.agg x.d.arr] W fun e w' => e = .returned (.bool x.fine) ∧ Below W.heap.size W w')
    (hpart : ∀ k (h : k < l.length), ∃ pb po, pA = some ⟨pb, po, none⟩ ∧ (l[k]).d.At w pb (po + k * 5)) :
    Calls Tryz.prog 24 #[.agg #[.int .i64 6, .int .i64 n, .slice pA pn pc, .slice lA ln lc, .int .i64 tail]] w fun e w' => e = .returned (.bool (fineL0 l)) ∧ Below w.heap.size w w' := by
  subst ht
  subst hl
  subst hn
  have hb : Below w.heap.size w (w.alloc (.cells #[.int .i64 6, .int .i64 0, .slice pA pn pc, .slice lA 0 lc, .int .i64 (-1)] 25)) := (Below.refl _ _).alloc (Nat.le_refl _) _
  have c2 : (w.alloc (.cells #[.int .i64 6, .int .i64 0, .slice pA pn pc, .slice lA 0 lc, .int .i64 (-1)] 25)).cell? ⟨w.heap.size, 2, none⟩ = some (.slice pA pn pc) := cell_new w _ _ 2 rfl
  have HB := Lib.hid (And.intro hb c2)
  have HL := Lib.hid (And.intro hlen hpn)
  have HC := Lib.hid hch
  have HP := Lib.hid hpart
  have hpi : ((pn : Int) != 1) = false := by rw [bne_eq_false_iff_eq]; omega
  have HQ := Lib.hid hp
  clear hb c2 hlen hpn hch hpart hp
  go_enter Tryz.func24, Tryz.ntmps24
  go_wp2_with fail
  go_loopw [7] (fun i wr => ∃ (k : Nat), i = .int .i64 k ∧ k ≤ pn ∧ fineL0 (l.take k) = true ∧ Below w.heap.size w wr ∧ wr.cell? ⟨w.heap.size, 2, none⟩ = some (.slice pA pn pc)) (fun i _ => pn - (intOf i).toNat)
  case atStart => exact ⟨0, rfl, Nat.zero_le _, rfl, HB.out.1, HB.out.2⟩
  case round =>
    obtain ⟨j, rfl, hj, hf, hbr, c2⟩ := hrel
    have HR := Lib.hid (And.intro hbr (And.intro hf c2))
    clear hbr hf
    by_cases hlt2 : j < pn
    · have hjl : j < l.length := by rw [HL.out.1]; exact hlt2
      obtain ⟨pb, po, hpA, hAtM⟩ := HP.out j hjl
      have hc2' := c2
      rw [hpA] at c2
      obtain ⟨x, hx⟩ : ∃ x, l[j] = x := ⟨_, rfl⟩
      rw [hx] at hAtM
      have hxm : x ∈ l := by rw [← hx]; exact List.getElem_mem hjl
      have htk : l.take (j + 1) = l.take j ++ [x] := by rw [List.take_succ_eq_append_getElem hjl, hx]
      have hsn : fineL0 (l.take (j + 1)) = x.fine := by rw [htk, fineL0_snoc, HR.out.2.1, Bool.true_and]
      have HM := Lib.hid (HC.out x hxm wr HR.out.1)
      have HS := Lib.hid hsn
      have HCC := Lib.hid hc2'
      obtain ⟨p0, p1, p2, p3, p4⟩ := hAtM.lower HR.out.1
      have hji : (j : Int) < (pn : Int) := by omega
      have hj4 : (j : Int) ≤ 4000000 := by have := HL.out.2; omega
      clear hpA hAtM hx hxm hjl htk hsn hc2'
      cases hf2 : x.fine with
      | true =>
        rw [hf2] at HM HS
        clear hf2
        go_wp2_with fail
        refine HM.out.mono ?_
        rintro e w3 ⟨rfl, hb3⟩
        have H3 := Lib.hid (And.intro (below_then HR.out.1 hb3) (cell_below hb3 HCC.out))
        clear hb3 HM
        go_wp2_with fail
        go_roundw
        case rel => exact ⟨j + 1, by go_num, hlt2, HS.out, H3.out.1, H3.out.2⟩
        case measure => simp [intOf] <;> omega
      | false =>
        rw [hf2] at HM HS
        clear hf2
        have HF := Lib.hid (fineL0_take (l := l) (k := j + 1) HS.out)
        go_wp2_with fail
        refine HM.out.mono ?_
        rintro e w3 ⟨rfl, hb3⟩
        have H3 := Lib.hid (below_then HR.out.1 hb3)
        clear hb3 HM
        go_wp2_with fail
        go_returns
        exact ⟨by rw [HF.out]; rfl, H3.out⟩
    · have hji : ¬ (j : Int) < (pn : Int) := by omega
      have hmm : l.take j = l := List.take_of_length_le (by rw [HL.out.1]; omega)
      have hfl := HR.out.2.1
      rw [hmm] at hfl
      have HF := Lib.hid hfl
      clear hmm hfl
      go_wp2_with fail
      go_returns
      exact ⟨by rw [HF.out]; rfl, HR.out.1⟩

set_option maxRecDepth 100000 in
set_option maxHeartbeats 1000000 in
theorem fg3 (n : Int) (pA : Option Addr) (pn pc : Nat) (lA : Option Addr) (ln lc : Nat) (labels : List Str) (tail : Int) (l : List Ty) (w : World) (hn : n = 0) (ht : tail = -1) (hl : ln = 0) (hp : pn = 2) (hlen : l.length = pn) (hpn : pn ≤ 4000000)
    (hch : ∀ x ∈ l, ∀ W, Below w.heap.size w W → Calls Tryz.prog 24 #[.agg x.d.arr] W fun e w' => e = .returned (.bool x.fine) ∧ Below W.heap.size W w')
    (hpart : ∀ k (h : k < l.length), ∃ pb po, pA = some ⟨pb, po, none⟩ ∧ (l[k]).d.At w pb (po + k * 5)) :
    Calls Tryz.prog 24 #[.agg #[.int .i64 3, .int .i64 n, .slice pA pn pc, .slice lA ln lc, .int .i64 tail]] w fun e w' => e = .returned (.bool (fineL0 l)) ∧ Below w.heap.size w w' := by
  subst ht
  subst hl
  subst hn
  have hb : Below w.heap.size w (w.alloc (.cells #[.int .i64 3, .int .i64 0, .slice pA pn pc, .slice lA 0 lc, .int .i64 (-1)] 25)) := (Below.refl _ _).alloc (Nat.le_refl _) _
  have c2 : (w.alloc (.cells #[.int .i64 3, .int .i64 0, .slice pA pn pc, .slice lA 0 lc, .int .i64 (-1)] 25)).cell? ⟨w.heap.size, 2, none⟩ = some (.slice pA pn pc) := cell_new w _ _ 2 rfl
  have HB := Lib.hid (And.intro hb c2)
  have HL := Lib.hid (And.intro hlen hpn)
  have HC := Lib.hid hch
  have HP := Lib.hid hpart
  have hpi : ((pn : Int) != 2) = false := by rw [bne_eq_false_iff_eq]; omega
  have HQ := Lib.hid hp
  clear hb c2 hlen hpn hch hpart hp
  go_enter Tryz.func24, Tryz.ntmps24
  go_wp2_with fail
  go_loopw [7] (fun i wr => ∃ (k : Nat), i = .int .i64 k ∧ k ≤ pn ∧ fineL0 (l.take k) = true ∧ Below w.heap.size w wr ∧ wr.cell? ⟨w.heap.size, 2, none⟩ = some (.slice pA pn pc)) (fun i _ => pn - (intOf i).toNat)
  case atStart => exact ⟨0, rfl, Nat.zero_le _, rfl, HB.out.1, HB.out.2⟩
  case round =>
    obtain ⟨j, rfl, hj, hf, hbr, c2⟩ := hrel
    have HR := Lib.hid (And.intro hbr (And.intro hf c2))
    clear hbr hf
    by_cases hlt2 : j < pn
    · have hjl : j < l.length := by rw [HL.out.1]; exact hlt2
      obtain ⟨pb, po, hpA, hAtM⟩ := HP.out j hjl
      have hc2' := c2
      rw [hpA] at c2
      obtain ⟨x, hx⟩ : ∃ x, l[j] = x := ⟨_, rfl⟩
      rw [hx] at hAtM
      have hxm : x ∈ l := by rw [← hx]; exact List.getElem_mem hjl
      have htk : l.take (j + 1) = l.take j ++ [x] := by rw [List.take_succ_eq_append_getElem hjl, hx]
      have hsn : fineL0 (l.take (j + 1)) = x.fine := by rw [htk, fineL0_snoc, HR.out.2.1, Bool.true_and]
      have HM := Lib.hid (HC.out x hxm wr HR.out.1)
      have HS := Lib.hid hsn
      have HCC := Lib.hid hc2'
      obtain ⟨p0, p1, p2, p3, p4⟩ := hAtM.lower HR.out.1
      have hji : (j : Int) < (pn : Int) := by omega
      have hj4 : (j : Int) ≤ 4000000 := by have := HL.out.2; omega
      clear hpA hAtM hx hxm hjl htk hsn hc2'
      cases hf2 : x.fine with
      | true =>
        rw [hf2] at HM HS
        clear hf2
        go_wp2_with fail
        refine HM.out.mono ?_
        rintro e w3 ⟨rfl, hb3⟩
        have H3 := Lib.hid (And.intro (below_then HR.out.1 hb3) (cell_below hb3 HCC.out))
        clear hb3 HM
        go_wp2_with fail
        go_roundw
        case rel => exact ⟨j + 1, by go_num, hlt2, HS.out, H3.out.1, H3.out.2⟩
        case measure => simp [intOf] <;> omega
      | false =>
        rw [hf2] at HM HS
        clear hf2
        have HF := Lib.hid (fineL0_take (l := l) (k := j + 1) HS.out)
        go_wp2_with fail
        refine HM.out.mono ?_
        rintro e w3 ⟨rfl, hb3⟩
        have H3 := Lib.hid (below_then HR.out.1 hb3)
        clear hb3 HM
        go_wp2_with fail
        go_returns
        exact ⟨by rw [HF.out]; rfl, H3.out⟩
    · have hji : ¬ (j : Int) < (pn : Int) := by omega
      have hmm : l.take j = l := List.take_of_length_le (by rw [HL.out.1]; omega)
      have hfl := HR.out.2.1
      rw [hmm] at hfl
      have HF := Lib.hid hfl
      clear hmm hfl
      go_wp2_with fail
      go_returns
      exact ⟨by rw [HF.out]; rfl, HR.out.1⟩

set_option maxRecDepth 100000 in
set_option maxHeartbeats 1000000 in
theorem fg4 (n : Int) (pA : Option Addr) (pn pc : Nat) (lA : Option Addr) (ln lc : Nat) (labels : List Str) (tail : Int) (l : List Ty) (w : World) (hn : n = 0) (hr : Rd w 1 lA ln (strs labels)) (hm : ln ≤ maxLen) (ht : -1 ≤ tail) (hi : isB labels = true) (hh : ¬ ([] : Str) ∈ labels) (hp : pn = ln) (hlen : l.length = pn) (hpn : pn ≤ 4000000)
    (hch : ∀ x ∈ l, ∀ W, Below w.heap.size w W → Calls Tryz.prog 24 #[.agg x.d.arr] W fun e w' => e = .returned (.bool x.fine) ∧ Below W.heap.size W w')
    (hpart : ∀ k (h : k < l.length), ∃ pb po, pA = some ⟨pb, po, none⟩ ∧ (l[k]).d.At w pb (po + k * 5)) :
    Calls Tryz.prog 24 #[.agg #[.int .i64 4, .int .i64 n, .slice pA pn pc, .slice lA ln lc, .int .i64 tail]] w fun e w' => e = .returned (.bool (fineL0 l)) ∧ Below w.heap.size w w' := by
  subst hn
  have hb : Below w.heap.size w (w.alloc (.cells #[.int .i64 4, .int .i64 0, .slice pA pn pc, .slice lA ln lc, .int .i64 tail] 25)) := (Below.refl _ _).alloc (Nat.le_refl _) _
  have HI := Lib.hid (refIs_any lA labels ln lc _ (hr.below hb) hm)
  have HH := Lib.hid (fun w2 (hb2 : Below w.heap.size w w2) => refHas_any lA labels [] ln lc w2 (hr.below hb2) hm)
  have e0 : bstr [] = ({ data := #[] } : ByteArray) := rfl
  rw [e0, decide_eq_false hh] at HH
  rw [hi] at HI
  have HB0 := Lib.hid hb
  have HL := Lib.hid (And.intro hlen hpn)
  have HC := Lib.hid hch
  have HP := Lib.hid hpart
  have t1 : ¬ tail < -1 := by omega
  have hpi : ((pn : Int) != (ln : Int)) = false := by rw [bne_eq_false_iff_eq]; omega
  have HQ := Lib.hid hp
  clear hb hr hlen hpn hch hpart hi hh hp ht
  go_enter Tryz.func24, Tryz.ntmps24
  go_wp2_with fail
  refine HI.out.mono ?_
  rintro e w2 ⟨rfl, hb2⟩
  have HB2 := Lib.hid (below_then HB0.out hb2)
  have c2 : w2.cell? ⟨w.heap.size, 2, none⟩ = some (.slice pA pn pc) := cell_below hb2 (cell_new w _ _ 2 rfl)
  have c3 : w2.cell? ⟨w.heap.size, 3, none⟩ = some (.slice lA ln lc) := cell_below hb2 (cell_new w _ _ 3 rfl)
  have c4 : w2.cell? ⟨w.heap.size, 4, none⟩ = some (.int .i64 tail) := cell_below hb2 (cell_new w _ _ 4 rfl)
  clear hb2
  go_wp2_with fail
  refine (HH.out w2 HB2.out).mono ?_
  rintro e w3 ⟨rfl, hb3⟩
  have d2 := cell_below hb3 c2
  have d4 := cell_below hb3 c4
  have HB := Lib.hid (And.intro (below_then HB2.out hb3) d2)
  clear hb3 c2 c3 c4
  go_wp2_with fail
  clear d2 d4
  go_loopw [7] (fun i wr => ∃ (k : Nat), i = .int .i64 k ∧ k ≤ pn ∧ fineL0 (l.take k) = true ∧ Below w.heap.size w wr ∧ wr.cell? ⟨w.heap.size, 2, none⟩ = some (.slice pA pn pc)) (fun i _ => pn - (intOf i).toNat)
  case atStart => exact ⟨0, rfl, Nat.zero_le _, rfl, HB.out.1, HB.out.2⟩
  case round =>
    obtain ⟨j, rfl, hj, hf, hbr, c2⟩ := hrel
    have HR := Lib.hid (And.intro hbr (And.intro hf c2))
    clear hbr hf
    by_cases hlt2 : j < pn
    · have hjl : j < l.length := by rw [HL.out.1]; exact hlt2
      obtain ⟨pb, po, hpA, hAtM⟩ := HP.out j hjl
      have hc2' := c2
      rw [hpA] at c2
      obtain ⟨x, hx⟩ : ∃ x, l[j] = x := ⟨_, rfl⟩
      rw [hx] at hAtM
      have hxm : x ∈ l := by rw [← hx]; exact List.getElem_mem hjl
      have htk : l.take (j + 1) = l.take j ++ [x] := by rw [List.take_succ_eq_append_getElem hjl, hx]
      have hsn : fineL0 (l.take (j + 1)) = x.fine := by rw [htk, fineL0_snoc, HR.out.2.1, Bool.true_and]
      have HM := Lib.hid (HC.out x hxm wr HR.out.1)
      have HS := Lib.hid hsn
      have HCC := Lib.hid hc2'
      obtain ⟨p0, p1, p2, p3, p4⟩ := hAtM.lower HR.out.1
      have hji : (j : Int) < (pn : Int) := by omega
      have hj4 : (j : Int) ≤ 4000000 := by have := HL.out.2; omega
      clear hpA hAtM hx hxm hjl htk hsn hc2'
      cases hf2 : x.fine with
      | true =>
        rw [hf2] at HM HS
        clear hf2
        go_wp2_with fail
        refine HM.out.mono ?_
        rintro e w3 ⟨rfl, hb3⟩
        have H3 := Lib.hid (And.intro (below_then HR.out.1 hb3) (cell_below hb3 HCC.out))
        clear hb3 HM
        go_wp2_with fail
        go_roundw
        case rel => exact ⟨j + 1, by go_num, hlt2, HS.out, H3.out.1, H3.out.2⟩
        case measure => simp [intOf] <;> omega
      | false =>
        rw [hf2] at HM HS
        clear hf2
        have HF := Lib.hid (fineL0_take (l := l) (k := j + 1) HS.out)
        go_wp2_with fail
        refine HM.out.mono ?_
        rintro e w3 ⟨rfl, hb3⟩
        have H3 := Lib.hid (below_then HR.out.1 hb3)
        clear hb3 HM
        go_wp2_with fail
        go_returns
        exact ⟨by rw [HF.out]; rfl, H3.out⟩
    · have hji : ¬ (j : Int) < (pn : Int) := by omega
      have hmm : l.take j = l := List.take_of_length_le (by rw [HL.out.1]; omega)
      have hfl := HR.out.2.1
      rw [hmm] at hfl
      have HF := Lib.hid hfl
      clear hmm hfl
      go_wp2_with fail
      go_returns
      exact ⟨by rw [HF.out]; rfl, HR.out.1⟩

set_option maxRecDepth 100000 in
set_option maxHeartbeats 1000000 in
theorem fg5 (n : Int) (pA : Option Addr) (pn pc : Nat) (lA : Option Addr) (ln lc : Nat) (labels : List Str) (tail : Int) (l : List Ty) (w : World) (hn : n = 0) (hr : Rd w 1 lA ln (strs labels)) (hm : ln ≤ maxLen) (ht : -1 ≤ tail) (hi : isB labels = true) (hh : ¬ ([] : Str) ∈ labels) (hp : pn = ln) (hlen : l.length = pn) (hpn : pn ≤ 4000000)
    (hch : ∀ x ∈ l, ∀ W, Below w.heap.size w W → Calls Tryz.prog 24 #[.agg x.d.arr] W fun e w' => e = .returned (.bool x.fine) ∧ Below W.heap.size W w')
    (hpart : ∀ k (h : k < l.length), ∃ pb po, pA = some ⟨pb, po, none⟩ ∧ (l[k]).d.At w pb (po + k * 5)) :
    Calls Tryz.prog 24 #[.agg #[.int .i64 5, .int .i64 n, .slice pA pn pc, .slice lA ln lc, .int .i64 tail]] w fun e w' => e = .returned (.bool (fineL0 l)) ∧ Below w.heap.size w w' := by
  subst hn
  have hb : Below w.heap.size w (w.alloc (.cells #[.int .i64 5, .int .i64 0, .slice pA pn pc, .slice lA ln lc, .int .i64 tail] 25)) := (Below.refl _ _).alloc (Nat.le_refl _) _
  have HI := Lib.hid (refIs_any lA labels ln lc _ (hr.below hb) hm)
  have HH := Lib.hid (fun w2 (hb2 : Below w.heap.size w w2) => refHas_any lA labels [] ln lc w2 (hr.below hb2) hm)
  have e0 : bstr [] = ({ data := #[] } : ByteArray) := rfl
  rw [e0, decide_eq_false hh] at HH
  rw [hi] at HI
  have HB0 := Lib.hid hb
  have HL := Lib.hid (And.intro hlen hpn)
  have HC := Lib.hid hch
  have HP := Lib.hid hpart
  have t1 : ¬ tail < -1 := by omega
  have hpi : ((pn : Int) != (ln : Int)) = false := by rw [bne_eq_false_iff_eq]; omega
  have HQ := Lib.hid hp
  clear hb hr hlen hpn hch hpart hi hh hp ht
  go_enter Tryz.func24, Tryz.ntmps24
  go_wp2_with fail
  refine HI.out.mono ?_
  rintro e w2 ⟨rfl, hb2⟩
  have HB2 := Lib.hid (below_then HB0.out hb2)
  have c2 : w2.cell? ⟨w.heap.size, 2, none⟩ = some (.slice pA pn pc) := cell_below hb2 (cell_new w _ _ 2 rfl)
  have c3 : w2.cell? ⟨w.heap.size, 3, none⟩ = some (.slice lA ln lc) := cell_below hb2 (cell_new w _ _ 3 rfl)
  have c4 : w2.cell? ⟨w.heap.size, 4, none⟩ = some (.int .i64 tail) := cell_below hb2 (cell_new w _ _ 4 rfl)
  clear hb2
  go_wp2_with fail
  refine (HH.out w2 HB2.out).mono ?_
  rintro e w3 ⟨rfl, hb3⟩
  have d2 := cell_below hb3 c2
  have d4 := cell_below hb3 c4
  have HB := Lib.hid (And.intro (below_then HB2.out hb3) d2)
  clear hb3 c2 c3 c4
  go_wp2_with fail
  clear d2 d4
  go_loopw [7] (fun i wr => ∃ (k : Nat), i = .int .i64 k ∧ k ≤ pn ∧ fineL0 (l.take k) = true ∧ Below w.heap.size w wr ∧ wr.cell? ⟨w.heap.size, 2, none⟩ = some (.slice pA pn pc)) (fun i _ => pn - (intOf i).toNat)
  case atStart => exact ⟨0, rfl, Nat.zero_le _, rfl, HB.out.1, HB.out.2⟩
  case round =>
    obtain ⟨j, rfl, hj, hf, hbr, c2⟩ := hrel
    have HR := Lib.hid (And.intro hbr (And.intro hf c2))
    clear hbr hf
    by_cases hlt2 : j < pn
    · have hjl : j < l.length := by rw [HL.out.1]; exact hlt2
      obtain ⟨pb, po, hpA, hAtM⟩ := HP.out j hjl
      have hc2' := c2
      rw [hpA] at c2
      obtain ⟨x, hx⟩ : ∃ x, l[j] = x := ⟨_, rfl⟩
      rw [hx] at hAtM
      have hxm : x ∈ l := by rw [← hx]; exact List.getElem_mem hjl
      have htk : l.take (j + 1) = l.take j ++ [x] := by rw [List.take_succ_eq_append_getElem hjl, hx]
      have hsn : fineL0 (l.take (j + 1)) = x.fine := by rw [htk, fineL0_snoc, HR.out.2.1, Bool.true_and]
      have HM := Lib.hid (HC.out x hxm wr HR.out.1)
      have HS := Lib.hid hsn
      have HCC := Lib.hid hc2'
      obtain ⟨p0, p1, p2, p3, p4⟩ := hAtM.lower HR.out.1
      have hji : (j : Int) < (pn : Int) := by omega
      have hj4 : (j : Int) ≤ 4000000 := by have := HL.out.2; omega
      clear hpA hAtM hx hxm hjl htk hsn hc2'
      cases hf2 : x.fine with
      | true =>
        rw [hf2] at HM HS
        clear hf2
        go_wp2_with fail
        refine HM.out.mono ?_
        rintro e w3 ⟨rfl, hb3⟩
        have H3 := Lib.hid (And.intro (below_then HR.out.1 hb3) (cell_below hb3 HCC.out))
        clear hb3 HM
        go_wp2_with fail
        go_roundw
        case rel => exact ⟨j + 1, by go_num, hlt2, HS.out, H3.out.1, H3.out.2⟩
        case measure => simp [intOf] <;> omega
      | false =>
        rw [hf2] at HM HS
        clear hf2
        have HF := Lib.hid (fineL0_take (l := l) (k := j + 1) HS.out)
        go_wp2_with fail
        refine HM.out.mono ?_
        rintro e w3 ⟨rfl, hb3⟩
        have H3 := Lib.hid (below_then HR.out.1 hb3)
        clear hb3 HM
        go_wp2_with fail
        go_returns
        exact ⟨by rw [HF.out]; rfl, H3.out⟩
    · have hji : ¬ (j : Int) < (pn : Int) := by omega
      have hmm : l.take j = l := List.take_of_length_le (by rw [HL.out.1]; omega)
      have hfl := HR.out.2.1
      rw [hmm] at hfl
      have HF := Lib.hid hfl
      clear hmm hfl
      go_wp2_with fail
      go_returns
      exact ⟨by rw [HF.out]; rfl, HR.out.1⟩

theorem good_cases {d : TyD} (h : d.fieldsB = true) : ((d.kind = 4 ∨ d.kind = 5) ∧ d.n = 0 ∧ -1 ≤ d.tail ∧ d.pn = d.ln ∧ isB d.labels = true ∧ ¬ ([] : Str) ∈ d.labels) ∨
    (d.tail = -1 ∧ d.ln = 0 ∧ ((d.kind = 7 ∧ 0 ≤ d.n ∧ d.pn = 0) ∨ (d.kind = 3 ∧ d.n = 0 ∧ d.pn = 2) ∨ (d.kind = 6 ∧ d.n = 0 ∧ d.pn = 1) ∨ (d.kind = 1 ∧ d.n = 0 ∧ d.pn = 0) ∨ (d.kind = 2 ∧ d.n = 0 ∧ d.pn = 0))) := by
  unfold TyD.fieldsB TyD.bareB at h
  split at h
  · rename_i hk
    simp only [Bool.and_eq_true, decide_eq_true_eq, Bool.not_eq_true', decide_eq_false_iff_not] at h
    exact .inl ⟨hk, h.1.1.1.1, h.1.1.1.2, h.1.1.2, h.1.2, h.2⟩
  · right
    split at h
    · simp only [Bool.and_eq_true, decide_eq_true_eq] at h
      exact ⟨h.2.2, h.2.1.2, .inl ⟨by assumption, h.1, by have := h.2.1.1; omega⟩⟩
    · split at h
      · simp only [Bool.and_eq_true, decide_eq_true_eq] at h
        exact ⟨h.2.2, h.2.1.2, .inr (.inl ⟨by assumption, h.1, by have := h.2.1.1; omega⟩)⟩
      · split at h
        · simp only [Bool.and_eq_true, decide_eq_true_eq] at h
          exact ⟨h.2.2, h.2.1.2, .inr (.inr (.inl ⟨by assumption, h.1, by have := h.2.1.1; omega⟩))⟩
        · split at h
          · rename_i hk
            simp only [Bool.and_eq_true, decide_eq_true_eq] at h
            rcases hk with hk | hk
            · exact ⟨h.2.2, h.2.1.2, .inr (.inr (.inr (.inl ⟨hk, h.1, by have := h.2.1.1; omega⟩)))⟩
            · exact ⟨h.2.2, h.2.1.2, .inr (.inr (.inr (.inr ⟨hk, h.1, by have := h.2.1.1; omega⟩)))⟩
          · cases h

theorem fine_any (w0 : World) (t : Ty) (hIn : t.In w0) : ∀ (w : World), Below w0.heap.size w0 w →
    Calls Tryz.prog 24 #[.agg t.d.arr] w fun e w' => e = .returned (.bool t.fine) ∧ Below w.heap.size w w' := by
  induction hIn with
  | mk d l lab par cap sub ih =>
  intro w hb
  cases hf : d.fieldsB with
  | false =>
    have e : Ty.fine (.mk d l) = false := by unfold Ty.fine; rw [hf]; rfl
    rw [e]
    exact fine_bad d w (lab.below hb) (Nat.le_trans cap.1 cap.2.1) hf
  | true =>
    have e : Ty.fine (.mk d l) = fineL0 l := by unfold Ty.fine; rw [hf]; rfl
    rw [e]
    have hlen : l.length = d.pn := by have := par.1; rw [flat_len Ty.cells_len] at this; omega
    have hch := fun x (hx : x ∈ l) W (hW : Below w.heap.size w W) => ih x hx W (below_then hb hW)
    have hpart : ∀ k (h : k < l.length), ∃ pb po, d.pA = some ⟨pb, po, none⟩ ∧ (l[k]).d.At w pb (po + k * 5) := fun k h => by
      obtain ⟨pb, po, h1, h2⟩ := ((Ty.In.mk d l lab par cap sub).lower hb).part (k := k) h
      exact ⟨pb, po, h1, h2 k h⟩
    have hg := good_cases hf
    have hl2 := lab.below hb
    have hm := Nat.le_trans cap.1 cap.2.1
    have hpn := cap.2.2.2.2.2
    obtain ⟨kind, n, pA, pn, pc, lA, ln, lc, labels, tail⟩ := d
    dsimp only at hg hl2 hm hpn hlen hpart
    show Calls _ _ #[.agg #[.int .i64 kind, .int .i64 n, .slice pA pn pc, .slice lA ln lc, .int .i64 tail]] _ _
    rcases hg with ⟨hk, hn, ht, hp, hi, hh⟩ | ⟨ht, hl, hg⟩
    · rcases hk with rfl | rfl
      · exact fg4 n pA pn pc lA ln lc labels tail l w hn hl2 hm ht hi hh hp hlen hpn hch hpart
      · exact fg5 n pA pn pc lA ln lc labels tail l w hn hl2 hm ht hi hh hp hlen hpn hch hpart
    · rcases hg with ⟨rfl, hn, hp⟩ | ⟨rfl, hn, hp⟩ | ⟨rfl, hn, hp⟩ | ⟨rfl, hn, hp⟩ | ⟨rfl, hn, hp⟩
      · rcases Int.lt_or_eq_of_le hn with hn | hn
        · exact fg7b n pA pn pc lA ln lc labels tail l w hn ht hl hp hlen hpn hch hpart
        · exact fg7a n pA pn pc lA ln lc labels tail l w hn.symm ht hl hp hlen hpn hch hpart
      · exact fg3 n pA pn pc lA ln lc labels tail l w hn ht hl hp hlen hpn hch hpart
      · exact fg6 n pA pn pc lA ln lc labels tail l w hn ht hl hp hlen hpn hch hpart
      · exact fg1 n pA pn pc lA ln lc labels tail l w hn ht hl hp hlen hpn hch hpart
      · exact fg2 n pA pn pc lA ln lc labels tail l w hn ht hl hp hlen hpn hch hpart

set_option maxRecDepth 100000 in
set_option maxHeartbeats 1000000 in
theorem refMay_any (t : Ty) (w : World) (hIn : t.In w) (hsz : t.nodes ≤ 4000000) :
    Calls Tryz.prog 9 #[.agg t.d.arr] w fun e w' => e = .returned (.bool (mayF t 0).isSome) ∧ Below w.heap.size w w' := by
  have hb1 : Below w.heap.size w (w.alloc (.cells t.d.arr 25)) := (Below.refl _ _).alloc (Nat.le_refl _) _
  have hAt := box_at w t.d
  have HF := Lib.hid (fine_any w t hIn _ hb1)
  have HN := Lib.hid (fun w2 (hb2 : Below w.heap.size w w2) => nodes_any w t hIn hsz w2 hb2)
  have HB := Lib.hid (And.intro hb1 hAt)
  rw [may_spec]
  clear hb1 hAt hIn
  obtain ⟨z, hz⟩ : ∃ z, t.nodes = z := ⟨_, rfl⟩
  rw [hz] at HN hsz ⊢
  clear hz
  obtain ⟨ans, hans⟩ : ∃ ans, (t.fine && decide (z ≤ 4000)) = ans := ⟨_, rfl⟩
  rw [hans]
  have HS := Lib.hid hans
  clear hans
  go_enter Tryz.func9, Tryz.ntmps9
  go_wp2_with fail
  generalize w.alloc (.cells t.d.arr 25) = w1 at *
  refine HF.out.mono ?_
  rintro e w2 ⟨rfl, hb2⟩
  obtain ⟨c0, c1, c2, c3, c4⟩ := HB.out.2.lower hb2
  have HB2 := Lib.hid (below_then HB.out.1 hb2)
  clear hb2
  cases hf : t.fine with
  | false =>
    have HA := Lib.hid (show ans = false by rw [← HS.out, hf]; rfl)
    clear hf
    go_wp2_with fail
    go_returns
    exact ⟨by rw [HA.out]; rfl, HB2.out⟩
  | true =>
    have HA := Lib.hid (show ans = decide (z ≤ 4000) by rw [← HS.out, hf]; rfl)
    clear hf
    go_wp2_with fail
    refine (HN.out w2 HB2.out).mono ?_
    rintro e w3 ⟨rfl, hb3⟩
    have HB3 := Lib.hid (below_then HB2.out hb3)
    clear hb3
    by_cases h4 : z ≤ 4000
    · have h4i : (z : Int) ≤ 4000 := by omega
      have HD := Lib.hid (decide_eq_true h4)
      clear h4
      go_wp2_with fail
      go_returns
      exact ⟨by rw [HA.out, HD.out]; rfl, HB3.out⟩
    · have h4i : ¬ (z : Int) ≤ 4000 := by omega
      have HD := Lib.hid (decide_eq_false h4)
      clear h4
      go_wp2_with fail
      go_returns
      exact ⟨by rw [HA.out, HD.out]; show Ending.returned (.bool (decide ((z : Int) ≤ 4000))) = _; rw [decide_eq_false (show ¬ (z : Int) ≤ 4000 by omega)], HB3.out⟩
end Go.Proofs.YtklandpagieapaaGreatDoor

namespace Go.Proofs.YtklandpagieapaaGreatDoor
open Go.ChangeShapes Go.WideShapes Go.ChangeAt Go.RowKit Go.Sort
set_option linter.unusedVariables false
set_option linter.unusedSimpArgs false
attribute [local irreducible] Go.wpQuiet

theorem atF_dec (l : List Int) (x : Int) : decide (atF l x 0 < 0) = !decide (x ∈ l) := by
  by_cases h : x ∈ l
  · rw [decide_eq_true h, decide_eq_false (by rw [atF_neg]; exact not_not_intro h)]; rfl
  · rw [decide_eq_false h, decide_eq_true (by rw [atF_neg]; exact h)]; rfl
theorem at_grown (A : Option Addr) (l : List Int) (n : Int) (m c : Nat) (w : World) (hr : Rd w 1 A m (i64s l)) (hm : m ≤ 4000000) :
    ∀ d os, Calls Tryz.prog 20 #[.slice A m c, .int .i64 n] (grow (redrawn w d) os) fun e w'' => e = .returned (.int .i64 (atF l n 0)) ∧ ∃ p : Regrown, w'' = grow (redrawn w p.d) p.os := fun d os =>
  Calls.regrown_of (at_any A l n m c _ (hr.below (below_regrown w d os)) hm)

theorem noT {k x : Int} {T : List Int} (h : (decide (k = 7) && !decide (x ∈ T)) = false) : (if k = 7 then addI T x else T) = T := by
  by_cases h7 : k = 7
  · rw [if_pos h7]
    rw [decide_eq_true h7, Bool.true_and, Bool.not_eq_false'] at h
    unfold addI; rw [if_pos (of_decide_eq_true h)]
  · rw [if_neg h7]
theorem yesT {k x : Int} {T : List Int} (h : (decide (k = 7) && !decide (x ∈ T)) = true) : k = 7 ∧ x ∉ T := by
  rw [Bool.and_eq_true, Bool.not_eq_true'] at h
  exact ⟨of_decide_eq_true h.1, of_decide_eq_false h.2⟩
theorem noR {k x : Int} {s : List Int × List Int} (h : ((decide (k = 4 ∨ k = 5) && decide (0 ≤ x)) && !decide (x ∈ s.2)) = false) : (if (k = 4 ∨ k = 5) ∧ 0 ≤ x then (s.1, addI s.2 x) else s) = s := by
  by_cases h7 : (k = 4 ∨ k = 5) ∧ 0 ≤ x
  · rw [if_pos h7]
    rw [decide_eq_true h7.1, decide_eq_true h7.2, Bool.true_and, Bool.true_and, Bool.not_eq_false'] at h
    unfold addI; rw [if_pos (of_decide_eq_true h)]
  · rw [if_neg h7]
theorem yesR {k x : Int} {R : List Int} (h : ((decide (k = 4 ∨ k = 5) && decide (0 ≤ x)) && !decide (x ∈ R)) = true) : ((k = 4 ∨ k = 5) ∧ 0 ≤ x) ∧ x ∉ R := by
  rw [Bool.and_eq_true, Bool.and_eq_true, Bool.not_eq_true'] at h
  exact ⟨⟨of_decide_eq_true h.1.1, of_decide_eq_true h.1.2⟩, of_decide_eq_false h.2⟩

/-- The children's part of the meeting. -/
def Kids (w0 : World) (N : Nat) (l : List Ty) : Prop :=
  ∀ x ∈ l, ∀ (T R : List Int) (vT vR : Value) (W : World), Below w0.heap.size w0 W → NM W N T R vT vR → T.length + x.nodes ≤ 4000000 → R.length + x.nodes ≤ 4000000 →
    Calls Tryz.prog 6 #[.pointer (some ⟨N, 0, none⟩), .agg x.d.arr] W fun e w' => e = .returned (.tuple #[]) ∧ ∃ vT' vR', NM w' N (meetT x T R).1 (meetT x T R).2 vT' vR' ∧ WN N W vT vR w' vT' vR'

set_option maxRecDepth 100000 in
set_option maxHeartbeats 1000000 in
theorem meet_one (w0 : World) (N : Nat) (hN : w0.heap.size ≤ N) (d : TyD) (l : List Ty) (hI : Ty.In w0 (.mk d l)) (hK : Kids w0 N l) (T R : List Int) (vT vR : Value) (w : World) (hb : Below w0.heap.size w0 w) (hM : NM w N T R vT vR)
    (hT : T.length + (1 + nodesL l) ≤ 4000000) (hR : R.length + (1 + nodesL l) ≤ 4000000) :
    Calls Tryz.prog 6 #[.pointer (some ⟨N, 0, none⟩), .agg d.arr] w fun e w' => e = .returned (.tuple #[]) ∧ ∃ vT' vR', NM w' N (meetT (.mk d l) T R).1 (meetT (.mk d l) T R).2 vT' vR' ∧ WN N w vT vR w' vT' vR' := by
  have HMS := Lib.hid (MS.start (d := d) hM)
  have HI := Lib.hid hI
  have HK := Lib.hid hK
  have HB := Lib.hid hb
  have HT := Lib.hid (And.intro hT hR)
  have HN := Lib.hid hN
  clear hM hI hK hb hT hR hN
  go_enter Tryz.func6, Tryz.ntmps6
  go_upto_region 1 with fail
  generalize (w.alloc (.cells d.arr 25)) = w1 at *
  generalize hg : w.heap.size = g at *
  clear hg
  obtain ⟨ba, hba⟩ : ∃ ba, (decide (d.kind = 7) && !decide (d.n ∈ T)) = ba := ⟨_, rfl⟩
  have HA := Lib.hid hba
  clear hba
  go_cut [17] from 5 to 17 (fun s17 wx => s17 = .bool ba ∧ MS w d N g vT vR T R vT vR wx)
  case first =>
    obtain ⟨A1, c1, rfl, _⟩ := own_cap HMS.out.nm.oT
    have k0 := cell_regrown HMS.out.c.c0
    have k1 := cell_regrown HMS.out.c.c1
    have k2 := cell_regrown HMS.out.nm.c0
    by_cases h7 : d.kind = 7
    · have q7 : (d.kind == 7) = true := by simpa using h7
      have CA := Lib.hid (at_grown A1 T d.n T.length c1 w1 (Rd.of_own HMS.out.nm.oT) (by have := HT.out; omega))
      have qa := atF_dec T d.n
      obtain ⟨a, ha⟩ : ∃ a, atF T d.n 0 = a := ⟨_, rfl⟩
      rw [ha] at CA qa
      have hba := HA.out
      rw [decide_eq_true h7, Bool.true_and] at hba
      rw [hba] at qa
      clear h7 ha hba
      refine wp_region_quiet_below (by kernel_rfl) (by kernel_rfl) ?_
      iterate 10 (quiet_step (fail))
      iterate 3 (quiet_step (first | (go_at_call 20; with_reducible exact CA.out _ _)))
      refine wpQuiet_nil ?_
      intro _ hw
      obtain ⟨⟨dq, osq⟩, hw''⟩ := hw
      subst hw''
      have hbq := HMS.out.below (below_regrown w1 dq osq)
      clear k0 k1 k2 CA
      generalize grow (redrawn w1 dq) osq = w2 at *
      go_wp2_with fail
      go_meet
      exact ⟨rfl, hbq⟩
    · have q7 : (d.kind == 7) = false := by simpa using h7
      have hba := HA.out
      rw [decide_eq_false h7, Bool.false_and] at hba
      subst hba
      clear h7
      refine wp_region_quiet_below (by kernel_rfl) (by kernel_rfl) ?_
      iterate 4 (quiet_step (fail))
      iterate 8 (refine wpQuiet_skip (by kernel_rfl) (by kernel_rfl) ?_)
      iterate 1 (quiet_step (fail))
      refine wpQuiet_nil ?_
      intro _ hw
      obtain ⟨⟨dq, osq⟩, hw''⟩ := hw
      subst hw''
      have hbq := HMS.out.below (below_regrown w1 dq osq)
      clear k0 k1 k2
      generalize grow (redrawn w1 dq) osq = w2 at *
      go_wp2_with fail
      go_meet
      exact ⟨rfl, hbq⟩
  case rest =>
  obtain ⟨rfl, hms⟩ := hcut
  have HMC := Lib.hid hms
  clear hms HMS
  go_upto_if 17 with fail
  go_cut [] from 18 to 28 (fun wx => ∃ T1 vT1, (if d.kind = 7 then addI T d.n else T) = T1 ∧ MS w d N g vT vR T1 R vT1 vR wx)
  case first =>
    cases ba with
    | false =>
      have HF := Lib.hid (noT HA.out)
      go_wp2_with fail
      go_meet
      exact ⟨T, vT, HF.out, HMC.out⟩
    | true =>
      have HF := Lib.hid (yesT HA.out)
      obtain ⟨A1, c1, rfl, _⟩ := own_cap HMC.out.nm.oT
      have c0 := HMC.out.nm.c0
      have c0b : (wc.alloc (.cells #[.int .i64 d.n] 3)).cell? ⟨N, 0, none⟩ = _ := cell_alloc c0
      have p1 := HMC.out.c.c1
      have HL := Lib.hid (HMC.out.below (show RowKit.Below wc.heap.size wc (wc.drew.alloc (.cells #[.int .i64 d.n] 3)) from (Below.refl _ _).drew.alloc (Nat.le_refl _) _))
      have HRD := Lib.hid (Rd.lit (size := 1) (n := 1) wc.drew #[.int .i64 d.n] 3 rfl (fr := (0, 0)))
      have HS := Lib.hid (show (T.length + 1) * 8 ≤ 140737488355328 by have := HT.out; omega)
      go_wp2_with fail
      go_region_law (first
        | (refine step_app elInt (wc.drew.alloc (.cells #[.int .i64 d.n] 3)) (by rfl) (.tmp 22) (.tmp 25) (by rfl) (N + 1) (.slice A1 T.length c1) T.length (i64s T) (by rfl) HL.out.nm.oT (some ⟨wc.heap.size, 0, none⟩) 1 1 _ (by rfl) HRD.out (one_int _) HS.out HL.out.nm.lt ?_; intro v6 w6 hown6 hg6 ho6; obtain ⟨A6, c6, hv6, _⟩ := own_cap hown6; rw [hv6] at hown6 ho6 ⊢; clear hv6; have H6 := Lib.hid (And.intro hown6 (And.intro hg6 ho6)); obtain ⟨c06, _, f06, _⟩ := nm_far HL.out.nm (.inl rfl) hg6; clear hown6 hg6 ho6)
        | fail)
      all_goals
        go_wp2_with fail
        go_meet
        have h9 := HL.out.nm.addT HF.out.2 H6.out.1 H6.out.2.1 H6.out.2.2
        exact ⟨_, _, if_pos HF.out.1, HL.out.call h9.1 h9.2⟩
  case rest =>
  obtain ⟨T1, vT1, hT1, hms⟩ := hcut
  have hlT : T1.length ≤ T.length + 1 := by
    have := addI_len T d.n
    rw [← hT1]; split <;> omega
  have HMD := Lib.hid hms
  have HT1 := Lib.hid hT1
  have HLT := Lib.hid hlT
  have HPN := Lib.hid (show l.length = d.pn from HI.out.len)
  have HP4 := Lib.hid (show d.pn ≤ 4000000 from HI.out.cap.2.2.2.2.2)
  clear hms hT1 hlT HMC HA
  go_wp2_with fail
  go_loopw [4] (fun i wr => ∃ (k : Nat) (T2 R2 : List Int) (vT2 vR2 : Value), i = .int .i64 k ∧ k ≤ d.pn ∧ meetTs (l.take k) T1 R = (T2, R2) ∧ MS w d N g vT vR T2 R2 vT2 vR2 wr) (fun i _ => d.pn - (intOf i).toNat)
  case atStart => exact ⟨0, T1, R, vT1, vR, rfl, Nat.zero_le _, by rw [List.take_zero]; simp [meetTs], HMD.out⟩
  case round =>
    obtain ⟨k, T2, R2, vT2, vR2, rfl, hk, hme, hms⟩ := hrel
    have HR := Lib.hid hms
    have HME := Lib.hid hme
    have c2 := hms.c.c2
    have hwr : RowKit.Below w0.heap.size w0 wr := HB.out.trans (hms.b.b.mono HN.out)
    have HWR := Lib.hid hwr
    clear hms hme
    by_cases hlt2 : k < d.pn
    · have hjl : k < l.length := by rw [HPN.out]; exact hlt2
      obtain ⟨pb, po, hpA, hAtP⟩ := (HI.out.lower hwr).part (k := k) hjl
      have hpA' : d.pA = some ⟨pb, po, none⟩ := hpA
      rw [hpA'] at c2
      have hAtM : (l[k]).d.At wr pb (po + k * 5) := hAtP k hjl
      obtain ⟨x, hx⟩ : ∃ x, l[k] = x := ⟨_, rfl⟩
      rw [hx] at hAtM
      have hxm : x ∈ l := by rw [← hx]; exact List.getElem_mem hjl
      have htk : l.take (k + 1) = l.take k ++ [x] := by rw [List.take_succ_eq_append_getElem hjl, hx]
      have hn1 := nodesL_take l (k + 1)
      rw [htk, nodesL_snoc] at hn1
      have hl2 := meetTs_len (l.take k) T1 R
      rw [HME.out] at hl2
      have hsT : T2.length + x.nodes ≤ 4000000 := by have := HT.out; have := HLT.out; have h3 : T2.length ≤ T1.length + nodesL (l.take k) := hl2.1; omega
      have hsR : R2.length + x.nodes ≤ 4000000 := by have := HT.out; have h3 : R2.length ≤ R.length + nodesL (l.take k) := hl2.2; omega
      have HM := Lib.hid (HK.out x hxm T2 R2 vT2 vR2 wr hwr HR.out.nm hsT hsR)
      have hsn : meetTs (l.take (k + 1)) T1 R = ((meetT x T2 R2).1, (meetT x T2 R2).2) := by rw [htk, meetTs_snoc, HME.out]
      have HS := Lib.hid hsn
      obtain ⟨p0, p1, p2, p3, p4⟩ := hAtM
      have hji : (k : Int) < (d.pn : Int) := by omega
      have hj4 : (k : Int) ≤ 4000000 := by have := HP4.out; omega
      clear hpA hpA' hAtP hx hxm hjl htk hn1 hsn hl2 hsT hsR hwr
      go_wp2_with fail
      refine HM.out.mono ?_
      rintro e w3 ⟨rfl, vT3, vR3, hn3, hk3⟩
      have H3 := Lib.hid (HR.out.call hn3 hk3)
      clear hn3 hk3 HM
      go_wp2_with fail
      go_roundw
      case rel => exact ⟨k + 1, _, _, vT3, vR3, by go_num, hlt2, HS.out, H3.out⟩
      case measure => simp [intOf] <;> omega
    · have hji : ¬ (k : Int) < (d.pn : Int) := by omega
      have hmm : l.take k = l := List.take_of_length_le (by rw [HPN.out]; omega)
      have hres : meetT (.mk d l) T R = if (d.kind = 4 ∨ d.kind = 5) ∧ 0 ≤ d.tail then (T2, addI R2 d.tail) else (T2, R2) := by
        have := HME.out
        rw [hmm] at this
        unfold meetT
        rw [HT1.out, this]
      have HRES := Lib.hid hres
      clear hmm hres hwr HWR
      go_wp2_with fail
      obtain ⟨ba, hba⟩ : ∃ ba, ((decide (d.kind = 4 ∨ d.kind = 5) && decide (0 ≤ d.tail)) && !decide (d.tail ∈ R2)) = ba := ⟨_, rfl⟩
      have HA := Lib.hid hba
      clear hba
      go_cut [65] from 43 to 65 (fun s65 wx => s65 = .bool ba ∧ MS w d N g vT vR T2 R2 vT2 vR2 wx)
      case first =>
        obtain ⟨A1, c1, rfl, _⟩ := own_cap HR.out.nm.oR
        have k0 := cell_regrown HR.out.c.c0
        have k1 := cell_regrown HR.out.c.c4
        have k2 := cell_regrown HR.out.nm.c1
        have CA := Lib.hid (at_grown A1 R2 d.tail R2.length c1 wr (Rd.of_own HR.out.nm.oR) (by have := meetTs_len (l.take k) T1 R; rw [HME.out] at this; have := nodesL_take l k; have := HT.out; have := HLT.out; simp only at *; omega))
        have qa := atF_dec R2 d.tail
        obtain ⟨a, ha⟩ : ∃ a, atF R2 d.tail 0 = a := ⟨_, rfl⟩
        rw [ha] at CA qa
        clear ha
        have hba := HA.out
        by_cases h4 : d.kind = 4
        · have q4 : (d.kind == 4) = true := by simpa using h4
          rw [decide_eq_true (Or.inl h4), Bool.true_and] at hba
          clear h4
          by_cases ht : 0 ≤ d.tail
          · have qt : decide (0 ≤ d.tail) = true := decide_eq_true ht
            rw [qt, Bool.true_and] at hba
            rw [hba] at qa
            clear ht hba
            refine wp_region_quiet_below (by kernel_rfl) (by kernel_rfl) ?_
            iterate 4 (quiet_step (fail))
            iterate 3 (refine wpQuiet_skip (by kernel_rfl) (by kernel_rfl) ?_)
            iterate 2 (quiet_step (fail))
            iterate 3 (quiet_step (fail))
            iterate 2 (quiet_step (fail))
            iterate 6 (quiet_step (fail))
            iterate 3 (quiet_step (first | (go_at_call 20; with_reducible exact CA.out _ _)))
            refine wpQuiet_nil ?_
            intro _ hw
            obtain ⟨⟨dq, osq⟩, hw''⟩ := hw
            subst hw''
            have hbq := HR.out.below (below_regrown wr dq osq)
            clear k0 k1 k2 CA
            generalize grow (redrawn wr dq) osq = w2 at *
            go_wp2_with fail
            go_meet
            exact ⟨rfl, hbq⟩
          · have qt : decide (0 ≤ d.tail) = false := decide_eq_false ht
            rw [qt, Bool.false_and] at hba
            subst hba
            clear ht
            refine wp_region_quiet_below (by kernel_rfl) (by kernel_rfl) ?_
            iterate 4 (quiet_step (fail))
            iterate 3 (refine wpQuiet_skip (by kernel_rfl) (by kernel_rfl) ?_)
            iterate 2 (quiet_step (fail))
            iterate 3 (quiet_step (fail))
            iterate 2 (quiet_step (fail))
            iterate 8 (refine wpQuiet_skip (by kernel_rfl) (by kernel_rfl) ?_)
            iterate 1 (quiet_step (fail))
            refine wpQuiet_nil ?_
            intro _ hw
            obtain ⟨⟨dq, osq⟩, hw''⟩ := hw
            subst hw''
            have hbq := HR.out.below (below_regrown wr dq osq)
            clear k0 k1 k2 CA
            generalize grow (redrawn wr dq) osq = w2 at *
            go_wp2_with fail
            go_meet
            exact ⟨rfl, hbq⟩
        · have q4 : (d.kind == 4) = false := by simpa using h4
          by_cases h5 : d.kind = 5
          · have q5 : (d.kind == 5) = true := by simpa using h5
            rw [decide_eq_true (Or.inr h5), Bool.true_and] at hba
            clear h4 h5
            by_cases ht : 0 ≤ d.tail
            · have qt : decide (0 ≤ d.tail) = true := decide_eq_true ht
              rw [qt, Bool.true_and] at hba
              rw [hba] at qa
              clear ht hba
              refine wp_region_quiet_below (by kernel_rfl) (by kernel_rfl) ?_
              iterate 4 (quiet_step (fail))
              iterate 3 (quiet_step (fail))
              iterate 2 (quiet_step (fail))
              iterate 3 (quiet_step (fail))
              iterate 2 (quiet_step (fail))
              iterate 6 (quiet_step (fail))
              iterate 3 (quiet_step (first | (go_at_call 20; with_reducible exact CA.out _ _)))
              refine wpQuiet_nil ?_
              intro _ hw
              obtain ⟨⟨dq, osq⟩, hw''⟩ := hw
              subst hw''
              have hbq := HR.out.below (below_regrown wr dq osq)
              clear k0 k1 k2 CA
              generalize grow (redrawn wr dq) osq = w2 at *
              go_wp2_with fail
              go_meet
              exact ⟨rfl, hbq⟩
            · have qt : decide (0 ≤ d.tail) = false := decide_eq_false ht
              rw [qt, Bool.false_and] at hba
              subst hba
              clear ht
              refine wp_region_quiet_below (by kernel_rfl) (by kernel_rfl) ?_
              iterate 4 (quiet_step (fail))
              iterate 3 (quiet_step (fail))
              iterate 2 (quiet_step (fail))
              iterate 3 (quiet_step (fail))
              iterate 2 (quiet_step (fail))
              iterate 8 (refine wpQuiet_skip (by kernel_rfl) (by kernel_rfl) ?_)
              iterate 1 (quiet_step (fail))
              refine wpQuiet_nil ?_
              intro _ hw
              obtain ⟨⟨dq, osq⟩, hw''⟩ := hw
              subst hw''
              have hbq := HR.out.below (below_regrown wr dq osq)
              clear k0 k1 k2 CA
              generalize grow (redrawn wr dq) osq = w2 at *
              go_wp2_with fail
              go_meet
              exact ⟨rfl, hbq⟩
          · have q5 : (d.kind == 5) = false := by simpa using h5
            rw [decide_eq_false (by rintro (h | h); exact h4 h; exact h5 h), Bool.false_and, Bool.false_and] at hba
            subst hba
            clear h4 h5
            refine wp_region_quiet_below (by kernel_rfl) (by kernel_rfl) ?_
            iterate 4 (quiet_step (fail))
            iterate 3 (quiet_step (fail))
            iterate 2 (quiet_step (fail))
            iterate 3 (refine wpQuiet_skip (by kernel_rfl) (by kernel_rfl) ?_)
            iterate 2 (quiet_step (fail))
            iterate 8 (refine wpQuiet_skip (by kernel_rfl) (by kernel_rfl) ?_)
            iterate 1 (quiet_step (fail))
            refine wpQuiet_nil ?_
            intro _ hw
            obtain ⟨⟨dq, osq⟩, hw''⟩ := hw
            subst hw''
            have hbq := HR.out.below (below_regrown wr dq osq)
            clear k0 k1 k2 CA
            generalize grow (redrawn wr dq) osq = w2 at *
            go_wp2_with fail
            go_meet
            exact ⟨rfl, hbq⟩
      case rest =>
      obtain ⟨rfl, hms⟩ := hcut
      have HMC := Lib.hid hms
      clear hms HR
      cases ba with
      | false =>
        have HF := Lib.hid (HRES.out.trans (noR (s := (T2, R2)) HA.out))
        go_wp2_with fail
        go_returns
        refine ⟨rfl, vT2, vR2, ?_, HMC.out.b⟩
        rw [HF.out]
        exact HMC.out.nm
      | true =>
        have HF := Lib.hid (yesR HA.out)
        obtain ⟨A1, c1, rfl, _⟩ := own_cap HMC.out.nm.oR
        have c0 := HMC.out.nm.c1
        have c0b : (wc.alloc (.cells #[.int .i64 d.tail] 3)).cell? ⟨N, 1, none⟩ = _ := cell_alloc c0
        have p1 := HMC.out.c.c4
        have HL := Lib.hid (HMC.out.below (show RowKit.Below wc.heap.size wc (wc.drew.alloc (.cells #[.int .i64 d.tail] 3)) from (Below.refl _ _).drew.alloc (Nat.le_refl _) _))
        have HRD := Lib.hid (Rd.lit (size := 1) (n := 1) wc.drew #[.int .i64 d.tail] 3 rfl (fr := (0, 0)))
        have HS := Lib.hid (show (R2.length + 1) * 8 ≤ 140737488355328 by
          have h1 := meetTs_len (l.take k) T1 R
          rw [HME.out] at h1
          have h2 : R2.length ≤ R.length + nodesL (l.take k) := h1.2
          have := nodesL_take l k; have := HT.out; omega)
        go_wp2_with fail
        go_region_law (first
          | (refine step_app elInt (wc.drew.alloc (.cells #[.int .i64 d.tail] 3)) (by rfl) (.tmp 70) (.tmp 73) (by rfl) (N + 1) (.slice A1 R2.length c1) R2.length (i64s R2) (by rfl) HL.out.nm.oR (some ⟨wc.heap.size, 0, none⟩) 1 1 _ (by rfl) HRD.out (one_int _) HS.out HL.out.nm.lt ?_; intro v6 w6 hown6 hg6 ho6; obtain ⟨A6, c6, hv6, _⟩ := own_cap hown6; rw [hv6] at hown6 ho6 ⊢; clear hv6; have H6 := Lib.hid (And.intro hown6 (And.intro hg6 ho6)); obtain ⟨_, c06, _, f06⟩ := nm_far HL.out.nm (.inr rfl) hg6; clear hown6 hg6 ho6)
          | fail)
        all_goals
          go_wp2_with fail
          go_returns
          have h9 := HL.out.nm.addR HF.out.2 H6.out.1 H6.out.2.1 H6.out.2.2
          have h10 := HRES.out.trans (if_pos HF.out.1)
          refine ⟨rfl, _, _, ?_, (HL.out.call h9.1 h9.2).b⟩
          rw [h10]
          exact h9.1

set_option maxRecDepth 100000 in
/-- Meet, at every type. -/
theorem meet_any (w0 : World) (N : Nat) (hN : w0.heap.size ≤ N) (t : Ty) (hI : t.In w0) : ∀ (T R : List Int) (vT vR : Value) (W : World), RowKit.Below w0.heap.size w0 W → NM W N T R vT vR → T.length + t.nodes ≤ 4000000 → R.length + t.nodes ≤ 4000000 →
    Calls Tryz.prog 6 #[.pointer (some ⟨N, 0, none⟩), .agg t.d.arr] W fun e w' => e = .returned (.tuple #[]) ∧ ∃ vT' vR', NM w' N (meetT t T R).1 (meetT t T R).2 vT' vR' ∧ WN N W vT vR w' vT' vR' := by
  induction hI with
  | mk d l lab par cap sub ih =>
  intro T R vT vR W hb hM hT hR
  exact meet_one w0 N hN d l (.mk d l lab par cap sub) ih T R vT vR W hb hM hT hR
end Go.Proofs.YtklandpagieapaaGreatDoor

namespace Go.Proofs.YtklandpagieapaaGreatDoor
open Go.ChangeShapes Go.WideShapes Go.ChangeAt Go.RowKit Go.Sort
set_option linter.unusedVariables false
set_option linter.unusedSimpArgs false
attribute [local irreducible] Go.wpQuiet

theorem bstr_app (a b : Str) : bstr a ++ bstr b = bstr (a ++ b) := by
  apply ByteArray.ext; simp [bstr]
theorem addS (a b : Str) (h : a.length + b.length ≤ 1000000000) : ∀ w : World, (Op.stringOp .add (bstr a) (bstr b)).run Tryz.prog w = .ok (.string (bstr (a ++ b))) w := fun w => by
  have h := run_string_add_sum (P := Tryz.prog) (w := w) (bstr a) (bstr b) (by rw [bstr_size, bstr_size]; omega)
  rw [bstr_app] at h; exact h
/-- The names that were met, to be read. -/
structure NV (w : World) (N : Nat) (T R : List Int) : Prop where
  cT : ∃ A c, w.cell? ⟨N, 0, none⟩ = some (.slice A T.length c) ∧ Rd w 1 A T.length (i64s T)
  cR : ∃ A c, w.cell? ⟨N, 1, none⟩ = some (.slice A R.length c) ∧ Rd w 1 A R.length (i64s R)
  lT : T.length ≤ 4000000
  lR : R.length ≤ 4000000
theorem NV.below {w w' : World} {N : Nat} {T R : List Int} (h : NV w N T R) (hb : Below w.heap.size w w') : NV w' N T R := by
  obtain ⟨⟨A, c, h1, h2⟩, ⟨A', c', h3, h4⟩, h5, h6⟩ := h
  exact ⟨⟨A, c, cell_below hb h1, h2.below hb⟩, ⟨A', c', cell_below hb h3, h4.below hb⟩, h5, h6⟩
/-- What the document's text tells of a type, wherever its memory stands. -/
def RefAt (w0 : World) (N : Nat) (d : TyD) (r : Str) : Prop := ∀ W : World, Below w0.heap.size w0 W → Calls Tryz.prog 31 #[.pointer (some ⟨N, 0, none⟩), .agg d.arr] W fun e w' => e = .returned (.string (bstr r)) ∧ Below W.heap.size W w'
theorem RefAt.quiet {w0 : World} {N : Nat} {d : TyD} {r : Str} (h : RefAt w0 N d r) {w : World} (hb : Below w0.heap.size w0 w) : ∀ dd os, Calls Tryz.prog 31 #[.pointer (some ⟨N, 0, none⟩), .agg d.arr] (grow (redrawn w dd) os) fun e w'' => e = .returned (.string (bstr r)) ∧ ∃ p : Regrown, w'' = grow (redrawn w p.d) p.os :=
  fun dd os => Calls.regrown_of ((h (grow (redrawn w dd) os) (below_then hb (below_regrown w dd os))).mono fun e w' hh => ⟨hh.1, hh.2⟩)
theorem atR {w : World} {A : Option Addr} {l : List Int} (n : Int) {c : Nat} (hr : Rd w 1 A l.length (i64s l)) (hm : l.length ≤ 4000000) : ∀ dd os, Calls Tryz.prog 20 #[.slice A l.length c, .int .i64 n] (grow (redrawn w dd) os) fun e w'' => e = .returned (.int .i64 (atF l n 0)) ∧ ∃ p : Regrown, w'' = grow (redrawn w p.d) p.os :=
  at_grown A l n l.length c w hr hm
theorem itoaR {w : World} (z : Int) (hz : inR z) (hT : Tab w) : ∀ dd os, Calls Tryz.prog 49 #[.int .i64 z] (grow (redrawn w dd) os) fun e w'' => e = .returned (.string (bstr (Lib.itoa z))) ∧ ∃ p : Regrown, w'' = grow (redrawn w p.d) p.os :=
  fun dd os => Calls.regrown_of ((itoa_any z hz (grow (redrawn w dd) os) (tab_below hT (below_regrown w dd os))).mono fun e w' hh => ⟨hh.1, hh.2⟩)

set_option maxRecDepth 100000 in
set_option maxHeartbeats 4000000 in
theorem ref_1 (w0 : World) (N : Nat) (d : TyD) (hk : d.kind = 1) : RefAt w0 N d [105, 110, 116] := by
  intro W hW
  have hb1 : Below W.heap.size W (W.alloc (.cells d.arr 25)) := (Below.refl _ _).alloc (Nat.le_refl _) _
  have hE := box_at W d
  have HB1 := Lib.hid hb1
  have HW1 := Lib.hid (below_then hW hb1)
  obtain ⟨c0, c1, c2, c3, c4⟩ := hE
  have q1 : (d.kind == 1) = true := by rw [hk]; rfl
  clear hb1 hW hk
  go_enter Tryz.func31, Tryz.ntmps31
  go_wp2_with fail
  go_returns
  exact ⟨rfl, HB1.out⟩

set_option maxRecDepth 100000 in
set_option maxHeartbeats 4000000 in
theorem ref_2 (w0 : World) (N : Nat) (d : TyD) (hk : d.kind = 2) : RefAt w0 N d [116, 101, 120, 116] := by
  intro W hW
  have hb1 : Below W.heap.size W (W.alloc (.cells d.arr 25)) := (Below.refl _ _).alloc (Nat.le_refl _) _
  have hE := box_at W d
  have HB1 := Lib.hid hb1
  have HW1 := Lib.hid (below_then hW hb1)
  obtain ⟨c0, c1, c2, c3, c4⟩ := hE
  have q1 : (d.kind == 1) = false := by rw [hk]; rfl
  have q2 : (d.kind == 2) = true := by rw [hk]; rfl
  clear hb1 hW hk
  go_enter Tryz.func31, Tryz.ntmps31
  go_wp2_with fail
  go_returns
  exact ⟨rfl, HB1.out⟩

set_option maxRecDepth 100000 in
set_option maxHeartbeats 4000000 in
theorem ref_7 (w0 : World) (N : Nat) (T R : List Int) (d : TyD) (hk : d.kind = 7) (hT : Tab w0) (hN : NV w0 N T R) : RefAt w0 N d ([39] ++ Lib.itoa (atF T d.n 0)) := by
  intro W hW
  have hb1 : Below W.heap.size W (W.alloc (.cells d.arr 25)) := (Below.refl _ _).alloc (Nat.le_refl _) _
  have hE := box_at W d
  have HB1 := Lib.hid hb1
  have HW1 := Lib.hid (below_then hW hb1)
  obtain ⟨⟨A, c, g0, hr⟩, _, hl, _⟩ := hN.below HW1.out
  have HI := atF_inR hl d.n
  have CA := Lib.hid (atR (c := c) d.n hr hl)
  obtain ⟨z, hz⟩ : ∃ z, atF T d.n 0 = z := ⟨_, rfl⟩
  rw [hz] at CA HI ⊢
  have CI := Lib.hid (itoaR z HI (tab_below hT HW1.out))
  have A0 : ∀ w : World, (Op.stringOp .add ⟨#[39]⟩ (bstr (Lib.itoa z))).run Tryz.prog w = .ok (.string (bstr ([39] ++ Lib.itoa z))) w := addS [39] (Lib.itoa z) (by have := itoa_len z HI; simp only [List.length_cons, List.length_nil]; omega)
  obtain ⟨i, hi⟩ : ∃ i, Lib.itoa z = i := ⟨_, rfl⟩
  rw [hi] at CI A0 ⊢
  have k0 := cell_regrown g0
  have k1 := cell_regrown hE.c1
  obtain ⟨c0, c1, c2, c3, c4⟩ := hE
  have q1 : (d.kind == 1) = false := by rw [hk]; rfl
  have q2 : (d.kind == 2) = false := by rw [hk]; rfl
  have q3 : (d.kind == 3) = false := by rw [hk]; rfl
  have q6 : (d.kind == 6) = false := by rw [hk]; rfl
  have q7 : (d.kind == 7) = true := by rw [hk]; rfl
  clear hb1 hW hk hz hi HI hr hl hT hN
  go_enter Tryz.func31, Tryz.ntmps31
  go_wp2_with fail
  refine wp_region_quiet_below (by kernel_rfl) (by kernel_rfl) ?_
  iterate 10 (quiet_step ((first | (go_at_call 20; with_reducible exact CA.out _ _) | (go_at_call 49; with_reducible exact CI.out _ _))))
  refine wpQuiet_nil ?_
  intro _ hw
  obtain ⟨⟨dq, osq⟩, hw''⟩ := hw
  subst hw''
  have hbq := below_regrown (W.alloc (.cells d.arr 25)) dq osq
  go_wp2_with fail
  go_returns
  exact ⟨rfl, below_then HB1.out hbq⟩

end Go.Proofs.YtklandpagieapaaGreatDoor
