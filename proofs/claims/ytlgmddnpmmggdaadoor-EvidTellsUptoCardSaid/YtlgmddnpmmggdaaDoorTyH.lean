/-
  Whether a type may be, by the document's answer: all of it.
-/
import Derived.Test.YtlgmddnpmmggdaaDoorTyG
namespace Go.Proofs.YtlgmddnpmmggdaaDoor
open Go.ChangeShapes Go.WideShapes Go.ChangeAt Go.RowKit Go.Sort
set_option linter.unusedVariables false
set_option linter.unusedSimpArgs false

set_option maxRecDepth 100000 in
set_option maxHeartbeats 1000000 in
theorem fg1 (n : Int) (pA : Option Addr) (pn pc : Nat) (lA : Option Addr) (ln lc : Nat) (labels : List Str) (tail : Int) (l : List Ty) (w : World) (hn : n = 0) (ht : tail = -1) (hl : ln = 0) (hp : pn = 0) (hlen : l.length = pn) (hpn : pn ≤ 4000000)
    (hch : ∀ x ∈ l, ∀ W, Below w.heap.size w W → Calls Tryd.prog 23 #[.agg x.d.arr] W fun e w' => e = .returned (.bool x.fine) ∧ Below W.heap.size W w')
    (hpart : ∀ k (h : k < l.length), ∃ pb po, pA = some ⟨pb, po, none⟩ ∧ (l[k]).d.At w pb (po + k * 5)) :
    Calls Tryd.prog 23 #[.agg #[.int .i64 1, .int .i64 n, .slice pA pn pc, .slice lA ln lc, .int .i64 tail]] w fun e w' => e = .returned (.bool (fineL0 l)) ∧ Below w.heap.size w w' := by
  subst ht
  subst hl
  subst hn
  have hb : Below w.heap.size w (w.alloc (.cells #[.int .i64 1, .int .i64 0, .slice pA pn pc, .slice lA 0 lc, .int .i64 (-1)] 25)) := (Below.refl _ _).alloc (Nat.le_refl _) _
  have c2 : (w.alloc (.cells #[.int .i64 1, .int .i64 0, .slice pA pn pc, .slice lA 0 lc, .int .i64 (-1)] 25)).cell? ⟨w.heap.size, 2, none⟩ = some (.slice pA pn pc) := cell_new w _ _ 2 rfl
  have HB := Lib.hid (And.intro hb c2)
  have HL := Lib.hid (And.intro hlen hpn)
  have HC := Lib.hid hch
  have HP := Lib.hid hpart
  have hpi : ((pn : Int) != 0) = false := by rw [bne_eq_false_iff_eq]; omega
  have HQ := Lib.hid hp
  clear hb c2 hlen hpn hch hpart hp
  go_enter Tryd.func23, Tryd.ntmps23
  go_wp2_with fail
  go_loopw [7] (fun i wr => ∃ (k : Nat), i = .int .i64 k ∧ k ≤ pn ∧ fineL0 (l.take k) = true ∧ Below w.heap.size w wr ∧ wr.cell? ⟨w.heap.size, 2, none⟩ = some (.slice pA pn pc)) (fun i _ => pn - (intOf i).toNat)
  case atStart => exact ⟨0, rfl, Nat.zero_le _, rfl, HB.out.1, HB.out.2⟩
  case round =>
    obtain ⟨j, rfl, hj, hf, hbr, c2⟩ := hrel
    have HR := Lib.hid (And.intro hbr (And.intro hf c2))
    clear hbr hf
    by_cases hlt2 : j < pn
    · have hjl : j < l.length := by rw [HL.out.1]; exact hlt2
      obtain ⟨pb, po, hpA, hAtM⟩ := HP.out j hjl
      have hc2' := c2
      rw [hpA] at c2
      obtain ⟨x, hx⟩ : ∃ x, l[j] = x := ⟨_, rfl⟩
      rw [hx] at hAtM
      have hxm : x ∈ l := by rw [← hx]; exact List.getElem_mem hjl
      have htk : l.take (j + 1) = l.take j ++ [x] := by rw [List.take_succ_eq_append_getElem hjl, hx]
      have hsn : fineL0 (l.take (j + 1)) = x.fine := by rw [htk, fineL0_snoc, HR.out.2.1, Bool.true_and]
      have HM := Lib.hid (HC.out x hxm wr HR.out.1)
      have HS := Lib.hid hsn
      have HCC := Lib.hid hc2'
      obtain ⟨p0, p1, p2, p3, p4⟩ := hAtM.lower HR.out.1
      have hji : (j : Int) < (pn : Int) := by omega
      have hj4 : (j : Int) ≤ 4000000 := by have := HL.out.2; omega
      clear hpA hAtM hx hxm hjl htk hsn hc2'
      cases hf2 : x.fine with
      | true =>
        rw [hf2] at HM HS
        clear hf2
        go_wp2_with fail
        refine HM.out.mono ?_
        rintro e w3 ⟨rfl, hb3⟩
        have H3 := Lib.hid (And.intro (below_then HR.out.1 hb3) (cell_below hb3 HCC.out))
        clear hb3 HM
        go_wp2_with fail
        go_roundw
        case rel => exact ⟨j + 1, by go_num, hlt2, HS.out, H3.out.1, H3.out.2⟩
        case measure => simp [intOf] <;> omega
      | false =>
        rw [hf2] at HM HS
        clear hf2
        have HF := Lib.hid (fineL0_take (l := l) (k := j + 1) HS.out)
        go_wp2_with fail
        refine HM.out.mono ?_
        rintro e w3 ⟨rfl, hb3⟩
        have H3 := Lib.hid (below_then HR.out.1 hb3)
        clear hb3 HM
        go_wp2_with fail
        go_returns
        exact ⟨by rw [HF.out]; rfl, H3.out⟩
    · have hji : ¬ (j : Int) < (pn : Int) := by omega
      have hmm : l.take j = l := List.take_of_length_le (by rw [HL.out.1]; omega)
      have hfl := HR.out.2.1
      rw [hmm] at hfl
      have HF := Lib.hid hfl
      clear hmm hfl
      go_wp2_with fail
      go_returns
      exact ⟨by rw [HF.out]; rfl, HR.out.1⟩

set_option maxRecDepth 100000 in
set_option maxHeartbeats 1000000 in
theorem fg2 (n : Int) (pA : Option Addr) (pn pc : Nat) (lA : Option Addr) (ln lc : Nat) (labels : List Str) (tail : Int) (l : List Ty) (w : World) (hn : n = 0) (ht : tail = -1) (hl : ln = 0) (hp : pn = 0) (hlen : l.length = pn) (hpn : pn ≤ 4000000)
    (hch : ∀ x ∈ l, ∀ W, Below w.heap.size w W → Calls Tryd.prog 23 #[.agg x.d.arr] W fun e w' => e = .returned (.bool x.fine) ∧ Below W.heap.size W w')
    (hpart : ∀ k (h : k < l.length), ∃ pb po, pA = some ⟨pb, po, none⟩ ∧ (l[k]).d.At w pb (po + k * 5)) :
    Calls Tryd.prog 23 #[.agg #[.int .i64 2, .int .i64 n, .slice pA pn pc, .slice lA ln lc, .int .i64 tail]] w fun e w' => e = .returned (.bool (fineL0 l)) ∧ Below w.heap.size w w' := by
  subst ht
  subst hl
  subst hn
  have hb : Below w.heap.size w (w.alloc (.cells #[.int .i64 2, .int .i64 0, .slice pA pn pc, .slice lA 0 lc, .int .i64 (-1)] 25)) := (Below.refl _ _).alloc (Nat.le_refl _) _
  have c2 : (w.alloc (.cells #[.int .i64 2, .int .i64 0, .slice pA pn pc, .slice lA 0 lc, .int .i64 (-1)] 25)).cell? ⟨w.heap.size, 2, none⟩ = some (.slice pA pn pc) := cell_new w _ _ 2 rfl
  have HB := Lib.hid (And.intro hb c2)
  have HL := Lib.hid (And.intro hlen hpn)
  have HC := Lib.hid hch
  have HP := Lib.hid hpart
  have hpi : ((pn : Int) != 0) = false := by rw [bne_eq_false_iff_eq]; omega
  have HQ := Lib.hid hp
  clear hb c2 hlen hpn hch hpart hp
  go_enter Tryd.func23, Tryd.ntmps23
  go_wp2_with fail
  go_loopw [7] (fun i wr => ∃ (k : Nat), i = .int .i64 k ∧ k ≤ pn ∧ fineL0 (l.take k) = true ∧ Below w.heap.size w wr ∧ wr.cell? ⟨w.heap.size, 2, none⟩ = some (.slice pA pn pc)) (fun i _ => pn - (intOf i).toNat)
  case atStart => exact ⟨0, rfl, Nat.zero_le _, rfl, HB.out.1, HB.out.2⟩
  case round =>
    obtain ⟨j, rfl, hj, hf, hbr, c2⟩ := hrel
    have HR := Lib.hid (And.intro hbr (And.intro hf c2))
    clear hbr hf
    by_cases hlt2 : j < pn
    · have hjl : j < l.length := by rw [HL.out.1]; exact hlt2
      obtain ⟨pb, po, hpA, hAtM⟩ := HP.out j hjl
      have hc2' := c2
      rw [hpA] at c2
      obtain ⟨x, hx⟩ : ∃ x, l[j] = x := ⟨_, rfl⟩
      rw [hx] at hAtM
      have hxm : x ∈ l := by rw [← hx]; exact List.getElem_mem hjl
      have htk : l.take (j + 1) = l.take j ++ [x] := by rw [List.take_succ_eq_append_getElem hjl, hx]
      have hsn : fineL0 (l.take (j + 1)) = x.fine := by rw [htk, fineL0_snoc, HR.out.2.1, Bool.true_and]
      have HM := Lib.hid (HC.out x hxm wr HR.out.1)
      have HS := Lib.hid hsn
      have HCC := Lib.hid hc2'
      obtain ⟨p0, p1, p2, p3, p4⟩ := hAtM.lower HR.out.1
      have hji : (j : Int) < (pn : Int) := by omega
      have hj4 : (j : Int) ≤ 4000000 := by have := HL.out.2; omega
      clear hpA hAtM hx hxm hjl htk hsn hc2'
      cases hf2 : x.fine with
      | true =>
        rw [hf2] at HM HS
        clear hf2
        go_wp2_with fail
        refine HM.out.mono ?_
        rintro e w3 ⟨rfl, hb3⟩
        have H3 := Lib.hid (And.intro (below_then HR.out.1 hb3) (cell_below hb3 HCC.out))
        clear hb3 HM
        go_wp2_with fail
        go_roundw
        case rel => exact ⟨j + 1, by go_num, hlt2, HS.out, H3.out.1, H3.out.2⟩
        case measure => simp [intOf] <;> omega
      | false =>
        rw [hf2] at HM HS
        clear hf2
        have HF := Lib.hid (fineL0_take (l := l) (k := j + 1) HS.out)
        go_wp2_with fail
        refine HM.out.mono ?_
        rintro e w3 ⟨rfl, hb3⟩
        have H3 := Lib.hid (below_then HR.out.1 hb3)
        clear hb3 HM
        go_wp2_with fail
        go_returns
        exact ⟨by rw [HF.out]; rfl, H3.out⟩
    · have hji : ¬ (j : Int) < (pn : Int) := by omega
      have hmm : l.take j = l := List.take_of_length_le (by rw [HL.out.1]; omega)
      have hfl := HR.out.2.1
      rw [hmm] at hfl
      have HF := Lib.hid hfl
      clear hmm hfl
      go_wp2_with fail
      go_returns
      exact ⟨by rw [HF.out]; rfl, HR.out.1⟩

set_option maxRecDepth 100000 in
set_option maxHeartbeats 1000000 in
theorem fg7a (n : Int) (pA : Option Addr) (pn pc : Nat) (lA : Option Addr) (ln lc : Nat) (labels : List Str) (tail : Int) (l : List Ty) (w : World) (hn : n = 0) (ht : tail = -1) (hl : ln = 0) (hp : pn = 0) (hlen : l.length = pn) (hpn : pn ≤ 4000000)
    (hch : ∀ x ∈ l, ∀ W, Below w.heap.size w W → Calls Tryd.prog 23 #[.agg x.d.arr] W fun e w' => e = .returned (.bool x.fine) ∧ Below W.heap.size W w')
    (hpart : ∀ k (h : k < l.length), ∃ pb po, pA = some ⟨pb, po, none⟩ ∧ (l[k]).d.At w pb (po + k * 5)) :
    Calls Tryd.prog 23 #[.agg #[.int .i64 7, .int .i64 n, .slice pA pn pc, .slice lA ln lc, .int .i64 tail]] w fun e w' => e = .returned (.bool (fineL0 l)) ∧ Below w.heap.size w w' := by
  subst ht
  subst hl
  subst hn
  have hb : Below w.heap.size w (w.alloc (.cells #[.int .i64 7, .int .i64 0, .slice pA pn pc, .slice lA 0 lc, .int .i64 (-1)] 25)) := (Below.refl _ _).alloc (Nat.le_refl _) _
  have c2 : (w.alloc (.cells #[.int .i64 7, .int .i64 0, .slice pA pn pc, .slice lA 0 lc, .int .i64 (-1)] 25)).cell? ⟨w.heap.size, 2, none⟩ = some (.slice pA pn pc) := cell_new w _ _ 2 rfl
  have HB := Lib.hid (And.intro hb c2)
  have HL := Lib.hid (And.intro hlen hpn)
  have HC := Lib.hid hch
  have HP := Lib.hid hpart
  have hpi : ((pn : Int) != 0) = false := by rw [bne_eq_false_iff_eq]; omega
  have HQ := Lib.hid hp
  clear hb c2 hlen hpn hch hpart hp
  go_enter Tryd.func23, Tryd.ntmps23
  go_wp2_with fail
  go_loopw [7] (fun i wr => ∃ (k : Nat), i = .int .i64 k ∧ k ≤ pn ∧ fineL0 (l.take k) = true ∧ Below w.heap.size w wr ∧ wr.cell? ⟨w.heap.size, 2, none⟩ = some (.slice pA pn pc)) (fun i _ => pn - (intOf i).toNat)
  case atStart => exact ⟨0, rfl, Nat.zero_le _, rfl, HB.out.1, HB.out.2⟩
  case round =>
    obtain ⟨j, rfl, hj, hf, hbr, c2⟩ := hrel
    have HR := Lib.hid (And.intro hbr (And.intro hf c2))
    clear hbr hf
    by_cases hlt2 : j < pn
    · have hjl : j < l.length := by rw [HL.out.1]; exact hlt2
      obtain ⟨pb, po, hpA, hAtM⟩ := HP.out j hjl
      have hc2' := c2
      rw [hpA] at c2
      obtain ⟨x, hx⟩ : ∃ x, l[j] = x := ⟨_, rfl⟩
      rw [hx] at hAtM
      have hxm : x ∈ l := by rw [← hx]; exact List.getElem_mem hjl
      have htk : l.take (j + 1) = l.take j ++ [x] := by rw [List.take_succ_eq_append_getElem hjl, hx]
      have hsn : fineL0 (l.take (j + 1)) = x.fine := by rw [htk, fineL0_snoc, HR.out.2.1, Bool.true_and]
      have HM := Lib.hid (HC.out x hxm wr HR.out.1)
      have HS := Lib.hid hsn
      have HCC := Lib.hid hc2'
      obtain ⟨p0, p1, p2, p3, p4⟩ := hAtM.lower HR.out.1
      have hji : (j : Int) < (pn : Int) := by omega
      have hj4 : (j : Int) ≤ 4000000 := by have := HL.out.2; omega
      clear hpA hAtM hx hxm hjl htk hsn hc2'
      cases hf2 : x.fine with
      | true =>
        rw [hf2] at HM HS
        clear hf2
        go_wp2_with fail
        refine HM.out.mono ?_
        rintro e w3 ⟨rfl, hb3⟩
        have H3 := Lib.hid (And.intro (below_then HR.out.1 hb3) (cell_below hb3 HCC.out))
        clear hb3 HM
        go_wp2_with fail
        go_roundw
        case rel => exact ⟨j + 1, by go_num, hlt2, HS.out, H3.out.1, H3.out.2⟩
        case measure => simp [intOf] <;> omega
      | false =>
        rw [hf2] at HM HS
        clear hf2
        have HF := Lib.hid (fineL0_take (l := l) (k := j + 1) HS.out)
        go_wp2_with fail
        refine HM.out.mono ?_
        rintro e w3 ⟨rfl, hb3⟩
        have H3 := Lib.hid (below_then HR.out.1 hb3)
        clear hb3 HM
        go_wp2_with fail
        go_returns
        exact ⟨by rw [HF.out]; rfl, H3.out⟩
    · have hji : ¬ (j : Int) < (pn : Int) := by omega
      have hmm : l.take j = l := List.take_of_length_le (by rw [HL.out.1]; omega)
      have hfl := HR.out.2.1
      rw [hmm] at hfl
      have HF := Lib.hid hfl
      clear hmm hfl
      go_wp2_with fail
      go_returns
      exact ⟨by rw [HF.out]; rfl, HR.out.1⟩

set_option maxRecDepth 100000 in
set_option maxHeartbeats 1000000 in
theorem fg7b (n : Int) (pA : Option Addr) (pn pc : Nat) (lA : Option Addr) (ln lc : Nat) (labels : List Str) (tail : Int) (l : List Ty) (w : World) (hn : 0 < n) (ht : tail = -1) (hl : ln = 0) (hp : pn = 0) (hlen : l.length = pn) (hpn : pn ≤ 4000000)
    (hch : ∀ x ∈ l, ∀ W, Below w.heap.size w W → Calls Tryd.prog 23 #[.agg x.d.arr] W fun e w' => e = .returned (.bool x.fine) ∧ Below W.heap.size W w')
    (hpart : ∀ k (h : k < l.length), ∃ pb po, pA = some ⟨pb, po, none⟩ ∧ (l[k]).d.At w pb (po + k * 5)) :
    Calls Tryd.prog 23 #[.agg #[.int .i64 7, .int .i64 n, .slice pA pn pc, .slice lA ln lc, .int .i64 tail]] w fun e w' => e = .returned (.bool (fineL0 l)) ∧ Below w.heap.size w w' := by
  subst ht
  subst hl
  have hb : Below w.heap.size w (w.alloc (.cells #[.int .i64 7, .int .i64 n, .slice pA pn pc, .slice lA 0 lc, .int .i64 (-1)] 25)) := (Below.refl _ _).alloc (Nat.le_refl _) _
  have c2 : (w.alloc (.cells #[.int .i64 7, .int .i64 n, .slice pA pn pc, .slice lA 0 lc, .int .i64 (-1)] 25)).cell? ⟨w.heap.size, 2, none⟩ = some (.slice pA pn pc) := cell_new w _ _ 2 rfl
  have HB := Lib.hid (And.intro hb c2)
  have HL := Lib.hid (And.intro hlen hpn)
  have HC := Lib.hid hch
  have HP := Lib.hid hpart
  have hpi : ((pn : Int) != 0) = false := by rw [bne_eq_false_iff_eq]; omega
  have n1 : ¬ n < 0 := by omega
  have n2 : (n != 0) = true := by rw [bne_iff_ne]; omega
  have HQ := Lib.hid hp
  clear hb c2 hlen hpn hch hpart hp
  go_enter Tryd.func23, Tryd.ntmps23
  go_wp2_with fail
  go_loopw [7] (fun i wr => ∃ (k : Nat), i = .int .i64 k ∧ k ≤ pn ∧ fineL0 (l.take k) = true ∧ Below w.heap.size w wr ∧ wr.cell? ⟨w.heap.size, 2, none⟩ = some (.slice pA pn pc)) (fun i _ => pn - (intOf i).toNat)
  case atStart => exact ⟨0, rfl, Nat.zero_le _, rfl, HB.out.1, HB.out.2⟩
  case round =>
    obtain ⟨j, rfl, hj, hf, hbr, c2⟩ := hrel
    have HR := Lib.hid (And.intro hbr (And.intro hf c2))
    clear hbr hf
    by_cases hlt2 : j < pn
    · have hjl : j < l.length := by rw [HL.out.1]; exact hlt2
      obtain ⟨pb, po, hpA, hAtM⟩ := HP.out j hjl
      have hc2' := c2
      rw [hpA] at c2
      obtain ⟨x, hx⟩ : ∃ x, l[j] = x := ⟨_, rfl⟩
      rw [hx] at hAtM
      have hxm : x ∈ l := by rw [← hx]; exact List.getElem_mem hjl
      have htk : l.take (j + 1) = l.take j ++ [x] := by rw [List.take_succ_eq_append_getElem hjl, hx]
      have hsn : fineL0 (l.take (j + 1)) = x.fine := by rw [htk, fineL0_snoc, HR.out.2.1, Bool.true_and]
      have HM := Lib.hid (HC.out x hxm wr HR.out.1)
      have HS := Lib.hid hsn
      have HCC := Lib.hid hc2'
      obtain ⟨p0, p1, p2, p3, p4⟩ := hAtM.lower HR.out.1
      have hji : (j : Int) < (pn : Int) := by omega
      have hj4 : (j : Int) ≤ 4000000 := by have := HL.out.2; omega
      clear hpA hAtM hx hxm hjl htk hsn hc2'
      cases hf2 : x.fine with
      | true =>
        rw [hf2] at HM HS
        clear hf2
        go_wp2_with fail
        refine HM.out.mono ?_
        rintro e w3 ⟨rfl, hb3⟩
        have H3 := Lib.hid (And.intro (below_then HR.out.1 hb3) (cell_below hb3 HCC.out))
        clear hb3 HM
        go_wp2_with fail
        go_roundw
        case rel => exact ⟨j + 1, by go_num, hlt2, HS.out, H3.out.1, H3.out.2⟩
        case measure => simp [intOf] <;> omega
      | false =>
        rw [hf2] at HM HS
        clear hf2
        have HF := Lib.hid (fineL0_take (l := l) (k := j + 1) HS.out)
        go_wp2_with fail
        refine HM.out.mono ?_
        rintro e w3 ⟨rfl, hb3⟩
        have H3 := Lib.hid (below_then HR.out.1 hb3)
        clear hb3 HM
        go_wp2_with fail
        go_returns
        exact ⟨by rw [HF.out]; rfl, H3.out⟩
    · have hji : ¬ (j : Int) < (pn : Int) := by omega
      have hmm : l.take j = l := List.take_of_length_le (by rw [HL.out.1]; omega)
      have hfl := HR.out.2.1
      rw [hmm] at hfl
      have HF := Lib.hid hfl
      clear hmm hfl
      go_wp2_with fail
      go_returns
      exact ⟨by rw [HF.out]; rfl, HR.out.1⟩

set_option maxRecDepth 100000 in
set_option maxHeartbeats 1000000 in
theorem fg6 (n : Int) (pA : Option Addr) (pn pc : Nat) (lA : Option Addr) (ln lc : Nat) (labels : List Str) (tail : Int) (l : List Ty) (w : World) (hn : n = 0) (ht : tail = -1) (hl : ln = 0) (hp : pn = 1) (hlen : l.length = pn) (hpn : pn ≤ 4000000)
    (hch : ∀ x ∈ l, ∀ W, Below w.heap.size w W → Calls Tryd.prog 23 #[.agg x.d.arr] W fun e w' => e = .returned (.bool x.fine) ∧ Below W.heap.size W w')
    (hpart : ∀ k (h : k < l.length), ∃ pb po, pA = some ⟨pb, po, none⟩ ∧ (l[k]).d.At w pb (po + k * 5)) :
    Calls Tryd.prog 23 #[.agg #[.int .i64 6, .int .i64 n, .slice pA pn pc, .slice lA ln lc, .int .i64 tail]] w fun e w' => e = .returned (.bool (fineL0 l)) ∧ Below w.heap.size w w' := by
  subst ht
  subst hl
  subst hn
  have hb : Below w.heap.size w (w.alloc (.cells #[.int .i64 6, .int .i64 0, .slice pA pn pc, .slice lA 0 lc, .int .i64 (-1)] 25)) := (Below.refl _ _).alloc (Nat.le_refl _) _
  have c2 : (w.alloc (.cells #[.int .i64 6, .int .i64 0, .slice pA pn pc, .slice lA 0 lc, .int .i64 (-1)] 25)).cell? ⟨w.heap.size, 2, none⟩ = some (.slice pA pn pc) := cell_new w _ _ 2 rfl
  have HB := Lib.hid (And.intro hb c2)
  have HL := Lib.hid (And.intro hlen hpn)
  have HC := Lib.hid hch
  have HP := Lib.hid hpart
  have hpi : ((pn : Int) != 1) = false := by rw [bne_eq_false_iff_eq]; omega
  have HQ := Lib.hid hp
  clear hb c2 hlen hpn hch hpart hp
  go_enter Tryd.func23, Tryd.ntmps23
  go_wp2_with fail
  go_loopw [7] (fun i wr => ∃ (k : Nat), i = .int .i64 k ∧ k ≤ pn ∧ fineL0 (l.take k) = true ∧ Below w.heap.size w wr ∧ wr.cell? ⟨w.heap.size, 2, none⟩ = some (.slice pA pn pc)) (fun i _ => pn - (intOf i).toNat)
  case atStart => exact ⟨0, rfl, Nat.zero_le _, rfl, HB.out.1, HB.out.2⟩
  case round =>
    obtain ⟨j, rfl, hj, hf, hbr, c2⟩ := hrel
    have HR := Lib.hid (And.intro hbr (And.intro hf c2))
    clear hbr hf
    by_cases hlt2 : j < pn
    · have hjl : j < l.length := by rw [HL.out.1]; exact hlt2
      obtain ⟨pb, po, hpA, hAtM⟩ := HP.out j hjl
      have hc2' := c2
      rw [hpA] at c2
      obtain ⟨x, hx⟩ : ∃ x, l[j] = x := ⟨_, rfl⟩
      rw [hx] at hAtM
      have hxm : x ∈ l := by rw [← hx]; exact List.getElem_mem hjl
      have htk : l.take (j + 1) = l.take j ++ [x] := by rw [List.take_succ_eq_append_getElem hjl, hx]
      have hsn : fineL0 (l.take (j + 1)) = x.fine := by rw [htk, fineL0_snoc, HR.out.2.1, Bool.true_and]
      have HM := Lib.hid (HC.out x hxm wr HR.out.1)
      have HS := Lib.hid hsn
      have HCC := Lib.hid hc2'
      obtain ⟨p0, p1, p2, p3, p4⟩ := hAtM.lower HR.out.1
      have hji : (j : Int) < (pn : Int) := by omega
      have hj4 : (j : Int) ≤ 4000000 := by have := HL.out.2; omega
      clear hpA hAtM hx hxm hjl htk hsn hc2'
      cases hf2 : x.fine with
      | true =>
        rw [hf2] at HM HS
        clear hf2
        go_wp2_with fail
        refine HM.out.mono ?_
        rintro e w3 ⟨rfl, hb3⟩
        have H3 := Lib.hid (And.intro (below_then HR.out.1 hb3) (cell_below hb3 HCC.out))
        clear hb3 HM
        go_wp2_with fail
        go_roundw
        case rel => exact ⟨j + 1, by go_num, hlt2, HS.out, H3.out.1, H3.out.2⟩
        case measure => simp [intOf] <;> omega
      | false =>
        rw [hf2] at HM HS
        clear hf2
        have HF := Lib.hid (fineL0_take (l := l) (k := j + 1) HS.out)
        go_wp2_with fail
        refine HM.out.mono ?_
        rintro e w3 ⟨rfl, hb3⟩
        have H3 := Lib.hid (below_then HR.out.1 hb3)
        clear hb3 HM
        go_wp2_with fail
        go_returns
        exact ⟨by rw [HF.out]; rfl, H3.out⟩
    · have hji : ¬ (j : Int) < (pn : Int) := by omega
      have hmm : l.take j = l := List.take_of_length_le (by rw [HL.out.1]; omega)
      have hfl := HR.out.2.1
      rw [hmm] at hfl
      have HF := Lib.hid hfl
      clear hmm hfl
      go_wp2_with fail
      go_returns
      exact ⟨by rw [HF.out]; rfl, HR.out.1⟩

set_option maxRecDepth 100000 in
set_option maxHeartbeats 1000000 in
theorem fg3 (n : Int) (pA : Option Addr) (pn pc : Nat) (lA : Option Addr) (ln lc : Nat) (labels : List Str) (tail : Int) (l : List Ty) (w : World) (hn : n = 0) (ht : tail = -1) (hl : ln = 0) (hp : pn = 2) (hlen : l.length = pn) (hpn : pn ≤ 4000000)
    (hch : ∀ x ∈ l, ∀ W, Below w.heap.size w W → Calls Tryd.prog 23 #[.agg x.d.arr] W fun e w' => e = .returned (.bool x.fine) ∧ Below W.heap.size W w')
    (hpart : ∀ k (h : k < l.length), ∃ pb po, pA = some ⟨pb, po, none⟩ ∧ (l[k]).d.At w pb (po + k * 5)) :
    Calls Tryd.prog 23 #[.agg #[.int .i64 3, .int .i64 n, .slice pA pn pc, .slice lA ln lc, .int .i64 tail]] w fun e w' => e = .returned (.bool (fineL0 l)) ∧ Below w.heap.size w w' := by
  subst ht
  subst hl
  subst hn
  have hb : Below w.heap.size w (w.alloc (.cells #[.int .i64 3, .int .i64 0, .slice pA pn pc, .slice lA 0 lc, .int .i64 (-1)] 25)) := (Below.refl _ _).alloc (Nat.le_refl _) _
  have c2 : (w.alloc (.cells #[.int .i64 3, .int .i64 0, .slice pA pn pc, .slice lA 0 lc, .int .i64 (-1)] 25)).cell? ⟨w.heap.size, 2, none⟩ = some (.slice pA pn pc) := cell_new w _ _ 2 rfl
  have HB := Lib.hid (And.intro hb c2)
  have HL := Lib.hid (And.intro hlen hpn)
  have HC := Lib.hid hch
  have HP := Lib.hid hpart
  have hpi : ((pn : Int) != 2) = false := by rw [bne_eq_false_iff_eq]; omega
  have HQ := Lib.hid hp
  clear hb c2 hlen hpn hch hpart hp
  go_enter Tryd.func23, Tryd.ntmps23
  go_wp2_with fail
  go_loopw [7] (fun i wr => ∃ (k : Nat), i = .int .i64 k ∧ k ≤ pn ∧ fineL0 (l.take k) = true ∧ Below w.heap.size w wr ∧ wr.cell? ⟨w.heap.size, 2, none⟩ = some (.slice pA pn pc)) (fun i _ => pn - (intOf i).toNat)
  case atStart => exact ⟨0, rfl, Nat.zero_le _, rfl, HB.out.1, HB.out.2⟩
  case round =>
    obtain ⟨j, rfl, hj, hf, hbr, c2⟩ := hrel
    have HR := Lib.hid (And.intro hbr (And.intro hf c2))
    clear hbr hf
    by_cases hlt2 : j < pn
    · have hjl : j < l.length := by rw [HL.out.1]; exact hlt2
      obtain ⟨pb, po, hpA, hAtM⟩ := HP.out j hjl
      have hc2' := c2
      rw [hpA] at c2
      obtain ⟨x, hx⟩ : ∃ x, l[j] = x := ⟨_, rfl⟩
      rw [hx] at hAtM
      have hxm : x ∈ l := by rw [← hx]; exact List.getElem_mem hjl
      have htk : l.take (j + 1) = l.take j ++ [x] := by rw [List.take_succ_eq_append_getElem hjl, hx]
      have hsn : fineL0 (l.take (j + 1)) = x.fine := by rw [htk, fineL0_snoc, HR.out.2.1, Bool.true_and]
      have HM := Lib.hid (HC.out x hxm wr HR.out.1)
      have HS := Lib.hid hsn
      have HCC := Lib.hid hc2'
      obtain ⟨p0, p1, p2, p3, p4⟩ := hAtM.lower HR.out.1
      have hji : (j : Int) < (pn : Int) := by omega
      have hj4 : (j : Int) ≤ 4000000 := by have := HL.out.2; omega
      clear hpA hAtM hx hxm hjl htk hsn hc2'
      cases hf2 : x.fine with
      | true =>
        rw [hf2] at HM HS
        clear hf2
        go_wp2_with fail
        refine HM.out.mono ?_
        rintro e w3 ⟨rfl, hb3⟩
        have H3 := Lib.hid (And.intro (below_then HR.out.1 hb3) (cell_below hb3 HCC.out))
        clear hb3 HM
        go_wp2_with fail
        go_roundw
        case rel => exact ⟨j + 1, by go_num, hlt2, HS.out, H3.out.1, H3.out.2⟩
        case measure => simp [intOf] <;> omega
      | false =>
        rw [hf2] at HM HS
        clear hf2
        have HF := Lib.hid (fineL0_take (l := l) (k := j + 1) HS.out)
        go_wp2_with fail
        refine HM.out.mono ?_
        rintro e w3 ⟨rfl, hb3⟩
        have H3 := Lib.hid (below_then HR.out.1 hb3)
        clear hb3 HM
        go_wp2_with fail
        go_returns
        exact ⟨by rw [HF.out]; rfl, H3.out⟩
    · have hji : ¬ (j : Int) < (pn : Int) := by omega
      have hmm : l.take j = l := List.take_of_length_le (by rw [HL.out.1]; omega)
      have hfl := HR.out.2.1
      rw [hmm] at hfl
      have HF := Lib.hid hfl
      clear hmm hfl
      go_wp2_with fail
      go_returns
      exact ⟨by rw [HF.out]; rfl, HR.out.1⟩

set_option maxRecDepth 100000 in
set_option maxHeartbeats 1000000 in
theorem fg4 (n : Int) (pA : Option Addr) (pn pc : Nat) (lA : Option Addr) (ln lc : Nat) (labels : List Str) (tail : Int) (l : List Ty) (w : World) (hn : n = 0) (hr : Rd w 1 lA ln (strs labels)) (hm : ln ≤ maxLen) (ht : -1 ≤ tail) (hi : isB labels = true) (hh : ¬ ([] : Str) ∈ labels) (hp : pn = ln) (hlen : l.length = pn) (hpn : pn ≤ 4000000)
    (hch : ∀ x ∈ l, ∀ W, Below w.heap.size w W → Calls Tryd.prog 23 #[.agg x.d.arr] W fun e w' => e = .returned (.bool x.fine) ∧ Below W.heap.size W w')
    (hpart : ∀ k (h : k < l.length), ∃ pb po, pA = some ⟨pb, po, none⟩ ∧ (l[k]).d.At w pb (po + k * 5)) :
    Calls Tryd.prog 23 #[.agg #[.int .i64 4, .int .i64 n, .slice pA pn pc, .slice lA ln lc, .int .i64 tail]] w fun e w' => e = .returned (.bool (fineL0 l)) ∧ Below w.heap.size w w' := by
  subst hn
  have hb : Below w.heap.size w (w.alloc (.cells #[.int .i64 4, .int .i64 0, .slice pA pn pc, .slice lA ln lc, .int .i64 tail] 25)) := (Below.refl _ _).alloc (Nat.le_refl _) _
  have HI := Lib.hid (refIs_any lA labels ln lc _ (hr.below hb) hm)
  have HH := Lib.hid (fun w2 (hb2 : Below w.heap.size w w2) => refHas_any lA labels [] ln lc w2 (hr.below hb2) hm)
  have e0 : bstr [] = ({ data := #[] } : ByteArray) := rfl
  rw [e0, decide_eq_false hh] at HH
  rw [hi] at HI
  have HB0 := Lib.hid hb
  have HL := Lib.hid (And.intro hlen hpn)
  have HC := Lib.hid hch
  have HP := Lib.hid hpart
  have t1 : ¬ tail < -1 := by omega
  have hpi : ((pn : Int) != (ln : Int)) = false := by rw [bne_eq_false_iff_eq]; omega
  have HQ := Lib.hid hp
  clear hb hr hlen hpn hch hpart hi hh hp ht
  go_enter Tryd.func23, Tryd.ntmps23
  go_wp2_with fail
  refine HI.out.mono ?_
  rintro e w2 ⟨rfl, hb2⟩
  have HB2 := Lib.hid (below_then HB0.out hb2)
  have c2 : w2.cell? ⟨w.heap.size, 2, none⟩ = some (.slice pA pn pc) := cell_below hb2 (cell_new w _ _ 2 rfl)
  have c3 : w2.cell? ⟨w.heap.size, 3, none⟩ = some (.slice lA ln lc) := cell_below hb2 (cell_new w _ _ 3 rfl)
  have c4 : w2.cell? ⟨w.heap.size, 4, none⟩ = some (.int .i64 tail) := cell_below hb2 (cell_new w _ _ 4 rfl)
  clear hb2
  go_wp2_with fail
  refine (HH.out w2 HB2.out).mono ?_
  rintro e w3 ⟨rfl, hb3⟩
  have d2 := cell_below hb3 c2
  have d4 := cell_below hb3 c4
  have HB := Lib.hid (And.intro (below_then HB2.out hb3) d2)
  clear hb3 c2 c3 c4
  go_wp2_with fail
  clear d2 d4
  go_loopw [7] (fun i wr => ∃ (k : Nat), i = .int .i64 k ∧ k ≤ pn ∧ fineL0 (l.take k) = true ∧ Below w.heap.size w wr ∧ wr.cell? ⟨w.heap.size, 2, none⟩ = some (.slice pA pn pc)) (fun i _ => pn - (intOf i).toNat)
  case atStart => exact ⟨0, rfl, Nat.zero_le _, rfl, HB.out.1, HB.out.2⟩
  case round =>
    obtain ⟨j, rfl, hj, hf, hbr, c2⟩ := hrel
    have HR := Lib.hid (And.intro hbr (And.intro hf c2))
    clear hbr hf
    by_cases hlt2 : j < pn
    · have hjl : j < l.length := by rw [HL.out.1]; exact hlt2
      obtain ⟨pb, po, hpA, hAtM⟩ := HP.out j hjl
      have hc2' := c2
      rw [hpA] at c2
      obtain ⟨x, hx⟩ : ∃ x, l[j] = x := ⟨_, rfl⟩
      rw [hx] at hAtM
      have hxm : x ∈ l := by rw [← hx]; exact List.getElem_mem hjl
      have htk : l.take (j + 1) = l.take j ++ [x] := by rw [List.take_succ_eq_append_getElem hjl, hx]
      have hsn : fineL0 (l.take (j + 1)) = x.fine := by rw [htk, fineL0_snoc, HR.out.2.1, Bool.true_and]
      have HM := Lib.hid (HC.out x hxm wr HR.out.1)
      have HS := Lib.hid hsn
      have HCC := Lib.hid hc2'
      obtain ⟨p0, p1, p2, p3, p4⟩ := hAtM.lower HR.out.1
      have hji : (j : Int) < (pn : Int) := by omega
      have hj4 : (j : Int) ≤ 4000000 := by have := HL.out.2; omega
      clear hpA hAtM hx hxm hjl htk hsn hc2'
      cases hf2 : x.fine with
      | true =>
        rw [hf2] at HM HS
        clear hf2
        go_wp2_with fail
        refine HM.out.mono ?_
        rintro e w3 ⟨rfl, hb3⟩
        have H3 := Lib.hid (And.intro (below_then HR.out.1 hb3) (cell_below hb3 HCC.out))
        clear hb3 HM
        go_wp2_with fail
        go_roundw
        case rel => exact ⟨j + 1, by go_num, hlt2, HS.out, H3.out.1, H3.out.2⟩
        case measure => simp [intOf] <;> omega
      | false =>
        rw [hf2] at HM HS
        clear hf2
        have HF := Lib.hid (fineL0_take (l := l) (k := j + 1) HS.out)
        go_wp2_with fail
        refine HM.out.mono ?_
        rintro e w3 ⟨rfl, hb3⟩
        have H3 := Lib.hid (below_then HR.out.1 hb3)
        clear hb3 HM
        go_wp2_with fail
        go_returns
        exact ⟨by rw [HF.out]; rfl, H3.out⟩
    · have hji : ¬ (j : Int) < (pn : Int) := by omega
      have hmm : l.take j = l := List.take_of_length_le (by rw [HL.out.1]; omega)
      have hfl := HR.out.2.1
      rw [hmm] at hfl
      have HF := Lib.hid hfl
      clear hmm hfl
      go_wp2_with fail
      go_returns
      exact ⟨by rw [HF.out]; rfl, HR.out.1⟩

set_option maxRecDepth 100000 in
set_option maxHeartbeats 1000000 in
theorem fg5 (n : Int) (pA : Option Addr) (pn pc : Nat) (lA : Option Addr) (ln lc : Nat) (labels : List Str) (tail : Int) (l : List Ty) (w : World) (hn : n = 0) (hr : Rd w 1 lA ln (strs labels)) (hm : ln ≤ maxLen) (ht : -1 ≤ tail) (hi : isB labels = true) (hh : ¬ ([] : Str) ∈ labels) (hp : pn = ln) (hlen : l.length = pn) (hpn : pn ≤ 4000000)
    (hch : ∀ x ∈ l, ∀ W, Below w.heap.size w W → Calls Tryd.prog 23 #[.agg x.d.arr] W fun e w' => e = .returned (.bool x.fine) ∧ Below W.heap.size W w')
    (hpart : ∀ k (h : k < l.length), ∃ pb po, pA = some ⟨pb, po, none⟩ ∧ (l[k]).d.At w pb (po + k * 5)) :
    Calls Tryd.prog 23 #[.agg #[.int .i64 5, .int .i64 n, .slice pA pn pc, .slice lA ln lc, .int .i64 tail]] w fun e w' => e = .returned (.bool (fineL0 l)) ∧ Below w.heap.size w w' := by
  subst hn
  have hb : Below w.heap.size w (w.alloc (.cells #[.int .i64 5, .int .i64 0, .slice pA pn pc, .slice lA ln lc, .int .i64 tail] 25)) := (Below.refl _ _).alloc (Nat.le_refl _) _
  have HI := Lib.hid (refIs_any lA labels ln lc _ (hr.below hb) hm)
  have HH := Lib.hid (fun w2 (hb2 : Below w.heap.size w w2) => refHas_any lA labels [] ln lc w2 (hr.below hb2) hm)
  have e0 : bstr [] = ({ data := #[] } : ByteArray) := rfl
  rw [e0, decide_eq_false hh] at HH
  rw [hi] at HI
  have HB0 := Lib.hid hb
  have HL := Lib.hid (And.intro hlen hpn)
  have HC := Lib.hid hch
  have HP := Lib.hid hpart
  have t1 : ¬ tail < -1 := by omega
  have hpi : ((pn : Int) != (ln : Int)) = false := by rw [bne_eq_false_iff_eq]; omega
  have HQ := Lib.hid hp
  clear hb hr hlen hpn hch hpart hi hh hp ht
  go_enter Tryd.func23, Tryd.ntmps23
  go_wp2_with fail
  refine HI.out.mono ?_
  rintro e w2 ⟨rfl, hb2⟩
  have HB2 := Lib.hid (below_then HB0.out hb2)
  have c2 : w2.cell? ⟨w.heap.size, 2, none⟩ = some (.slice pA pn pc) := cell_below hb2 (cell_new w _ _ 2 rfl)
  have c3 : w2.cell? ⟨w.heap.size, 3, none⟩ = some (.slice lA ln lc) := cell_below hb2 (cell_new w _ _ 3 rfl)
  have c4 : w2.cell? ⟨w.heap.size, 4, none⟩ = some (.int .i64 tail) := cell_below hb2 (cell_new w _ _ 4 rfl)
  clear hb2
  go_wp2_with fail
  refine (HH.out w2 HB2.out).mono ?_
  rintro e w3 ⟨rfl, hb3⟩
  have d2 := cell_below hb3 c2
  have d4 := cell_below hb3 c4
  have HB := Lib.hid (And.intro (below_then HB2.out hb3) d2)
  clear hb3 c2 c3 c4
  go_wp2_with fail
  clear d2 d4
  go_loopw [7] (fun i wr => ∃ (k : Nat), i = .int .i64 k ∧ k ≤ pn ∧ fineL0 (l.take k) = true ∧ Below w.heap.size w wr ∧ wr.cell? ⟨w.heap.size, 2, none⟩ = some (.slice pA pn pc)) (fun i _ => pn - (intOf i).toNat)
  case atStart => exact ⟨0, rfl, Nat.zero_le _, rfl, HB.out.1, HB.out.2⟩
  case round =>
    obtain ⟨j, rfl, hj, hf, hbr, c2⟩ := hrel
    have HR := Lib.hid (And.intro hbr (And.intro hf c2))
    clear hbr hf
    by_cases hlt2 : j < pn
    · have hjl : j < l.length := by rw [HL.out.1]; exact hlt2
      obtain ⟨pb, po, hpA, hAtM⟩ := HP.out j hjl
      have hc2' := c2
      rw [hpA] at c2
      obtain ⟨x, hx⟩ : ∃ x, l[j] = x := ⟨_, rfl⟩
      rw [hx] at hAtM
      have hxm : x ∈ l := by rw [← hx]; exact List.getElem_mem hjl
      have htk : l.take (j + 1) = l.take j ++ [x] := by rw [List.take_succ_eq_append_getElem hjl, hx]
      have hsn : fineL0 (l.take (j + 1)) = x.fine := by rw [htk, fineL0_snoc, HR.out.2.1, Bool.true_and]
      have HM := Lib.hid (HC.out x hxm wr HR.out.1)
      have HS := Lib.hid hsn
      have HCC := Lib.hid hc2'
      obtain ⟨p0, p1, p2, p3, p4⟩ := hAtM.lower HR.out.1
      have hji : (j : Int) < (pn : Int) := by omega
      have hj4 : (j : Int) ≤ 4000000 := by have := HL.out.2; omega
      clear hpA hAtM hx hxm hjl htk hsn hc2'
      cases hf2 : x.fine with
      | true =>
        rw [hf2] at HM HS
        clear hf2
        go_wp2_with fail
        refine HM.out.mono ?_
        rintro e w3 ⟨rfl, hb3⟩
        have H3 := Lib.hid (And.intro (below_then HR.out.1 hb3) (cell_below hb3 HCC.out))
        clear hb3 HM
        go_wp2_with fail
        go_roundw
        case rel => exact ⟨j + 1, by go_num, hlt2, HS.out, H3.out.1, H3.out.2⟩
        case measure => simp [intOf] <;> omega
      | false =>
        rw [hf2] at HM HS
        clear hf2
        have HF := Lib.hid (fineL0_take (l := l) (k := j + 1) HS.out)
        go_wp2_with fail
        refine HM.out.mono ?_
        rintro e w3 ⟨rfl, hb3⟩
        have H3 := Lib.hid (below_then HR.out.1 hb3)
        clear hb3 HM
        go_wp2_with fail
        go_returns
        exact ⟨by rw [HF.out]; rfl, H3.out⟩
    · have hji : ¬ (j : Int) < (pn : Int) := by omega
      have hmm : l.take j = l := List.take_of_length_le (by rw [HL.out.1]; omega)
      have hfl := HR.out.2.1
      rw [hmm] at hfl
      have HF := Lib.hid hfl
      clear hmm hfl
      go_wp2_with fail
      go_returns
      exact ⟨by rw [HF.out]; rfl, HR.out.1⟩

theorem good_cases {d : TyD} (h : d.fieldsB = true) : ((d.kind = 4 ∨ d.kind = 5) ∧ d.n = 0 ∧ -1 ≤ d.tail ∧ d.pn = d.ln ∧ isB d.labels = true ∧ ¬ ([] : Str) ∈ d.labels) ∨
    (d.tail = -1 ∧ d.ln = 0 ∧ ((d.kind = 7 ∧ 0 ≤ d.n ∧ d.pn = 0) ∨ (d.kind = 3 ∧ d.n = 0 ∧ d.pn = 2) ∨ (d.kind = 6 ∧ d.n = 0 ∧ d.pn = 1) ∨ (d.kind = 1 ∧ d.n = 0 ∧ d.pn = 0) ∨ (d.kind = 2 ∧ d.n = 0 ∧ d.pn = 0))) := by
  unfold TyD.fieldsB TyD.bareB at h
  split at h
  · rename_i hk
    simp only [Bool.and_eq_true, decide_eq_true_eq, Bool.not_eq_true', decide_eq_false_iff_not] at h
    exact .inl ⟨hk, h.1.1.1.1, h.1.1.1.2, h.1.1.2, h.1.2, h.2⟩
  · right
    split at h
    · simp only [Bool.and_eq_true, decide_eq_true_eq] at h
      exact ⟨h.2.2, h.2.1.2, .inl ⟨by assumption, h.1, by have := h.2.1.1; omega⟩⟩
    · split at h
      · simp only [Bool.and_eq_true, decide_eq_true_eq] at h
        exact ⟨h.2.2, h.2.1.2, .inr (.inl ⟨by assumption, h.1, by have := h.2.1.1; omega⟩)⟩
      · split at h
        · simp only [Bool.and_eq_true, decide_eq_true_eq] at h
          exact ⟨h.2.2, h.2.1.2, .inr (.inr (.inl ⟨by assumption, h.1, by have := h.2.1.1; omega⟩))⟩
        · split at h
          · rename_i hk
            simp only [Bool.and_eq_true, decide_eq_true_eq] at h
            rcases hk with hk | hk
            · exact ⟨h.2.2, h.2.1.2, .inr (.inr (.inr (.inl ⟨hk, h.1, by have := h.2.1.1; omega⟩)))⟩
            · exact ⟨h.2.2, h.2.1.2, .inr (.inr (.inr (.inr ⟨hk, h.1, by have := h.2.1.1; omega⟩)))⟩
          · cases h

theorem fine_any (w0 : World) (t : Ty) (hIn : t.In w0) : ∀ (w : World), Below w0.heap.size w0 w →
    Calls Tryd.prog 23 #[.agg t.d.arr] w fun e w' => e = .returned (.bool t.fine) ∧ Below w.heap.size w w' := by
  induction hIn with
  | mk d l lab par cap sub ih =>
  intro w hb
  cases hf : d.fieldsB with
  | false =>
    have e : Ty.fine (.mk d l) = false := by unfold Ty.fine; rw [hf]; rfl
    rw [e]
    exact fine_bad d w (lab.below hb) (Nat.le_trans cap.1 cap.2.1) hf
  | true =>
    have e : Ty.fine (.mk d l) = fineL0 l := by unfold Ty.fine; rw [hf]; rfl
    rw [e]
    have hlen : l.length = d.pn := by have := par.1; rw [flat_len Ty.cells_len] at this; omega
    have hch := fun x (hx : x ∈ l) W (hW : Below w.heap.size w W) => ih x hx W (below_then hb hW)
    have hpart : ∀ k (h : k < l.length), ∃ pb po, d.pA = some ⟨pb, po, none⟩ ∧ (l[k]).d.At w pb (po + k * 5) := fun k h => by
      obtain ⟨pb, po, h1, h2⟩ := ((Ty.In.mk d l lab par cap sub).lower hb).part (k := k) h
      exact ⟨pb, po, h1, h2 k h⟩
    have hg := good_cases hf
    have hl2 := lab.below hb
    have hm := Nat.le_trans cap.1 cap.2.1
    have hpn := cap.2.2.2.2.2
    obtain ⟨kind, n, pA, pn, pc, lA, ln, lc, labels, tail⟩ := d
    dsimp only at hg hl2 hm hpn hlen hpart
    show Calls _ _ #[.agg #[.int .i64 kind, .int .i64 n, .slice pA pn pc, .slice lA ln lc, .int .i64 tail]] _ _
    rcases hg with ⟨hk, hn, ht, hp, hi, hh⟩ | ⟨ht, hl, hg⟩
    · rcases hk with rfl | rfl
      · exact fg4 n pA pn pc lA ln lc labels tail l w hn hl2 hm ht hi hh hp hlen hpn hch hpart
      · exact fg5 n pA pn pc lA ln lc labels tail l w hn hl2 hm ht hi hh hp hlen hpn hch hpart
    · rcases hg with ⟨rfl, hn, hp⟩ | ⟨rfl, hn, hp⟩ | ⟨rfl, hn, hp⟩ | ⟨rfl, hn, hp⟩ | ⟨rfl, hn, hp⟩
      · rcases Int.lt_or_eq_of_le hn with hn | hn
        · exact fg7b n pA pn pc lA ln lc labels tail l w hn ht hl hp hlen hpn hch hpart
        · exact fg7a n pA pn pc lA ln lc labels tail l w hn.symm ht hl hp hlen hpn hch hpart
      · exact fg3 n pA pn pc lA ln lc labels tail l w hn ht hl hp hlen hpn hch hpart
      · exact fg6 n pA pn pc lA ln lc labels tail l w hn ht hl hp hlen hpn hch hpart
      · exact fg1 n pA pn pc lA ln lc labels tail l w hn ht hl hp hlen hpn hch hpart
      · exact fg2 n pA pn pc lA ln lc labels tail l w hn ht hl hp hlen hpn hch hpart

set_option maxRecDepth 100000 in
set_option maxHeartbeats 1000000 in
theorem refMay_any (t : Ty) (w : World) (hIn : t.In w) (hsz : t.nodes ≤ 4000000) :
    Calls Tryd.prog 8 #[.agg t.d.arr] w fun e w' => e = .returned (.bool (mayF t 0).isSome) ∧ Below w.heap.size w w' := by
  have hb1 : Below w.heap.size w (w.alloc (.cells t.d.arr 25)) := (Below.refl _ _).alloc (Nat.le_refl _) _
  have hAt := box_at w t.d
  have HF := Lib.hid (fine_any w t hIn _ hb1)
  have HN := Lib.hid (fun w2 (hb2 : Below w.heap.size w w2) => nodes_any w t hIn hsz w2 hb2)
  have HB := Lib.hid (And.intro hb1 hAt)
  rw [may_spec]
  clear hb1 hAt hIn
  obtain ⟨z, hz⟩ : ∃ z, t.nodes = z := ⟨_, rfl⟩
  rw [hz] at HN hsz ⊢
  clear hz
  obtain ⟨ans, hans⟩ : ∃ ans, (t.fine && decide (z ≤ 4000)) = ans := ⟨_, rfl⟩
  rw [hans]
  have HS := Lib.hid hans
  clear hans
  go_enter Tryd.func8, Tryd.ntmps8
  go_wp2_with fail
  generalize w.alloc (.cells t.d.arr 25) = w1 at *
  refine HF.out.mono ?_
  rintro e w2 ⟨rfl, hb2⟩
  obtain ⟨c0, c1, c2, c3, c4⟩ := HB.out.2.lower hb2
  have HB2 := Lib.hid (below_then HB.out.1 hb2)
  clear hb2
  cases hf : t.fine with
  | false =>
    have HA := Lib.hid (show ans = false by rw [← HS.out, hf]; rfl)
    clear hf
    go_wp2_with fail
    go_returns
    exact ⟨by rw [HA.out]; rfl, HB2.out⟩
  | true =>
    have HA := Lib.hid (show ans = decide (z ≤ 4000) by rw [← HS.out, hf]; rfl)
    clear hf
    go_wp2_with fail
    refine (HN.out w2 HB2.out).mono ?_
    rintro e w3 ⟨rfl, hb3⟩
    have HB3 := Lib.hid (below_then HB2.out hb3)
    clear hb3
    by_cases h4 : z ≤ 4000
    · have h4i : (z : Int) ≤ 4000 := by omega
      have HD := Lib.hid (decide_eq_true h4)
      clear h4
      go_wp2_with fail
      go_returns
      exact ⟨by rw [HA.out, HD.out]; rfl, HB3.out⟩
    · have h4i : ¬ (z : Int) ≤ 4000 := by omega
      have HD := Lib.hid (decide_eq_false h4)
      clear h4
      go_wp2_with fail
      go_returns
      exact ⟨by rw [HA.out, HD.out]; show Ending.returned (.bool (decide ((z : Int) ≤ 4000))) = _; rw [decide_eq_false (show ¬ (z : Int) ≤ 4000 by omega)], HB3.out⟩
end Go.Proofs.YtlgmddnpmmggdaaDoor
