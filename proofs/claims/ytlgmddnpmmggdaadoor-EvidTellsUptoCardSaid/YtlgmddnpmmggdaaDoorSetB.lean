/-
  Two lists held against each other; the search for a label in a set.
-/
import Derived.Test.YtlgmddnpmmggdaaDoorSetA
namespace Go.Proofs.YtlgmddnpmmggdaaDoor
open Go.ChangeShapes Go.WideShapes Go.ChangeAt Go.RowKit
set_option linter.unusedVariables false

theorem cmpLess_any (a b : Str) (w : World) : Calls Tryd.prog 38 #[.string (bstr a), .string (bstr b)] w fun e w' => e = .returned (.bool (slt a b)) ∧ w' = w := by
  go_enter Tryd.func38, Tryd.ntmps38
  go_wp2_with fail
  refine (isNaN_any _ _).mono ?_
  rintro e w' ⟨rfl, rfl⟩
  have hge := bytesLess_bstr a b
  go_wp2_with fail
  go_returns
  exact ⟨rfl, rfl⟩

theorem slIsNaN_any (s : ByteArray) (w : World) : Calls Tryd.prog 39 #[.string s] w fun e w' => e = .returned (.bool false) ∧ w' = w := by
  go_enter Tryd.func39, Tryd.ntmps39
  have h : (s.toList == s.toList) = true := by simp
  go_wp2
  go_returns
  exact ⟨rfl, rfl⟩

theorem has_at {l : List Str} {s : Str} (h : inOrder l) (hlt : offs l s < l.length) : s ∈ l ↔ l[offs l s] = s := by
  obtain ⟨h1, h2⟩ := offs_split l s h
  constructor
  · intro hm
    obtain ⟨j, hj, e⟩ := List.getElem_of_mem hm
    rcases Nat.lt_trichotomy j (offs l s) with hx | hx | hx
    · have := h1 l[j] (by rw [List.mem_take_iff_getElem]; exact ⟨j, by omega, rfl⟩)
      rw [e, slt_irrefl] at this; cases this
    · subst hx; exact e
    · have h3 := List.pairwise_iff_getElem.1 h _ _ hlt hj hx
      rw [e] at h3
      have h4 := h2 l[offs l s] (by rw [List.mem_drop_iff_getElem]; exact ⟨0, by omega, by simp⟩)
      rw [h4] at h3; cases h3
  · intro e
    rw [← e]
    exact List.getElem_mem hlt
theorem has_end {l : List Str} {s : Str} (h : inOrder l) (hge : ¬ offs l s < l.length) : ¬ s ∈ l := by
  obtain ⟨h1, h2⟩ := offs_split l s h
  intro hm
  have := h1 s (by rw [List.take_of_length_le (by omega)]; exact hm)
  rw [slt_irrefl] at this; cases this

theorem search_any (A : Option Addr) (l : List Str) (s : Str) (n c : Nat) (w : World) (hr : Rd w 1 A n (strs l)) (hm : n ≤ 4000000) (ho : inOrder l) :
    Calls Tryd.prog 32 #[.slice A n c, .string (bstr s)] w fun e w' => e = .returned (.tuple #[.int .i64 (offs l s), .bool (decide (s ∈ l))]) ∧ Below w.heap.size w w' := by
  have hl := rd_len hr
  subst hl
  go_enter Tryd.func32, Tryd.ntmps32
  go_wp2_with fail
  go_loopw [7, 8] (fun u v wr => ∃ i j : Nat, u = .int .i64 i ∧ v = .int .i64 j ∧ i ≤ j ∧ j ≤ l.length ∧ (∀ k (h : k < l.length), k < i → slt l[k] s = true) ∧ (∀ k (h : k < l.length), j ≤ k → slt l[k] s = false) ∧ Below w.heap.size w wr) (fun u v _ => (intOf v - intOf u).toNat)
  case atStart => exact ⟨0, l.length, rfl, rfl, by omega, by omega, by intro j _ h; omega, by intro j _ h; omega, by go_grown⟩
  case round =>
    obtain ⟨i, j, rfl, rfl, hij, hj, hs1, hs2, hb⟩ := hrel
    by_cases hlt : i < j
    · obtain ⟨h, e1, hh1, hh2⟩ : ∃ h : Nat, ((i : Int) + (j : Int)) / 2 = (h : Int) ∧ i ≤ h ∧ h < j := ⟨(i + j) / 2, by omega, by omega, by omega⟩
      obtain ⟨b, o, rfl, hc⟩ := (hr.below hb).str (k := h) (by omega)
      have hc1 := hc h (by omega)
      clear hc hr
      have i1 : (h : Int) < (l.length : Int) := by omega
      go_wp2_with fail
      refine (cmpLess_any _ _ _).mono ?_
      rintro e w' ⟨rfl, rfl⟩
      cases hd : slt l[h] s
      · go_wp2_with fail
        go_roundw
        case rel => exact ⟨i, h, rfl, rfl, hh1, by omega, hs1, by
          intro k hk hhk
          rcases Nat.lt_or_eq_of_le hhk with hx | hx
          · cases hks : slt l[k] s with
            | false => rfl
            | true => rw [slt_trans (List.pairwise_iff_getElem.1 ho _ _ (by omega) hk hx) hks] at hd; cases hd
          · subst hx; exact hd, hb⟩
        case measure => simp [intOf] <;> omega
      · go_wp2_with fail
        go_roundw
        case rel => exact ⟨h + 1, j, by go_num, rfl, by omega, hj, by
          intro k hk hhk
          rcases Nat.lt_succ_iff_lt_or_eq.1 hhk with hx | hx
          · exact slt_trans (List.pairwise_iff_getElem.1 ho _ _ hk (by omega) hx) hd
          · subst hx; exact hd, hs2, hb⟩
        case measure => simp [intOf] <;> omega
    · obtain rfl : i = j := by omega
      have ei : offs l s = i := offs_unique l s i hj (fun k hk => hs1 k (by omega) hk) (fun k hk hik => hs2 k hk hik)
      by_cases hi : i < l.length
      · obtain ⟨b, o, rfl, hc⟩ := (hr.below hb).str (k := i) hi
        have hc1 := hc i hi
        have hh := has_at (l := l) (s := s) ho (by omega)
        simp only [ei] at hh
        clear hc hr
        by_cases hq0 : l[i] = s
        · have hq : ((bstr l[i]).toList == (bstr s).toList) = true := by rw [beq_bstr]; simpa using hq0
          go_wp2_with fail
          go_returns
          exact ⟨by rw [ei, decide_eq_true (hh.2 hq0)]; rfl, hb⟩
        · have hq : ((bstr l[i]).toList == (bstr s).toList) = false := by rw [beq_bstr]; simpa using hq0
          go_wp2_with fail
          refine (slIsNaN_any _ _).mono ?_
          rintro e w' ⟨rfl, rfl⟩
          go_wp2_with fail
          go_returns
          exact ⟨by rw [ei, decide_eq_false (fun h => hq0 (hh.1 h))]; rfl, hb⟩
      · go_wp2_with fail
        go_returns
        exact ⟨by rw [ei, decide_eq_false (has_end ho (by omega))]; rfl, hb⟩

theorem has_any (A : Option Addr) (l : List Str) (s : Str) (n c : Nat) (w : World) (hr : Rd w 1 A n (strs l)) (hm : n ≤ 4000000) (ho : inOrder l) :
    Calls Tryd.prog 48 #[.slice A n c, .string (bstr s)] w fun e w' => e = .returned (.bool (decide (s ∈ l))) ∧ Below w.heap.size w w' := by
  go_enter Tryd.func48, Tryd.ntmps48
  go_wp2_with fail
  refine (search_any A l s n c _ hr hm ho).mono ?_
  rintro e w' ⟨rfl, hb⟩
  go_wp2_with fail
  go_returns
  exact ⟨rfl, hb⟩

theorem offset_any (A : Option Addr) (l : List Str) (s : Str) (n c : Nat) (w : World) (hr : Rd w 1 A n (strs l)) (hm : n ≤ 4000000) (ho : inOrder l) :
    Calls Tryd.prog 22 #[.slice A n c, .string (bstr s)] w fun e w' => e = .returned (.int .i64 (offs l s)) ∧ Below w.heap.size w w' := by
  go_enter Tryd.func22, Tryd.ntmps22
  go_wp2_with fail
  refine (search_any A l s n c _ hr hm ho).mono ?_
  rintro e w' ⟨rfl, hb⟩
  go_wp2_with fail
  go_returns
  exact ⟨rfl, hb⟩
end Go.Proofs.YtlgmddnpmmggdaaDoor
