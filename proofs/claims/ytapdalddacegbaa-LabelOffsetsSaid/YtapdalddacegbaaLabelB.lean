/-
  Two lists held against each other; the search for a label in a set.
-/
import Derived.Test.YtapdalddacegbaaLabelA
namespace Go.Proofs.Ytapdalddacegbaa
open Go.ChangeShapes Go.WideShapes Go.ChangeAt Go.RowKit
set_option linter.unusedVariables false

theorem texts_any (A B : Option Addr) (l r : List Str) (n c m d : Nat) (w : World) (hr : Rd w 1 A n (strs l)) (hs : Rd w 1 B m (strs r)) (hm : n ≤ maxLen) (hm2 : m ≤ maxLen) :
    Calls Try.prog 23 #[.slice A n c, .slice B m d] w fun e w' => e = .returned (.bool (decide (l = r))) ∧ Below w.heap.size w w' := by
  have hl := rd_len hr
  have hl2 := rd_len hs
  subst hl
  subst hl2
  unfold maxLen at hm hm2
  by_cases hlen : l.length = r.length
  · go_enter Try.func23, Try.ntmps23
    have hlz : (((l.length : Nat) : Int) == ((r.length : Nat) : Int)) = true := by rw [hlen]; simp
    go_wp2
    clear hlz
    go_loopw [5] (fun i wr => ∃ k : Nat, i = .int .i64 k ∧ k ≤ l.length ∧ l.take k = r.take k ∧ Below w.heap.size w wr) (fun i _ => l.length - (intOf i).toNat)
    case atStart => exact ⟨0, rfl, by omega, by simp, by go_grown⟩
    case round =>
      obtain ⟨k, rfl, hk, he, hb⟩ := hrel
      by_cases hlt : k < l.length
      · obtain ⟨b, o, rfl, hc⟩ := (hr.below hb).str (k := k) hlt
        obtain ⟨b', o', rfl, hc'⟩ := (hs.below hb).str (k := k) (by omega)
        have h1 := hc k hlt
        have h2 := hc' k (by omega)
        clear hc hr hc' hs
        have HE := Lib.hid he
        clear he
        by_cases hq0 : l[k] = r[k]
        · have hq : ((bstr l[k]).toList == (bstr r[k]).toList) = true := by rw [beq_bstr]; simpa using hq0
          go_wp2
          have i1 : (k : Int) < (l.length : Int) := by omega
          have i2 : (k : Int) < (r.length : Int) := by omega
          go_quiet (fail)
          clear i1 i2
          go_wp2
          go_roundw
          case rel => exact ⟨k + 1, by go_num, by omega, by rw [List.take_succ_eq_append_getElem hlt, List.take_succ_eq_append_getElem (by omega), HE.out, hq0], below_drewN hb _⟩
          case measure => simp [intOf] <;> omega
        · have hq : ((bstr l[k]).toList == (bstr r[k]).toList) = false := by rw [beq_bstr]; simpa using hq0
          go_wp2
          have i1 : (k : Int) < (l.length : Int) := by omega
          have i2 : (k : Int) < (r.length : Int) := by omega
          go_quiet (fail)
          clear i1 i2
          go_wp2
          go_returns
          exact ⟨by rw [decide_eq_false (show ¬ l = r from fun h => hq0 (by subst h; rfl))]; rfl, below_drewN hb _⟩
      · go_wp2
        go_returns
        obtain rfl : k = l.length := by omega
        refine ⟨?_, hb⟩
        rw [List.take_length, hlen, List.take_length] at he
        rw [decide_eq_true he]; rfl
  · go_enter Try.func23, Try.ntmps23
    have hlz : (((l.length : Nat) : Int) == ((r.length : Nat) : Int)) = false := by rw [beq_eq_false_iff_ne]; omega
    go_wp2
    go_returns
    exact ⟨by rw [decide_eq_false (show ¬ l = r from fun h => hlen (by rw [h]))]; rfl, by go_grown⟩

theorem Texts_any (A B : Option Addr) (l r : List Str) (n c m d : Nat) (w : World) (hr : Rd w 1 A n (strs l)) (hs : Rd w 1 B m (strs r)) (hm : n ≤ maxLen) (hm2 : m ≤ maxLen) :
    Calls Try.prog 10 #[.slice A n c, .slice B m d] w fun e w' => e = .returned (.bool (decide (l = r))) ∧ Below w.heap.size w w' := by
  go_enter Try.func10, Try.ntmps10
  go_wp2_with fail
  refine (texts_any A B l r n c m d _ hr hs hm hm2).mono ?_
  rintro e w' ⟨rfl, hb⟩
  go_wp2_with fail
  go_returns
  exact ⟨rfl, hb⟩

theorem cmpLess_any (a b : Str) (w : World) : Calls Try.prog 34 #[.string (bstr a), .string (bstr b)] w fun e w' => e = .returned (.bool (slt a b)) ∧ w' = w := by
  go_enter Try.func34, Try.ntmps34
  go_wp2_with fail
  refine (isNaN_any _ _).mono ?_
  rintro e w' ⟨rfl, rfl⟩
  have hge := bytesLess_bstr a b
  go_wp2_with fail
  go_returns
  exact ⟨rfl, rfl⟩

theorem slIsNaN_any (s : ByteArray) (w : World) : Calls Try.prog 35 #[.string s] w fun e w' => e = .returned (.bool false) ∧ w' = w := by
  go_enter Try.func35, Try.ntmps35
  have h : (s.toList == s.toList) = true := by simp
  go_wp2
  go_returns
  exact ⟨rfl, rfl⟩

theorem has_at {l : List Str} {s : Str} (h : inOrder l) (hlt : offs l s < l.length) : s ∈ l ↔ l[offs l s] = s := by
  obtain ⟨h1, h2⟩ := offs_split l s h
  constructor
  · intro hm
    obtain ⟨j, hj, e⟩ := List.getElem_of_mem hm
    rcases Nat.lt_trichotomy j (offs l s) with hx | hx | hx
    · have := h1 l[j] (by rw [List.mem_take_iff_getElem]; exact ⟨j, by omega, rfl⟩)
      rw [e, slt_irrefl] at this; cases this
    · subst hx; exact e
    · have h3 := List.pairwise_iff_getElem.1 h _ _ hlt hj hx
      rw [e] at h3
      have h4 := h2 l[offs l s] (by rw [List.mem_drop_iff_getElem]; exact ⟨0, by omega, by simp⟩)
      rw [h4] at h3; cases h3
  · intro e
    rw [← e]
    exact List.getElem_mem hlt
theorem has_end {l : List Str} {s : Str} (h : inOrder l) (hge : ¬ offs l s < l.length) : ¬ s ∈ l := by
  obtain ⟨h1, h2⟩ := offs_split l s h
  intro hm
  have := h1 s (by rw [List.take_of_length_le (by omega)]; exact hm)
  rw [slt_irrefl] at this; cases this

theorem search_any (A : Option Addr) (l : List Str) (s : Str) (n c : Nat) (w : World) (hr : Rd w 1 A n (strs l)) (hm : n ≤ 100000) (ho : inOrder l) :
    Calls Try.prog 27 #[.slice A n c, .string (bstr s)] w fun e w' => e = .returned (.tuple #[.int .i64 (offs l s), .bool (decide (s ∈ l))]) ∧ Below w.heap.size w w' := by
  have hl := rd_len hr
  subst hl
  go_enter Try.func27, Try.ntmps27
  go_wp2_with fail
  go_loopw [7, 8] (fun u v wr => ∃ i j : Nat, u = .int .i64 i ∧ v = .int .i64 j ∧ i ≤ j ∧ j ≤ l.length ∧ (∀ k (h : k < l.length), k < i → slt l[k] s = true) ∧ (∀ k (h : k < l.length), j ≤ k → slt l[k] s = false) ∧ Below w.heap.size w wr) (fun u v _ => (intOf v - intOf u).toNat)
  case atStart => exact ⟨0, l.length, rfl, rfl, by omega, by omega, by intro j _ h; omega, by intro j _ h; omega, by go_grown⟩
  case round =>
    obtain ⟨i, j, rfl, rfl, hij, hj, hs1, hs2, hb⟩ := hrel
    by_cases hlt : i < j
    · obtain ⟨h, e1, hh1, hh2⟩ : ∃ h : Nat, ((i : Int) + (j : Int)) / 2 = (h : Int) ∧ i ≤ h ∧ h < j := ⟨(i + j) / 2, by omega, by omega, by omega⟩
      obtain ⟨b, o, rfl, hc⟩ := (hr.below hb).str (k := h) (by omega)
      have hc1 := hc h (by omega)
      clear hc hr
      have i1 : (h : Int) < (l.length : Int) := by omega
      go_wp2_with fail
      refine (cmpLess_any _ _ _).mono ?_
      rintro e w' ⟨rfl, rfl⟩
      cases hd : slt l[h] s
      · go_wp2_with fail
        go_roundw
        case rel => exact ⟨i, h, rfl, rfl, hh1, by omega, hs1, by
          intro k hk hhk
          rcases Nat.lt_or_eq_of_le hhk with hx | hx
          · cases hks : slt l[k] s with
            | false => rfl
            | true => rw [slt_trans (List.pairwise_iff_getElem.1 ho _ _ (by omega) hk hx) hks] at hd; cases hd
          · subst hx; exact hd, hb⟩
        case measure => simp [intOf] <;> omega
      · go_wp2_with fail
        go_roundw
        case rel => exact ⟨h + 1, j, by go_num, rfl, by omega, hj, by
          intro k hk hhk
          rcases Nat.lt_succ_iff_lt_or_eq.1 hhk with hx | hx
          · exact slt_trans (List.pairwise_iff_getElem.1 ho _ _ hk (by omega) hx) hd
          · subst hx; exact hd, hs2, hb⟩
        case measure => simp [intOf] <;> omega
    · obtain rfl : i = j := by omega
      have ei : offs l s = i := offs_unique l s i hj (fun k hk => hs1 k (by omega) hk) (fun k hk hik => hs2 k hk hik)
      by_cases hi : i < l.length
      · obtain ⟨b, o, rfl, hc⟩ := (hr.below hb).str (k := i) hi
        have hc1 := hc i hi
        have hh := has_at (l := l) (s := s) ho (by omega)
        simp only [ei] at hh
        clear hc hr
        by_cases hq0 : l[i] = s
        · have hq : ((bstr l[i]).toList == (bstr s).toList) = true := by rw [beq_bstr]; simpa using hq0
          go_wp2_with fail
          go_returns
          exact ⟨by rw [ei, decide_eq_true (hh.2 hq0)]; rfl, hb⟩
        · have hq : ((bstr l[i]).toList == (bstr s).toList) = false := by rw [beq_bstr]; simpa using hq0
          go_wp2_with fail
          refine (slIsNaN_any _ _).mono ?_
          rintro e w' ⟨rfl, rfl⟩
          go_wp2_with fail
          go_returns
          exact ⟨by rw [ei, decide_eq_false (fun h => hq0 (hh.1 h))]; rfl, hb⟩
      · go_wp2_with fail
        go_returns
        exact ⟨by rw [ei, decide_eq_false (has_end ho (by omega))]; rfl, hb⟩

theorem has_any (A : Option Addr) (l : List Str) (s : Str) (n c : Nat) (w : World) (hr : Rd w 1 A n (strs l)) (hm : n ≤ 100000) (ho : inOrder l) :
    Calls Try.prog 12 #[.slice A n c, .string (bstr s)] w fun e w' => e = .returned (.bool (decide (s ∈ l))) ∧ Below w.heap.size w w' := by
  go_enter Try.func12, Try.ntmps12
  go_wp2_with fail
  refine (search_any A l s n c _ hr hm ho).mono ?_
  rintro e w' ⟨rfl, hb⟩
  go_wp2_with fail
  go_returns
  exact ⟨rfl, hb⟩

theorem offset_any (A : Option Addr) (l : List Str) (s : Str) (n c : Nat) (w : World) (hr : Rd w 1 A n (strs l)) (hm : n ≤ 100000) (ho : inOrder l) :
    Calls Try.prog 14 #[.slice A n c, .string (bstr s)] w fun e w' => e = .returned (.int .i64 (offs l s)) ∧ Below w.heap.size w w' := by
  go_enter Try.func14, Try.ntmps14
  go_wp2_with fail
  refine (search_any A l s n c _ hr hm ho).mono ?_
  rintro e w' ⟨rfl, hb⟩
  go_wp2_with fail
  go_returns
  exact ⟨rfl, hb⟩
end Go.Proofs.Ytapdalddacegbaa
