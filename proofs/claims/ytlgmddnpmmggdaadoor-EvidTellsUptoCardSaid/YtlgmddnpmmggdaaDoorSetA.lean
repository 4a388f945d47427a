/-
  Contracts of the functions that read a list of labels, the code's and the document's.
-/
import Derived.Test.YtlgmddnpmmggdaaDoorLabelMath
import Derived.Test.YtlgmddnpmmggdaaDoorMem
namespace Go.Proofs.YtlgmddnpmmggdaaDoor
open Go.ChangeShapes Go.WideShapes Go.ChangeAt Go.RowKit
set_option linter.unusedVariables false

theorem elStr : ElemTy Tryd.prog 23 9 (.string ByteArray.empty) 1 16 :=
  ⟨Tryd.underlying23, by kernel_rfl, rfl, by omega, by omega⟩

/-- The cell of a label that lies in a list. -/
theorem Rd.str {w : World} {A : Option Addr} {n : Nat} {l : List Str} (h : Rd w 1 A n (strs l)) {k : Nat} (hk : k < l.length) : ∃ b o, A = some ⟨b, o, none⟩ ∧ ∀ j (hj : j < l.length), w.cell? ⟨b, o + j, none⟩ = some (.string (bstr l[j])) := by
  obtain ⟨b, o, rfl, hb, hh⟩ := h.base (by rw [strs_length]; omega)
  exact ⟨b, o, rfl, fun j hj => hh j _ (strs_at l j hj)⟩
theorem rd_len {w : World} {A : Option Addr} {n : Nat} {l : List Str} (h : Rd w 1 A n (strs l)) : l.length = n := by have := h.1; rw [strs_length] at this; omega

theorem isNaN_any (s : ByteArray) (w : World) : Calls Tryd.prog 50 #[.string s] w fun e w' => e = .returned (.bool false) ∧ w' = w := by
  go_enter Tryd.func50, Tryd.ntmps50
  have h : (s.toList == s.toList) = true := by simp
  go_wp2
  go_returns
  exact ⟨rfl, rfl⟩

theorem is_any (A : Option Addr) (l : List Str) (n c : Nat) (w : World) (hr : Rd w 1 A n (strs l)) (hm : n ≤ maxLen) :
    Calls Tryd.prog 47 #[.slice A n c] w fun e w' => e = .returned (.bool (isB l)) ∧ Below w.heap.size w w' := by
  have hl := rd_len hr
  subst hl
  unfold maxLen at hm
  go_enter Tryd.func47, Tryd.ntmps47
  go_wp2
  go_loopw [3] (fun i wr => ∃ k : Nat, i = .int .i64 ((k : Int) + 1) ∧ (k = 0 ∨ k < l.length) ∧ (∀ j (h : j + 1 < l.length), j < k → slt l[j] l[j + 1] = true) ∧ Below w.heap.size w wr) (fun i _ => l.length - (intOf i).toNat)
  case atStart => exact ⟨0, rfl, .inl rfl, by intro j _ h; omega, by go_grown⟩
  case round =>
    obtain ⟨k, rfl, hk, hs, hb⟩ := hrel
    by_cases hlt : k + 1 < l.length
    · obtain ⟨b, o, rfl, hc⟩ := (hr.below hb).str (k := k) (by omega)
      have h1 := hc k (by omega)
      have h2 := hc (k + 1) (by omega)
      clear hc hr
      have hge := bytesLess_bstr l[k] l[k+1]
      cases hc : slt l[k] l[k + 1]
      · rw [hc] at hge
        go_wp2
        have i1 : (k : Int) < (l.length : Int) := by omega
        have i2 : (k : Int) + 1 < (l.length : Int) := by omega
        have i3 : (0 : Int) ≤ (k : Int) + 1 := by omega
        have i4 : ((k : Int) + 1).toNat = k + 1 := by omega
        have hwr : IntKind.i64.wrap (k : Int) = (k : Int) := by rw [IntKind.wrap_i64]; omega
        go_quiet (fail)
        clear i1 i2 i3 i4 hwr
        go_wp2
        go_returns
        exact ⟨by rw [isB_false hlt hc]; rfl, below_drewN hb _⟩
      · rw [hc] at hge
        go_wp2
        have i1 : (k : Int) < (l.length : Int) := by omega
        have i2 : (k : Int) + 1 < (l.length : Int) := by omega
        have i3 : (0 : Int) ≤ (k : Int) + 1 := by omega
        have i4 : ((k : Int) + 1).toNat = k + 1 := by omega
        have hwr : IntKind.i64.wrap (k : Int) = (k : Int) := by rw [IntKind.wrap_i64]; omega
        go_quiet (fail)
        clear i1 i2 i3 i4 hwr
        go_wp2
        go_roundw
        case rel => exact ⟨k + 1, by go_num, .inr (by omega), by intro j hj hjk; rcases Nat.lt_succ_iff_lt_or_eq.1 hjk with h | h; exact hs j hj h; subst h; exact hc, below_drewN hb _⟩
        case measure => simp [intOf] <;> omega
    · go_wp2
      go_returns
      exact ⟨by rw [(isB_iff l).2 (fun i hi => hs i hi (by omega))]; rfl, hb⟩

theorem refIs_any (A : Option Addr) (l : List Str) (n c : Nat) (w : World) (hr : Rd w 1 A n (strs l)) (hm : n ≤ maxLen) :
    Calls Tryd.prog 33 #[.slice A n c] w fun e w' => e = .returned (.bool (isB l)) ∧ Below w.heap.size w w' := by
  have hl := rd_len hr
  subst hl
  unfold maxLen at hm
  go_enter Tryd.func33, Tryd.ntmps33
  go_wp2
  go_loopw [3] (fun i wr => ∃ k : Nat, i = .int .i64 ((k : Int) + 1) ∧ (k = 0 ∨ k < l.length) ∧ (∀ j (h : j + 1 < l.length), j < k → slt l[j] l[j + 1] = true) ∧ Below w.heap.size w wr) (fun i _ => l.length - (intOf i).toNat)
  case atStart => exact ⟨0, rfl, .inl rfl, by intro j _ h; omega, by go_grown⟩
  case round =>
    obtain ⟨k, rfl, hk, hs, hb⟩ := hrel
    by_cases hlt : k + 1 < l.length
    · obtain ⟨b, o, rfl, hc⟩ := (hr.below hb).str (k := k) (by omega)
      have h1 := hc k (by omega)
      have h2 := hc (k + 1) (by omega)
      clear hc hr
      have hge := bytesLess_bstr l[k+1] l[k]
      have hq := beq_bstr l[k+1] l[k]
      cases hc : slt l[k] l[k + 1]
      · cases hd : slt l[k + 1] l[k]
        · rw [decide_eq_true (slt_tri hd hc)] at hq
          rw [hd] at hge
          go_wp2
          have i1 : (k : Int) < (l.length : Int) := by omega
          have i2 : (k : Int) + 1 < (l.length : Int) := by omega
          have i3 : (0 : Int) ≤ (k : Int) + 1 := by omega
          have i4 : ((k : Int) + 1).toNat = k + 1 := by omega
          have hwr : IntKind.i64.wrap (k : Int) = (k : Int) := by rw [IntKind.wrap_i64]; omega
          go_quiet (fail)
          clear i1 i2 i3 i4 hwr
          go_wp2
          go_returns
          exact ⟨by rw [isB_false hlt hc]; rfl, below_drewN hb _⟩
        · rw [hd] at hge
          clear hq
          go_wp2
          have i1 : (k : Int) < (l.length : Int) := by omega
          have i2 : (k : Int) + 1 < (l.length : Int) := by omega
          have i3 : (0 : Int) ≤ (k : Int) + 1 := by omega
          have i4 : ((k : Int) + 1).toNat = k + 1 := by omega
          have hwr : IntKind.i64.wrap (k : Int) = (k : Int) := by rw [IntKind.wrap_i64]; omega
          go_quiet (fail)
          clear i1 i2 i3 i4 hwr
          go_wp2
          go_returns
          exact ⟨by rw [isB_false hlt hc]; rfl, below_drewN hb _⟩
      · rw [slt_asymm hc] at hge
        rw [decide_eq_false (fun e => slt_ne hc e.symm)] at hq
        go_wp2
        have i1 : (k : Int) < (l.length : Int) := by omega
        have i2 : (k : Int) + 1 < (l.length : Int) := by omega
        have i3 : (0 : Int) ≤ (k : Int) + 1 := by omega
        have i4 : ((k : Int) + 1).toNat = k + 1 := by omega
        have hwr : IntKind.i64.wrap (k : Int) = (k : Int) := by rw [IntKind.wrap_i64]; omega
        go_quiet (fail)
        clear i1 i2 i3 i4 hwr
        go_wp2
        go_roundw
        case rel => exact ⟨k + 1, by go_num, .inr (by omega), by intro j hj hjk; rcases Nat.lt_succ_iff_lt_or_eq.1 hjk with h | h; exact hs j hj h; subst h; exact hc, below_drewN hb _⟩
        case measure => simp [intOf] <;> omega
    · go_wp2
      go_returns
      exact ⟨by rw [(isB_iff l).2 (fun i hi => hs i hi (by omega))]; rfl, hb⟩

theorem refHas_any (A : Option Addr) (l : List Str) (s : Str) (n c : Nat) (w : World) (hr : Rd w 1 A n (strs l)) (hm : n ≤ maxLen) :
    Calls Tryd.prog 30 #[.slice A n c, .string (bstr s)] w fun e w' => e = .returned (.bool (decide (s ∈ l))) ∧ Below w.heap.size w w' := by
  have hl := rd_len hr
  subst hl
  unfold maxLen at hm
  go_enter Tryd.func30, Tryd.ntmps30
  go_wp2
  go_loopw [5] (fun i wr => ∃ k : Nat, i = .int .i64 k ∧ k ≤ l.length ∧ (∀ j (h : j < l.length), j < k → l[j] ≠ s) ∧ Below w.heap.size w wr) (fun i _ => l.length - (intOf i).toNat)
  case atStart => exact ⟨0, rfl, by omega, by intro j _ h; omega, by go_grown⟩
  case round =>
    obtain ⟨k, rfl, hk, hs, hb⟩ := hrel
    by_cases hlt : k < l.length
    · obtain ⟨b, o, rfl, hc⟩ := (hr.below hb).str (k := k) hlt
      have h1 := hc k hlt
      clear hc hr
      by_cases he : l[k] = s
      · have hq : ((bstr l[k]).toList == (bstr s).toList) = true := by rw [beq_bstr]; simpa using he
        go_wp2
        go_returns
        refine ⟨?_, hb⟩
        rw [decide_eq_true (show s ∈ l from by rw [← he]; exact List.getElem_mem hlt)]; rfl
      · have hq : ((bstr l[k]).toList == (bstr s).toList) = false := by rw [beq_bstr]; simpa using he
        go_wp2
        go_roundw
        case rel => exact ⟨k + 1, by go_num, by omega, by intro j hj hjk; rcases Nat.lt_succ_iff_lt_or_eq.1 hjk with h | h; exact hs j hj h; subst h; exact he, hb⟩
        case measure => simp [intOf] <;> omega
    · go_wp2
      go_returns
      refine ⟨?_, hb⟩
      rw [decide_eq_false (show ¬ s ∈ l from fun hm => by obtain ⟨j, hj, e⟩ := List.getElem_of_mem hm; exact hs j hj (by omega) e)]; rfl

theorem offs_take_succ (l : List Str) (s : Str) (k : Nat) (h : k < l.length) : offs (l.take (k + 1)) s = offs (l.take k) s + (if slt l[k] s = true then 1 else 0) := by
  unfold offs
  rw [List.take_succ_eq_append_getElem h, List.countP_append]
  simp [List.countP_cons]

theorem refOffset_any (A : Option Addr) (l : List Str) (s : Str) (n c : Nat) (w : World) (hr : Rd w 1 A n (strs l)) (hm : n ≤ maxLen) :
    Calls Tryd.prog 9 #[.slice A n c, .string (bstr s)] w fun e w' => e = .returned (.int .i64 (offs l s)) ∧ Below w.heap.size w w' := by
  have hl := rd_len hr
  subst hl
  unfold maxLen at hm
  go_enter Tryd.func9, Tryd.ntmps9
  go_wp2
  go_loopw [5, 6] (fun m i wr => ∃ k q : Nat, m = .int .i64 q ∧ i = .int .i64 k ∧ k ≤ l.length ∧ q = offs (l.take k) s ∧ Below w.heap.size w wr) (fun _ i _ => l.length - (intOf i).toNat)
  case atStart => exact ⟨0, 0, rfl, rfl, by omega, by simp [offs], by go_grown⟩
  case round =>
    obtain ⟨k, q, rfl, rfl, hk, hq, hb⟩ := hrel
    have hq2 : q ≤ k := by rw [hq]; refine Nat.le_trans (offs_le _ _) ?_; exact List.length_take_le _ _
    by_cases hlt : k < l.length
    · obtain ⟨b, o, rfl, hc⟩ := (hr.below hb).str (k := k) hlt
      have h1 := hc k hlt
      clear hc hr
      have hge := bytesLess_bstr l[k] s
      have hst := offs_take_succ l s k hlt
      rw [← hq] at hst
      have HQ := Lib.hid hq
      clear hq
      cases hc : slt l[k] s
      · rw [hc] at hge hst
        have HS := Lib.hid hst
        clear hst
        go_wp2
        go_roundw
        case rel => exact ⟨k + 1, q, rfl, by go_num, by omega, by simpa using HS.out.symm, hb⟩
        case measure => simp [intOf] <;> omega
      · rw [hc] at hge hst
        have HS := Lib.hid hst
        clear hst
        go_wp2
        go_roundw
        case rel => exact ⟨k + 1, q + 1, by go_num, by go_num, by omega, by simpa using HS.out.symm, hb⟩
        case measure => simp [intOf] <;> omega
    · go_wp2
      go_returns
      obtain rfl : k = l.length := by omega
      rw [List.take_length] at hq
      exact ⟨by rw [← hq]; rfl, hb⟩
end Go.Proofs.YtlgmddnpmmggdaaDoor
