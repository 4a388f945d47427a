/-
  How many nodes a core expression has at most; whether a text is in a list: by the document's answers.
-/
import Derived.Test.YtpnihimoekkepaaCoP
namespace Go.Proofs.Ytpnihimoekkepaa
open Go.ChangeShapes Go.WideShapes Go.ChangeAt Go.RowKit Go.Sort
set_option linter.unusedVariables false
set_option linter.unusedSimpArgs false

set_option maxRecDepth 100000 in
set_option maxHeartbeats 2000000 in
theorem count_any (w0 : World) (t : Ex) (hIn : t.In w0) : ∀ (m : Int) (w : World), Below w0.heap.size w0 w →
    Calls Try.prog 15 #[.agg t.d.arr, .int .i64 m] w fun e w' => (∃ v : Int, e = .returned (.int .i64 v)) ∧ Below w.heap.size w w' := by
  induction hIn with
  | mk d l nam par cap sub ih =>
  intro m w hb
  have hlen : l.length = d.pn := by have := par.1; rw [flat_len Ex.cells_len] at this; omega
  have hb1 : Below w.heap.size w (w.alloc (.cells d.arr 25)) := (Below.refl _ _).alloc (Nat.le_refl _) _
  have hAt := ex_box w d
  have HA := Lib.hid (And.intro hAt (And.intro (below_then hb hb1) (And.intro nam (And.intro cap hlen))))
  have HI := Lib.hid (Ex.In.mk d l nam par cap sub)
  have HIH := Lib.hid ih
  have HB1 := Lib.hid hb1
  have c2 := hAt.c2
  have c3 := hAt.c3
  clear hb1 hAt nam par cap sub ih hb hlen
  go_enter Try.func15, Try.ntmps15
  show _
  unfold Ex.d
  go_wp2_with fail
  clear c2 c3
  generalize (w.alloc (.cells d.arr 25)) = w1 at *
  have HB0 := Lib.hid (Below.refl w1.heap.size w1)
  go_loopw [1, 5] (fun v i wr => ∃ (z : Int) (k : Nat), v = .int .i64 z ∧ i = .int .i64 k ∧ k ≤ d.nn ∧ Below w1.heap.size w1 wr) (fun _ i _ => d.nn - (intOf i).toNat)
  case atStart => exact ⟨_, 0, rfl, rfl, Nat.zero_le _, HB0.out⟩
  case round =>
    obtain ⟨z, k, rfl, rfl, hk, hbr⟩ := hrel
    have HR := Lib.hid hbr
    have cc := (HA.out.1.lower hbr).c4
    clear hbr
    by_cases hlt : k < d.nn
    · have hll : d.names.length = d.nn := rd_len HA.out.2.2.1
      obtain ⟨b, o, hlA, hcel⟩ := ((HA.out.2.2.1.below HA.out.2.1).below HR.out).str (k := k) (by omega)
      have h1 := hcel k (by omega)
      rw [hlA] at cc
      obtain ⟨x, hx⟩ : ∃ x, (d.names[k]'(by omega)) = x := ⟨_, rfl⟩
      rw [hx] at h1
      have hki : (k : Int) < (d.nn : Int) := by omega
      have hk4 : (k : Int) ≤ 4000000 := by have := HA.out.2.2.2.1.1.2.2; omega
      clear hcel hx hlA hll
      go_wp2_with fail
      go_roundw
      case rel => exact ⟨_, k + 1, rfl, by go_num, hlt, HR.out⟩
      case measure => simp [intOf] <;> omega
    · have hki : ¬ (k : Int) < (d.nn : Int) := by omega
      clear hlt
      go_wp2_with fail
      clear cc
      go_loopw [1, 6] (fun v i wr => ∃ (z : Int) (k : Nat), v = .int .i64 z ∧ i = .int .i64 k ∧ k ≤ d.pn ∧ Below w1.heap.size w1 wr) (fun _ i _ => d.pn - (intOf i).toNat)
      case atStart => exact ⟨_, 0, rfl, rfl, Nat.zero_le _, HR.out⟩
      case round =>
        clear HR
        obtain ⟨z2, j, rfl, rfl, hj, hbr⟩ := hrel
        have HR := Lib.hid hbr
        have cc := (HA.out.1.lower hbr).c5
        clear hbr
        by_cases hlt2 : j < d.pn
        · by_cases hz : 0 ≤ z2
          · have hjl : j < l.length := by rw [HA.out.2.2.2.2]; exact hlt2
            obtain ⟨pb, po, hpA, hAtP⟩ := (HI.out.lower HA.out.2.1).part (k := j) hjl
            have hpA' : d.pA = some ⟨pb, po, none⟩ := hpA
            rw [hpA'] at cc
            have hAtM : (l[j]).d.At w1 pb (po + j * 6) := hAtP j hjl
            obtain ⟨x, hx⟩ : ∃ x, l[j] = x := ⟨_, rfl⟩
            rw [hx] at hAtM
            have hxm : x ∈ l := by rw [← hx]; exact List.getElem_mem hjl
            have HM := Lib.hid (fun z => HIH.out x hxm z wr (HA.out.2.1.trans (HR.out.mono HA.out.2.1.size)))
            obtain ⟨p0, p1, p2, p3, p4, p5⟩ := hAtM.lower HR.out
            have hji : (j : Int) < (d.pn : Int) := by omega
            have hj4 : (j : Int) ≤ 4000000 := by have := HA.out.2.2.2.1.2.1.2.2; omega
            clear hpA hpA' hAtP hAtM hx hxm hjl
            go_wp2_with fail
            refine (HM.out _).mono ?_
            rintro e w3 ⟨⟨v3, rfl⟩, hb3⟩
            have H3 := Lib.hid (below_then HR.out hb3)
            clear hb3 HM
            go_wp2_with fail
            go_roundw
            case rel => exact ⟨v3, j + 1, rfl, by go_num, hlt2, H3.out⟩
            case measure => simp [intOf] <;> omega
          · have hz2 : ¬ 0 ≤ z2 := hz
            have hji : (j : Int) < (d.pn : Int) := by omega
            go_wp2_with fail
            go_returns
            exact ⟨⟨z2, rfl⟩, below_then HB1.out HR.out⟩
        · have hji : ¬ (j : Int) < (d.pn : Int) := by omega
          go_wp2_with fail
          go_returns
          exact ⟨⟨z2, rfl⟩, below_then HB1.out HR.out⟩

theorem Few_any (w0 : World) (t : Ex) (hIn : t.In w0) (w : World) (hb : Below w0.heap.size w0 w) :
    Calls Try.prog 6 #[.agg t.d.arr] w fun e w' => (∃ v : Bool, e = .returned (.bool v)) ∧ Below w.heap.size w w' := by
  have hb1 : Below w.heap.size w (w.alloc (.cells t.d.arr 25)) := (Below.refl _ _).alloc (Nat.le_refl _) _
  have HC := Lib.hid (count_any w0 t hIn 5000 _ (below_then hb hb1))
  have HB := Lib.hid hb1
  have HAt := ex_box w t.d
  obtain ⟨c0, c1, c2, c3, c4, c5⟩ := HAt
  clear hb1 hIn hb
  go_enter Try.func6, Try.ntmps6
  go_wp2_with fail
  refine HC.out.mono ?_
  rintro e w2 ⟨⟨v, rfl⟩, hb2⟩
  have H2 := Lib.hid (below_then HB.out hb2)
  clear hb2 HC c0 c1 c2 c3 c4 c5
  go_wp2_with fail
  go_returns
  exact ⟨⟨_, rfl⟩, H2.out⟩

set_option maxRecDepth 100000 in
set_option maxHeartbeats 1000000 in
theorem refHas_any (A : Option Addr) (l : List Str) (s : Str) (n c : Nat) (w : World) (hr : Rd w 1 A n (strs l)) (hm : n ≤ 4000000) :
    Calls Try.prog 14 #[.slice A n c, .string (bstr s)] w fun e w' => e = .returned (.bool (decide (s ∈ l))) ∧ Below w.heap.size w w' := by
  have hl := rd_len hr
  have HR := Lib.hid (And.intro hr (And.intro hl hm))
  clear hr hl hm
  go_enter Try.func14, Try.ntmps14
  go_wp2_with fail
  go_loopw [5] (fun i wr => ∃ k : Nat, i = .int .i64 k ∧ k ≤ n ∧ s ∉ l.take k ∧ Below w.heap.size w wr) (fun i _ => n - (intOf i).toNat)
  case atStart => exact ⟨0, rfl, Nat.zero_le _, by simp, Below.refl _ _⟩
  case round =>
    obtain ⟨k, rfl, hk, hn, hb⟩ := hrel
    have HB := Lib.hid (And.intro hn hb)
    by_cases hlt : k < n
    · have hkl : k < l.length := by rw [HR.out.2.1]; exact hlt
      obtain ⟨b, o, rfl, hc⟩ := (HR.out.1.below hb).str hkl
      have h1 := hc k hkl
      have HTK := Lib.hid (show l.take (k + 1) = l.take k ++ [l[k]] from List.take_succ_eq_append_getElem hkl)
      have HMM := Lib.hid (show l[k] ∈ l from List.getElem_mem hkl)
      obtain ⟨x, hx⟩ : ∃ x, l[k] = x := ⟨_, rfl⟩
      rw [hx] at h1 HTK HMM
      have hki : (k : Int) < (n : Int) := by omega
      have hk0 : (0 : Int) ≤ (k : Int) := by omega
      have hk4 : (k : Int) ≤ 4000000 := by have := HR.out.2.2; omega
      clear hc hx hn hb hkl
      by_cases e1 : x = s
      · have g1 : ((bstr x).toList == (bstr s).toList) = true := by rw [beq_bstr]; simpa using e1
        have HD := Lib.hid (show decide (s ∈ l) = true by rw [← e1]; exact decide_eq_true HMM.out)
        clear e1
        go_wp2_with fail
        go_returns
        exact ⟨by rw [HD.out]; rfl, HB.out.2⟩
      · have g1 : ((bstr x).toList == (bstr s).toList) = false := by rw [beq_bstr]; simpa using e1
        have HD := Lib.hid (show s ∉ l.take (k + 1) by
          rw [HTK.out]
          intro hm
          rcases List.mem_append.1 hm with q | q
          · exact HB.out.1 q
          · rw [List.mem_singleton] at q; exact e1 q.symm)
        clear e1
        go_wp2_with fail
        go_roundw
        case rel => exact ⟨k + 1, by go_num, hlt, HD.out, HB.out.2⟩
        case measure => simp [intOf] <;> omega
    · have hki : ¬ (k : Int) < (n : Int) := by omega
      have hmm : l.take k = l := List.take_of_length_le (by rw [HR.out.2.1]; omega)
      have HD := Lib.hid (show decide (s ∈ l) = false by rw [hmm] at hn; exact decide_eq_false hn)
      clear hn hb
      go_wp2_with fail
      go_returns
      exact ⟨by rw [HD.out]; rfl, HB.out.2⟩
end Go.Proofs.Ytpnihimoekkepaa
