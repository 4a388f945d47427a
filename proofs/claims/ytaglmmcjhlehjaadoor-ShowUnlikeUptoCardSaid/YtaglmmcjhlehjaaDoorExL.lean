/-
  How many nodes an expression has at most, by the document's answers.
-/
import Derived.Test.YtaglmmcjhlehjaaDoorExB
namespace Go.Proofs.YtaglmmcjhlehjaaDoor
open Go.ChangeShapes Go.WideShapes Go.ChangeAt Go.RowKit Go.Sort
set_option linter.unusedVariables false
set_option linter.unusedSimpArgs false

set_option maxRecDepth 100000 in
set_option maxHeartbeats 2000000 in
theorem count_any (w0 : World) (t : Ex) (hIn : t.In w0) : ∀ (m : Int) (w : World), Below w0.heap.size w0 w →
    Calls Tryd.prog 8 #[.agg t.d.arr, .int .i64 m] w fun e w' => (∃ v : Int, e = .returned (.int .i64 v)) ∧ Below w.heap.size w w' := by
  induction hIn with
  | mk d l lab nam par cap sub ih =>
  intro m w hb
  have hlen : l.length = d.pn := by have := par.1; rw [flat_len Ex.cells_len] at this; omega
  have hb1 : Below w.heap.size w (w.alloc (.cells d.arr 25)) := (Below.refl _ _).alloc (Nat.le_refl _) _
  have hAt := ex_box w d
  have HA := Lib.hid (And.intro hAt (And.intro (below_then hb hb1) (And.intro lab (And.intro nam (And.intro cap hlen)))))
  have HI := Lib.hid (Ex.In.mk d l lab nam par cap sub)
  have HIH := Lib.hid ih
  have HB1 := Lib.hid hb1
  have c3 := hAt.c3
  have c4 := hAt.c4
  clear hb1 hAt lab nam par cap sub ih hb hlen
  go_enter Tryd.func8, Tryd.ntmps8
  show _
  unfold Ex.d
  go_wp2_with fail
  clear c3 c4
  generalize (w.alloc (.cells d.arr 25)) = w1 at *
  have HB0 := Lib.hid (Below.refl w1.heap.size w1)
  go_loopw [1, 5] (fun v i wr => ∃ (z : Int) (k : Nat), v = .int .i64 z ∧ i = .int .i64 k ∧ k ≤ d.ln ∧ Below w1.heap.size w1 wr) (fun _ i _ => d.ln - (intOf i).toNat)
  case atStart => exact ⟨_, 0, rfl, rfl, Nat.zero_le _, HB0.out⟩
  case round =>
    obtain ⟨z, k, rfl, rfl, hk, hbr⟩ := hrel
    have HR := Lib.hid hbr
    have cc := (HA.out.1.lower hbr).c5
    clear hbr
    by_cases hlt : k < d.ln
    · have hll : d.labels.length = d.ln := rd_len HA.out.2.2.1
      obtain ⟨b, o, hlA, hcel⟩ := ((HA.out.2.2.1.below HA.out.2.1).below HR.out).str (k := k) (by omega)
      have h1 := hcel k (by omega)
      rw [hlA] at cc
      obtain ⟨x, hx⟩ : ∃ x, (d.labels[k]'(by omega)) = x := ⟨_, rfl⟩
      rw [hx] at h1
      have hki : (k : Int) < (d.ln : Int) := by omega
      have hk4 : (k : Int) ≤ 9223372036854775806 := by have := HA.out.2.2.2.2.1.1.2.2; omega
      clear hcel hx hlA hll
      go_wp2_with fail
      go_roundw
      case rel => exact ⟨_, k + 1, rfl, by go_num, hlt, HR.out⟩
      case measure => simp [intOf] <;> omega
    · have hki : ¬ (k : Int) < (d.ln : Int) := by omega
      clear hlt
      go_wp2_with fail
      clear cc
      go_loopw [1, 6] (fun v i wr => ∃ (z : Int) (k : Nat), v = .int .i64 z ∧ i = .int .i64 k ∧ k ≤ d.nn ∧ Below w1.heap.size w1 wr) (fun _ i _ => d.nn - (intOf i).toNat)
      case atStart => exact ⟨_, 0, rfl, rfl, Nat.zero_le _, HR.out⟩
      case round =>
        clear HR
        obtain ⟨z, k, rfl, rfl, hk, hbr⟩ := hrel
        have HR := Lib.hid hbr
        have cc := (HA.out.1.lower hbr).c6
        clear hbr
        by_cases hlt : k < d.nn
        · have hll : d.names.length = d.nn := rd_len HA.out.2.2.2.1
          obtain ⟨b, o, hlA, hcel⟩ := ((HA.out.2.2.2.1.below HA.out.2.1).below HR.out).str (k := k) (by omega)
          have h1 := hcel k (by omega)
          rw [hlA] at cc
          obtain ⟨x, hx⟩ : ∃ x, (d.names[k]'(by omega)) = x := ⟨_, rfl⟩
          rw [hx] at h1
          have hki : (k : Int) < (d.nn : Int) := by omega
          have hk4 : (k : Int) ≤ 9223372036854775806 := by have := HA.out.2.2.2.2.1.2.1.2.2; omega
          clear hcel hx hlA hll
          go_wp2_with fail
          go_roundw
          case rel => exact ⟨_, k + 1, rfl, by go_num, hlt, HR.out⟩
          case measure => simp [intOf] <;> omega
        · have hki : ¬ (k : Int) < (d.nn : Int) := by omega
          clear hlt
          go_wp2_with fail
          clear cc
          go_loopw [1, 7] (fun v i wr => ∃ (z : Int) (k : Nat), v = .int .i64 z ∧ i = .int .i64 k ∧ k ≤ d.pn ∧ Below w1.heap.size w1 wr) (fun _ i _ => d.pn - (intOf i).toNat)
          case atStart => exact ⟨_, 0, rfl, rfl, Nat.zero_le _, HR.out⟩
          case round =>
            clear HR
            obtain ⟨z2, j, rfl, rfl, hj, hbr⟩ := hrel
            have HR := Lib.hid hbr
            have cc := (HA.out.1.lower hbr).c7
            clear hbr
            by_cases hlt2 : j < d.pn
            · by_cases hz : 0 ≤ z2
              · have hjl : j < l.length := by rw [HA.out.2.2.2.2.2]; exact hlt2
                obtain ⟨pb, po, hpA, hAtP⟩ := (HI.out.lower HA.out.2.1).part (k := j) hjl
                have hpA' : d.pA = some ⟨pb, po, none⟩ := hpA
                rw [hpA'] at cc
                have hAtM : (l[j]).d.At w1 pb (po + j * 8) := hAtP j hjl
                obtain ⟨x, hx⟩ : ∃ x, l[j] = x := ⟨_, rfl⟩
                rw [hx] at hAtM
                have hxm : x ∈ l := by rw [← hx]; exact List.getElem_mem hjl
                have HM := Lib.hid (fun z => HIH.out x hxm z wr (HA.out.2.1.trans (HR.out.mono HA.out.2.1.size)))
                obtain ⟨p0, p1, p2, p3, p4, p5, p6, p7⟩ := hAtM.lower HR.out
                have hji : (j : Int) < (d.pn : Int) := by omega
                have hj4 : (j : Int) ≤ 9223372036854775806 := by have := HA.out.2.2.2.2.1.2.2.1.2.2; omega
                clear hpA hpA' hAtP hAtM hx hxm hjl
                go_wp2_with fail
                refine (HM.out _).mono ?_
                rintro e w3 ⟨⟨v3, rfl⟩, hb3⟩
                have H3 := Lib.hid (below_then HR.out hb3)
                clear hb3 HM
                go_wp2_with fail
                go_roundw
                case rel => exact ⟨v3, j + 1, rfl, by go_num, hlt2, H3.out⟩
                case measure => simp [intOf] <;> omega
              · have hz2 : ¬ 0 ≤ z2 := hz
                have hji : (j : Int) < (d.pn : Int) := by omega
                go_wp2_with fail
                go_returns
                exact ⟨⟨z2, rfl⟩, below_then HB1.out HR.out⟩
            · have hji : ¬ (j : Int) < (d.pn : Int) := by omega
              go_wp2_with fail
              go_returns
              exact ⟨⟨z2, rfl⟩, below_then HB1.out HR.out⟩

theorem Few_any (w0 : World) (t : Ex) (hIn : t.In w0) (w : World) (hb : Below w0.heap.size w0 w) :
    Calls Tryd.prog 5 #[.agg t.d.arr] w fun e w' => (∃ v : Bool, e = .returned (.bool v)) ∧ Below w.heap.size w w' := by
  have hb1 : Below w.heap.size w (w.alloc (.cells t.d.arr 25)) := (Below.refl _ _).alloc (Nat.le_refl _) _
  have HC := Lib.hid (count_any w0 t hIn 20000 _ (below_then hb hb1))
  have HB := Lib.hid hb1
  clear hb1 hIn hb
  go_enter Tryd.func5, Tryd.ntmps5
  go_wp2_with fail
  refine HC.out.mono ?_
  rintro e w2 ⟨⟨v, rfl⟩, hb2⟩
  have H2 := Lib.hid (below_then HB.out hb2)
  clear hb2 HC
  go_wp2_with fail
  go_returns
  exact ⟨⟨_, rfl⟩, H2.out⟩
end Go.Proofs.YtaglmmcjhlehjaaDoor
