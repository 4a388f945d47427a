/-
  Whether one has no name; the names that are free, in order: by the document's answer.
-/
import Derived.Test.YtpnihimoekkepaaCoBD
namespace Go.Proofs.Ytpnihimoekkepaa
open Go.ChangeShapes Go.WideShapes Go.ChangeAt Go.RowKit Go.Sort
set_option linter.unusedVariables false
set_option linter.unusedSimpArgs false

set_option maxRecDepth 100000 in
set_option maxHeartbeats 1000000 in
theorem nameless_any (w0 : World) (t : Ex) (hI : t.In w0) : ∀ (W : World), Below w0.heap.size w0 W →
    Calls Try.prog 20 #[.agg t.d.arr] W fun e w' => e = .returned (.bool t.nlB) ∧ Below W.heap.size W w' := by
  induction hI with
  | mk d l nam par cap sub ih =>
  intro W hb
  have hb1 : Below W.heap.size W (W.alloc (.cells d.arr 25)) := (Below.refl _ _).alloc (Nat.le_refl _) _
  have HB1 := Lib.hid hb1
  have hI : (Ex.mk d l).In w0 := .mk d l nam par cap sub
  have HE := Lib.hid (fun V (h : Below (W.alloc (.cells d.arr 25)).heap.size (W.alloc (.cells d.arr 25)) V) => (ex_box W d).lower h)
  have HB := Lib.hid (below_then hb hb1)
  have HI := Lib.hid hI
  have HX := Lib.hid ih
  have HL := Lib.hid (show l.length = d.pn from hI.len)
  have HCP := Lib.hid cap
  obtain ⟨c0, c1, c2, c3, c4, c5⟩ := ex_box W d
  clear nam par cap sub ih hb hb1 hI
  show Calls Try.prog 20 #[.agg d.arr] W _
  have key : ∀ (x : Bool), (decide (d.kind = 7) && decide (d.s = [])) = x → (x = true ∧ d.kind = 7 ∧ d.s = []) ∨ (x = false ∧ d.kind = 7 ∧ d.s ≠ []) ∨ (x = false ∧ d.kind ≠ 7) := by
    intro x hx
    by_cases h1 : d.kind = 7
    · by_cases h2 : d.s = []
      · left; rw [decide_eq_true h1, decide_eq_true h2] at hx; exact ⟨hx.symm, h1, h2⟩
      · right; left; rw [decide_eq_true h1, decide_eq_false h2] at hx; exact ⟨hx.symm, h1, h2⟩
    · right; right; rw [decide_eq_false h1] at hx; exact ⟨hx.symm, h1⟩
  obtain ⟨x, hx⟩ : ∃ x, (decide (d.kind = 7) && decide (d.s = [])) = x := ⟨_, rfl⟩
  have HN : RowKit.Hid ((Ex.mk d l).nlB = (x || nlL l)) := Lib.hid (by unfold Ex.nlB; rw [hx])
  rw [HN.out]
  rcases key x hx with ⟨rfl, h1, h2⟩ | h3
  · have q7 : (d.kind == 7) = true := by simpa using h1
    have qs : (bstr d.s).toList.isEmpty = true := by rw [h2]; exact str_nil
    clear key hx h1 h2
    go_enter Try.func20, Try.ntmps20
    go_wp2_with fail
    go_returns
    exact ⟨rfl, HB1.out⟩
  · obtain rfl : x = false := by rcases h3 with h | h; exact h.1; exact h.1
    have h4 : ((d.kind == 7) = true ∧ (bstr d.s).toList.isEmpty = false) ∨ (d.kind == 7) = false := by
      rcases h3 with ⟨_, h1, h2⟩ | ⟨_, h1⟩
      · left
        exact ⟨by simpa using h1, str_empty h2⟩
      · right; simpa using h1
    clear key hx h3
    rw [Bool.false_or]
    rcases h4 with ⟨q7, qs⟩ | q7
    all_goals
      go_enter Try.func20, Try.ntmps20
      go_wp2_with fail
      clear c0 c1 c2 c3 c4 c5
      generalize (W.alloc (.cells d.arr 25)) = w1 at *
      go_loopw [3] (fun i wr => ∃ k : Nat, i = .int .i64 k ∧ k ≤ d.pn ∧ nlL (l.take k) = false ∧ Below w1.heap.size w1 wr) (fun i _ => d.pn - (intOf i).toNat)
      case atStart => exact ⟨0, rfl, Nat.zero_le _, rfl, Below.refl _ _⟩
      case round =>
        obtain ⟨k, rfl, hk, hn, hbr⟩ := hrel
        have HR := Lib.hid (And.intro hn hbr)
        clear hn hbr
        have c5 := (HE.out _ HR.out.2).c5
        by_cases hlt : k < d.pn
        · have hkl : k < l.length := by rw [HL.out]; exact hlt
          obtain ⟨pb, po, hpA, hAtP⟩ := HI.out.part (k := k) hkl
          have hpA' : d.pA = some ⟨pb, po, none⟩ := hpA
          rw [hpA'] at c5
          have HM := Lib.hid (HX.out l[k] (List.getElem_mem hkl) wr (below_then HB.out HR.out.2))
          have hAtM : (l[k]).d.At w0 pb (po + k * 6) := hAtP k hkl
          have HTK := Lib.hid (show l.take (k + 1) = l.take k ++ [l[k]] from List.take_succ_eq_append_getElem hkl)
          obtain ⟨y, hy⟩ : ∃ y, l[k] = y := ⟨_, rfl⟩
          rw [hy] at HM HTK hAtM
          obtain ⟨p0, p1, p2, p3, p4, p5⟩ := hAtM.lower (below_then HB.out HR.out.2)
          obtain ⟨u, hu⟩ : ∃ u, y.nlB = u := ⟨_, rfl⟩
          rw [hu] at HM
          have HTL := Lib.hid (show nlL (l.take (k + 1)) = u by rw [HTK.out, nlL_app, HR.out.1, Bool.false_or]; simp only [nlL]; rw [hu, Bool.or_false])
          have hki : (k : Int) < (d.pn : Int) := by omega
          have hk0 : (0 : Int) ≤ (k : Int) := by omega
          have hk4 : (k : Int) ≤ 4000000 := by have := HCP.out.2.1.2.2; omega
          clear hpA hpA' hAtP hAtM hkl hy hu
          go_wp2_with fail
          refine HM.out.mono ?_
          rintro e w4 ⟨rfl, hb4⟩
          have H4 := Lib.hid (below_then HR.out.2 hb4)
          clear hb4 HM p0 p1 p2 p3 p4 p5
          cases u with
          | true =>
            go_wp2_with fail
            go_returns
            exact ⟨by rw [nlL_take HTL.out]; rfl, below_then HB1.out H4.out⟩
          | false =>
            go_wp2_with fail
            go_roundw
            case rel => exact ⟨k + 1, by go_num, hlt, HTL.out, H4.out⟩
            case measure => simp [intOf] <;> omega
        · have hki : ¬ (k : Int) < (d.pn : Int) := by omega
          have hmm : l.take k = l := List.take_of_length_le (by rw [HL.out]; omega)
          go_wp2_with fail
          go_returns
          exact ⟨by rw [← HR.out.1, hmm]; rfl, below_then HB1.out HR.out.2⟩

/-- The names that are free, in order, none twice. -/
def FreR (t : Ex) (w : World) (e : Ending) (w' : World) : Prop := ∃ A c ss, e = .returned (.slice A ss.length c) ∧ w'.ownsRow w.heap.size 9 1 (.slice A ss.length c) ss.length (strs ss) ∧ inOrder ss ∧ (∀ x, x ∈ ss ↔ t.freeB x = true) ∧ ss.length ≤ t.nodes ∧ Below w.heap.size w w'
theorem refFree_any (w0 : World) (t : Ex) (hIn : t.In w0) (w : World) (hb : Below w0.heap.size w0 w) (hnd : t.nodes ≤ 4000000) :
    Calls Try.prog 21 #[.agg t.d.arr] w (FreR t w) := by
  have hb1 : Below w.heap.size w (w.alloc (.cells t.d.arr 25)) := (Below.refl _ _).alloc (Nat.le_refl _) _
  have HF := Lib.hid (rfree_any w0 t hIn _ (below_then hb hb1) hnd)
  have HB := Lib.hid hb1
  obtain ⟨c0, c1, c2, c3, c4, c5⟩ := ex_box w t.d
  have HND := Lib.hid hnd
  clear hb1 hIn hb hnd
  go_enter Try.func21, Try.ntmps21
  go_wp2_with fail
  refine HF.out.mono ?_
  rintro e w2 ⟨v, ss, rfl, hown, hm, hl, hb2⟩
  obtain ⟨A, c, rfl, _⟩ := own_cap hown
  have HO := Lib.hid (refOf_any A ss ss.length c w2 (Rd.of_own hown) (Nat.le_trans hl HND.out))
  have H2 := Lib.hid (below_then HB.out hb2)
  have HM := Lib.hid (And.intro hm hl)
  clear hb2 HF hown hm hl c0 c1 c2 c3 c4 c5
  go_wp2_with fail
  refine HO.out.mono ?_
  rintro e w3 ⟨v, rfl, hown, hb3⟩
  obtain ⟨A3, c3, rfl, _⟩ := own_cap hown
  have H3 := Lib.hid (below_then H2.out hb3)
  have HW := Lib.hid (own_mono hown H2.out.size)
  clear hb3 hown HO
  go_wp2_with fail
  go_returns
  exact ⟨A3, c3, setOf ss, rfl, HW.out, setOf_order ss, fun x => (setOf_mem ss x).trans (HM.out.1 x), Nat.le_trans (setOf_length_le ss) HM.out.2, H3.out⟩

end Go.Proofs.Ytpnihimoekkepaa
