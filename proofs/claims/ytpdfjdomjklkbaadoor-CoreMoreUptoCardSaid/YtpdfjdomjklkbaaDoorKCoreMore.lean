/-
  CoreMore holds where what it reads is of bulk at most 1048576: the law returns true, and each argument reads afterwards as it read before; the tied variables read as the program's text lays them. No other condition.
  Core expressions that came in, opened under the bound on all that they hold; what the tied variables hold; from a walk to a statement of the second form.
  From a walk to a statement: a law that returns true and turns nothing that was there meets its row.
  Texts, and lists of texts, that came in.
  Arguments opened: a slice that came in, whatever its elements.
  The law: with more fuel, if it ended, it ends the same; if it didn't, the trace goes on.
-/
import Derived.Test.YtpdfjdomjklkbaaDoorK11
import Derived.Test.YtpdfjdomjklkbaaDoorK00
import Derived.Deep.Slices
import Derived.Deep.Fields
import Derived.Lib.SmallJoins
import Derived.ChangeMaps5
import Derived.Test.YtpdfjdomjklkbaaDoorRows
import Derived.WalkKit
import Derived.ProofKit
import Derived.OpenShut
import Derived.ShutString
import Derived.ChangeOld
import Derived.Below
import Derived.Carry
import Derived.ChangeSame
import Derived.ChangeVars
import Derived.Deep.DeepHandedRow
import Derived.JoinedOf
import Derived.LaidHandle
import Derived.LaidLaws
import Derived.LaidMore
import Derived.Lib.LaidTab
import Derived.Shelf.Strconv.Itoa1
import Derived.Stop.Joined
import Derived.Stop.LaidErr
import Derived.Test.YtpdfjdomjklkbaaDoorCards
import Derived.Test.YtpdfjdomjklkbaaDoorTie
import Derived.SevenTiedAt
namespace Go.Proofs.YtpdfjdomjklkbaaDoor
open Go.ChangeShapes Go.WideShapes Go.ChangeAt Go.RowKit Go.Sort
set_option linter.unusedVariables false
set_option linter.unusedSimpArgs false

/-- What two runs are to each other. -/
theorem two_runs {input : List Str} {f more : Nat} {e : Ex} {m1 m2 : Nat} {s1 s2 : St} {k1 n1 k2 n2 : Int} {t1 t2 : Str} {l1 l2 : Nat} (h1 : s1 = St.run m1 (St.mk1 input f e)) (h2 : s2 = St.run m2 (St.mk1 input (f + more : Nat) e)) (d1 : s1.done) (d2 : s2.done) (q1 : Told s1 k1 n1 t1 l1) (q2 : Told s2 k2 n2 t2 l2) :
    (s1.err = 8 → k1 = 0 ∧ ∃ r, s2.trace = s1.trace ++ r) ∧ (s1.err ≠ 8 → s2.err = s1.err ∧ s2.fault = s1.fault ∧ s2.trace = s1.trace ∧ k1 = k2 ∧ n1 = n2 ∧ t1 = t2 ∧ l1 = l2 ∧ ((s1.err == 0) = (k1 != 0))) := by
  have hfu : St.mk1 input ((f + more : Nat) : Int) e = (St.mk1 input f e).fu ((St.mk1 input f e).fuel + more) := by
    show _ = ({ St.mk1 input f e with fuel := (f : Int) + more } : St)
    rw [show ((f + more : Nat) : Int) = (f : Int) + more by omega]
    rfl
  have hm := run_more more m1 m2 (St.mk1 input f e) (by rw [← h1]; exact d1) (by rw [← hfu, ← h2]; exact d2)
  rw [← hfu, ← h1, ← h2] at hm
  refine ⟨fun he => ⟨q1.bad (by rw [he]; decide), hm.2 he⟩, fun he => ?_⟩
  have h := hm.1 he
  have e1 : s2.err = s1.err := by rw [h]; rfl
  have e2 : s2.fault = s1.fault := by rw [h]; rfl
  have e3 : s2.trace = s1.trace := by rw [h]; rfl
  have e4 : s2.vals = s1.vals := by rw [h]; rfl
  refine ⟨e1, e2, e3, ?_⟩
  by_cases h0 : s1.err = 0
  · obtain ⟨z, hz, hs, a1, a2, a3, a4⟩ := q1.good h0
    obtain ⟨z', hz', _, b1, b2, b3, b4⟩ := q2.good (e1.trans h0)
    rw [e4, hz] at hz'
    have hzz : z = z' := (List.cons.inj hz').1
    subst hzz
    refine ⟨by rw [a1, b1], by rw [a2, b2], by rw [a3, b3], by rw [a4, b4], ?_⟩
    have h3 : (k1 != 0) = true := by rw [bne_iff_ne]; omega
    rw [h3, h0]
    rfl
  · obtain ⟨a1, a2, a3, a4⟩ := q1.same h0
    obtain ⟨b1, b2, b3, b4⟩ := q2.same (by rw [e1]; exact h0)
    refine ⟨by rw [a1, b1], by rw [a2, b2], by rw [a3, b3], by rw [a4, b4], ?_⟩
    have h3 : (s1.err == 0) = false := by simpa using h0
    rw [h3, a1]
    rfl
set_option maxRecDepth 100000 in
set_option maxHeartbeats 8000000 in
theorem law_any (w : World) (t : Ex) (hI : t.In w) (hG : ExG t) (A : Option Addr) (l : List Str) (c : Nat) (hr : Rd w 1 A l.length (strs l)) (hA : 0 < l.length → ∀ a, A = some a → a.block < w.heap.size) (hl : l.length ≤ 4000000) (hc : l.length ≤ c ∧ c ≤ maxLen) (fuel more : Int) (hT : Tab w) :
    Calls Tryd.prog 3 #[.agg t.d.arr, .slice A l.length c, .int .i64 fuel, .int .i64 more] w fun e w' => e = .returned (.bool true) ∧ Below w.heap.size w w' := by
  have hb0 : Below w.heap.size w (w.alloc (.cells t.d.arr 25)) := (Below.refl _ _).alloc (Nat.le_refl _) _
  have hx0 := ex_box w t.d
  obtain ⟨W0, hW0⟩ : ∃ W0, w.alloc (.cells t.d.arr 25) = W0 := ⟨_, rfl⟩
  rw [hW0] at hb0 hx0
  have HIN := Lib.hid (fun (V : World) (hV : Below w.heap.size w V) => (show InR V V.heap.size l (.slice A l.length c) from ⟨A, c, rfl, hc, hr.below hV, fun hn a ha => Nat.lt_of_lt_of_le (hA hn a ha) hV.size⟩))
  have HE := Lib.hid (And.intro hI (And.intro hG (And.intro hT hl)))
  have HX := Lib.hid hx0
  have HB0 := Lib.hid hb0
  have HRD := Lib.hid (And.intro hr hl)
  have HW0 := Lib.hid hW0
  obtain ⟨c0, c1, c2, c3, c4, c5⟩ := hx0
  clear hb0 hI hG hr hA hl hc hT hW0
  go_enter Tryd.func3, Tryd.ntmps3
  go_upto_region 1 with fail
  rw [HW0.out]
  go_wp2_with fail
  refine (up_any W0 (tab_below HE.out.2.2.1 HB0.out)).mono ?_
  rintro e w1 ⟨rfl, hb1⟩
  have HB1 := Lib.hid (below_then HB0.out hb1)
  replace c0 := cell_below hb1 c0
  replace c1 := cell_below hb1 c1
  replace c2 := cell_below hb1 c2
  replace c3 := cell_below hb1 c3
  replace c4 := cell_below hb1 c4
  replace c5 := cell_below hb1 c5
  clear hb1
  go_wp2_with fail
  refine (Few_any w t HE.out.1 w1 HB1.out).mono ?_
  rintro e w2 ⟨⟨bf, rfl⟩, hb2⟩
  have HB2 := Lib.hid (below_then HB1.out hb2)
  replace c0 := cell_below hb2 c0
  replace c1 := cell_below hb2 c1
  replace c2 := cell_below hb2 c2
  replace c3 := cell_below hb2 c3
  replace c4 := cell_below hb2 c4
  replace c5 := cell_below hb2 c5
  clear hb2
  go_wp2_with fail
  refine (lines_any A l l.length c w2 (HRD.out.1.below HB2.out) HRD.out.2).mono ?_
  rintro e w3 ⟨⟨bl, rfl⟩, hb3⟩
  have HB3 := Lib.hid (below_then HB2.out hb3)
  replace c0 := cell_below hb3 c0
  replace c1 := cell_below hb3 c1
  replace c2 := cell_below hb3 c2
  replace c3 := cell_below hb3 c3
  replace c4 := cell_below hb3 c4
  replace c5 := cell_below hb3 c5
  clear hb3
  cases bf with
  | false =>
    clear c0 c1 c2 c3 c4 c5
    go_wp2_with fail
    go_returns
    exact ⟨rfl, HB3.out⟩
  | true =>
  cases bl with
  | false =>
    clear c0 c1 c2 c3 c4 c5
    go_wp2_with fail
    go_returns
    exact ⟨rfl, HB3.out⟩
  | true =>
  by_cases q1 : fuel < 0
  · have e1 : decide (fuel < 0) = true := decide_eq_true q1
    clear c0 c1 c2 c3 c4 c5
    go_wp2_with fail
    go_returns
    exact ⟨rfl, HB3.out⟩
  have e1 : decide (fuel < 0) = false := decide_eq_false q1
  by_cases q2 : more < 0
  · have e2 : decide (more < 0) = true := decide_eq_true q2
    clear c0 c1 c2 c3 c4 c5
    go_wp2_with fail
    go_returns
    exact ⟨rfl, HB3.out⟩
  have e2 : decide (more < 0) = false := decide_eq_false q2
  by_cases q3 : 2000 < fuel
  · have e3 : decide (2000 < fuel) = true := decide_eq_true q3
    clear c0 c1 c2 c3 c4 c5
    go_wp2_with fail
    go_returns
    exact ⟨rfl, HB3.out⟩
  have e3 : decide (2000 < fuel) = false := decide_eq_false q3
  by_cases q4 : 2000 < more
  · have e4 : decide (2000 < more) = true := decide_eq_true q4
    clear c0 c1 c2 c3 c4 c5
    go_wp2_with fail
    go_returns
    exact ⟨rfl, HB3.out⟩
  have e4 : decide (2000 < more) = false := decide_eq_false q4
  obtain ⟨f, rfl⟩ : ∃ f : Nat, fuel = f := ⟨fuel.toNat, by omega⟩
  obtain ⟨m, rfl⟩ : ∃ m : Nat, more = m := ⟨more.toNat, by omega⟩
  have HF := Lib.hid (And.intro (show f ≤ 2000 by omega) (show m ≤ 2000 by omega))
  have HC1 := Lib.hid (coreRun_any w3 t (HE.out.1.lower HB3.out) HE.out.2.1 l _ (HIN.out w3 HB3.out) (by have := HE.out.2.2.2; omega) (f : Int) (by have := HF.out; omega) (tab_below HE.out.2.2.1 HB3.out))
  clear q1 q2 q3 q4
  go_wp2_with fail
  refine HC1.out.mono ?_
  intro e w4 hres
  obtain ⟨m1, s1, At1, ct1, k1, n1, t1, A1, len1, cc1, rfl, hs1, hd1, hr1, hc1, hn1, hb4, ht1⟩ := coreRes_told hres
  have HB4 := Lib.hid (below_then HB3.out hb4)
  replace c0 := cell_below hb4 c0
  replace c1 := cell_below hb4 c1
  replace c2 := cell_below hb4 c2
  replace c3 := cell_below hb4 c3
  replace c4 := cell_below hb4 c4
  replace c5 := cell_below hb4 c5
  have HS1 := Lib.hid (And.intro hs1 (And.intro hd1 (And.intro hr1 (And.intro hc1 (And.intro hn1 ht1)))))
  clear hres hs1 hd1 hr1 hc1 hn1 hb4 ht1
  go_upto_region 7 with fail
  obtain ⟨hq1, hq2, hb5⟩ := two_boxes w4 (boxT k1 n1 t1 A1 len1 cc1) (boxO s1.err s1.fault At1 s1.trace.length ct1)
  generalize (w4.alloc (boxT k1 n1 t1 A1 len1 cc1)).alloc (boxO s1.err s1.fault At1 s1.trace.length ct1) = w5 at *
  have HB5 := Lib.hid (below_then HB4.out hb5)
  replace c0 := cell_below hb5 c0
  replace c1 := cell_below hb5 c1
  replace c2 := cell_below hb5 c2
  replace c3 := cell_below hb5 c3
  replace c4 := cell_below hb5 c4
  replace c5 := cell_below hb5 c5
  have HQ := Lib.hid (And.intro hq1 (And.intro hq2 (HS1.out.2.2.1.below hb5)))
  clear hq1 hq2 hb5
  have i1 : IntKind.i64.wrap ((f : Int) + (m : Int)) = (f : Int) + (m : Int) := by rw [IntKind.wrap_i64]; have := HF.out; omega
  have HC2 := Lib.hid (coreRun_any w5 t (HE.out.1.lower HB5.out) HE.out.2.1 l _ (HIN.out w5 HB5.out) (by have := HE.out.2.2.2; omega) ((f : Int) + (m : Int)) (by have := HF.out; omega) (tab_below HE.out.2.2.1 HB5.out))
  go_wp2_with fail
  refine HC2.out.mono ?_
  intro e w6 hres
  obtain ⟨m2, s2, At2, ct2, k2, n2, t2, A2, len2, cc2, rfl, hs2, hd2, hr2, hc2, hn2, hb6, ht2⟩ := coreRes_told hres
  have hs2' : s2 = St.run m2 (St.mk1 l (f + m : Nat) t) := by rw [hs2, show ((f + m : Nat) : Int) = (f : Int) + (m : Int) by omega]
  have hto := two_runs HS1.out.1 hs2' HS1.out.2.1 hd2 HS1.out.2.2.2.2.2 ht2
  have HB6 := Lib.hid (below_then HB5.out hb6)
  have hq1 := (hb6.block _ (lt_of_heap HQ.out.1)).trans HQ.out.1
  have hq2 := (hb6.block _ (lt_of_heap HQ.out.2.1)).trans HQ.out.2.1
  have HQ6 := Lib.hid (And.intro hq1 (And.intro hq2 (And.intro (HQ.out.2.2.below hb6) hr2)))
  have HS2 := Lib.hid (And.intro hc2 hn2)
  clear hres hs2 hs2' hd2 hr2 hc2 hn2 hb6 ht2 hq1 hq2 c0 c1 c2 c3 c4 c5 i1
  have HTO := Lib.hid hto
  clear hto
  go_upto_region 8 with fail
  obtain ⟨hq3, hq4, hb7⟩ := two_boxes w6 (boxT k2 n2 t2 A2 len2 cc2) (boxO s2.err s2.fault At2 s2.trace.length ct2)
  have hq1 := (hb7.block _ (lt_of_heap HQ6.out.1)).trans HQ6.out.1
  have hq2 := (hb7.block _ (lt_of_heap HQ6.out.2.1)).trans HQ6.out.2.1
  have hr1 := HQ6.out.2.2.1.below hb7
  have hr2 := HQ6.out.2.2.2.below hb7
  generalize (w6.alloc (boxT k2 n2 t2 A2 len2 cc2)).alloc (boxO s2.err s2.fault At2 s2.trace.length ct2) = w7 at *
  have HB7 := Lib.hid (below_then HB6.out hb7)
  by_cases h8 : s1.err = 8
  · obtain ⟨hk1, r, hrr⟩ := HTO.out.1 h8
    subst hk1
    rw [h8] at hq2
    rw [hrr] at hr2 hq4
    obtain ⟨x0, x1, x2, x3⟩ := cells4 hq1
    obtain ⟨y0, y1, y2, y3⟩ := cells4 hq2
    obtain ⟨v0, v1, v2, v3⟩ := cells4 hq4
    have hbeg := begins_any At2 At1 s1.trace r ct2 ct1 w7 hr2 hr1 (by rw [← hrr]; exact HS2.out.1) (by rw [← hrr]; have := HS2.out.2; omega)
    obtain ⟨N, hN⟩ : ∃ N, (s1.trace ++ r).length = N := ⟨_, rfl⟩
    rw [hN] at hbeg v3
    have HBE := Lib.hid hbeg
    have HX0 := Lib.hid x0
    clear hq1 hq2 hq3 hq4 hb7 hr1 hr2 hbeg hrr hN
    go_wp2_with (go_at_call 8; (with_reducible refine HBE.out.mono ?_); rintro e w8 ⟨rfl, hb8⟩; have x0' := cell_below hb8 HX0.out; have HB8 := Lib.hid (below_then HB7.out hb8); clear hb8)
    go_returns
    exact ⟨rfl, HB8.out⟩
  · obtain ⟨a1, a2, a3, a4, a5, a6, a7, a8⟩ := HTO.out.2 h8
    subst a4 a5 a6 a7
    rw [a1, a2, a3] at hq4
    rw [a3] at hr2
    obtain ⟨x0, x1, x2, x3⟩ := cells4 hq1
    obtain ⟨y0, y1, y2, y3⟩ := cells4 hq2
    obtain ⟨u0, u1, u2, u3⟩ := cells4 hq3
    obtain ⟨v0, v1, v2, v3⟩ := cells4 hq4
    have hout := outs_any At1 At2 s1.trace ct1 ct2 s1.err s1.fault w7 hr1 hr2 (by have := HS1.out.2.2.2.2.1; omega)
    have HOU := Lib.hid hout
    have e8 : (s1.err == 8) = false := by simpa using h8
    have HQ7 := Lib.hid (And.intro hq1 (And.intro hq2 hq3))
    have HA8 := Lib.hid a8
    clear hq1 hq2 hq3 hq4 hb7 hr1 hr2 hout h8 a1 a2 a3 a8
    go_wp2_with (go_at_call 9; (with_reducible refine HOU.out.mono ?_); rintro e w8 ⟨rfl, hb8⟩; have hz1 := (hb8.block _ (lt_of_heap HQ7.out.1)).trans HQ7.out.1; have hz2 := (hb8.block _ (lt_of_heap HQ7.out.2.1)).trans HQ7.out.2.1; have hz3 := (hb8.block _ (lt_of_heap HQ7.out.2.2)).trans HQ7.out.2.2; obtain ⟨x0', x1', x2', x3'⟩ := cells4 hz1; obtain ⟨y0', y1', y2', y3'⟩ := cells4 hz2; obtain ⟨u0', u1', u2', u3'⟩ := cells4 hz3; have HB8 := Lib.hid (below_then HB7.out hb8); clear hb8 hz1 hz2 hz3)
    go_returns
    refine ⟨?_, HB8.out⟩
    have hh : ((s1.err == 0) == (k1 != 0)) = true := by rw [HA8.out]; exact beq_self_eq_true _
    show Ending.returned (Value.bool ((s1.err == 0) == (k1 != 0))) = Ending.returned (.bool true)
    rw [hh]
end Go.Proofs.YtpdfjdomjklkbaaDoor

namespace Go.Proofs.YtpdfjdomjklkbaaDoor
open Go.ChangeShapes Go.WideShapes Go.ChangeAt Go.RowKit
set_option linter.unusedVariables false

section
variable {H : Type} {enc : TypeId × Value → H} {P : Program} {W : World} {base : Nat} {sp : Nat → Bool} {held : Bool}

/-- A slice's elements, each read as one of a kind of your own ('cells': its cells; 'good': what the reading says of it); by the slice's one cell. -/
theorem open_row {α : Type} {cells : α → List Value} {good : α → Prop} {t e : TypeId} {size : Nat} (ht : P.underlying t = some (.slice e)) (hC : P.cellsOf e = size) (hsz : ∀ y, (cells y).length = size) (h0 : 0 < size)
    (hel : ∀ (n : Nat) (cs : List Value) (x : DataW H × List MemPlace), DataW.trod enc P W base sp held n e cs = some x → ∃ y, cells y = cs ∧ good y)
    {fuel : Nat} {cs : List Value} {x : DataW H × List MemPlace} (hf : DataW.trod enc P W base sp held fuel t cs = some x) :
    ∃ (A : Option Addr) (n c : Nat) (l : List α), cs = [.slice A n c] ∧ n ≤ c ∧ c ≤ maxLen ∧ l.length = n ∧ Rd W size A n (l.flatMap cells) ∧ (A = none → c = 0) ∧ ∀ y ∈ l, good y := by
  rcases Go.Deep.open_slice ht hf with ⟨hcs, _⟩ | ⟨a, n, c, m, k, D, Pl, hcs, _, hl, hm, hmm, _, hi⟩
  · exact ⟨none, 0, 0, [], hcs, Nat.le_refl _, by simp [maxLen], rfl, Rd.nil _ _ _, fun _ => rfl, fun y hy => by cases hy⟩
  · rw [hC] at hi
    have hlm : n ≤ m := by rw [hmm]; split <;> omega
    have key : ∀ q, q ≤ n → ∃ l : List α, l.length = q ∧ (∀ y ∈ l, good y) ∧ Held W a (l.flatMap cells) := by
      intro q
      induction q with
      | zero => intro _; exact ⟨[], rfl, (fun y hy => by cases hy), (fun j u hu => by simp at hu)⟩
      | succ q ih =>
        intro hq
        obtain ⟨l, hlen, hg, hh⟩ := ih (by omega)
        obtain ⟨cs', hc, htr⟩ := hi q (by omega)
        obtain ⟨y, rfl, hy⟩ := hel _ _ _ htr
        obtain ⟨_, hcl, hat⟩ := World.cells?_some hc
        have hfl : (l.flatMap cells).length = q * size := by
          rw [← hlen]
          clear ih hh hg hlen
          induction l with
          | nil => simp
          | cons z r ih => simp only [List.flatMap_cons, List.length_append, hsz, ih, List.length_cons, Nat.add_mul]; omega
        refine ⟨l ++ [y], by simp [hlen], ?_, ?_⟩
        · intro z hz
          rcases List.mem_append.1 hz with hz | hz
          · exact hg z hz
          · simp at hz; subst hz; exact hy
        · intro j u hu
          simp only [List.flatMap_append, List.flatMap_cons, List.flatMap_nil, List.append_nil] at hu
          rw [List.getElem?_append] at hu
          split at hu
          · exact hh j u hu
          · rename_i hj
            rw [hfl] at hu hj
            have hjs : j - q * size < size := by
              have := (List.getElem?_eq_some_iff.1 hu).1; rw [hsz] at this; omega
            have := hat _ hjs
            rw [add_add, show q * size + (j - q * size) = j from by omega] at this
            rw [this, hu]
    obtain ⟨l, hlen, hg, hh⟩ := key n (Nat.le_refl _)
    refine ⟨some a, n, c, l, hcs, hl, hm, hlen, ⟨?_, fun _ => ⟨a, rfl, hh⟩⟩, (fun h => by cases h), hg⟩
    rw [← hlen]
    clear key hh hg hlen
    induction l with
    | nil => simp
    | cons z r ih => simp only [List.flatMap_cons, List.length_append, hsz, ih, List.length_cons, Nat.add_mul]; omega

theorem weights_mem {P : Program} {e : TypeId} {d : DataW H} : ∀ {ds : List (DataW H)}, d ∈ ds → ∀ q ∈ DataW.weights P e d, q ∈ DataW.weightsAll P e ds
  | [], h, q, hq => by cases h
  | d0 :: ds, h, q, hq => by
    simp only [DataW.weightsAll, List.mem_append]
    rcases List.mem_cons.1 h with rfl | h
    · exact .inl hq
    · exact .inr (weights_mem h q hq)

/-- The same, with how large what is read may be: no slice, no text in it takes more than B bytes. -/
theorem open_rowZ (B : Nat) {α : Type} {cells : α → List Value} {good : α → Prop} {t e : TypeId} {size : Nat} (ht : P.underlying t = some (.slice e)) (hC : P.cellsOf e = size) (hsz : ∀ y, (cells y).length = size) (h0 : 0 < size)
    (hel : ∀ (n : Nat) (cs : List Value) (x : DataW H × List MemPlace), DataW.trod enc P W base sp held n e cs = some x → (∀ q ∈ DataW.weights P e x.1, q ≤ B) → ∃ y, cells y = cs ∧ good y)
    {fuel : Nat} {cs : List Value} {x : DataW H × List MemPlace} (hf : DataW.trod enc P W base sp held fuel t cs = some x) (hB : ∀ q ∈ DataW.weights P t x.1, q ≤ B) :
    ∃ (A : Option Addr) (n c : Nat) (l : List α), cs = [.slice A n c] ∧ n ≤ c ∧ c ≤ maxLen ∧ l.length = n ∧ n * P.bytesOf e ≤ B ∧ Rd W size A n (l.flatMap cells) ∧ (A = none → c = 0) ∧ ∀ y ∈ l, good y := by
  rcases Go.Deep.open_slice ht hf with ⟨hcs, _⟩ | ⟨a, n, c, m, k, D, Pl, hcs, _, hl, hm, hmm, hx, hi⟩
  · exact ⟨none, 0, 0, [], hcs, Nat.le_refl _, by simp [maxLen], rfl, by simp, Rd.nil _ _ _, fun _ => rfl, fun y hy => by cases hy⟩
  · rw [hC] at hi
    rw [hx] at hB
    have hB1 : n * P.bytesOf e ≤ B := by
      refine Nat.le_trans ?_ (hB _ (by simp only [DataW.weights, ht]; exact List.mem_cons_self))
      rw [List.length_map, List.length_map, List.length_range, List.length_range]
      exact Nat.mul_le_mul_right _ (by omega)
    have hB2 : ∀ i, i < n → ∀ q ∈ DataW.weights P e (D i), q ≤ B := by
      intro i hi q hq
      refine hB q ?_
      simp only [DataW.weights, ht]
      exact List.mem_cons_of_mem _ (List.mem_append_left _ (weights_mem (List.mem_map.2 ⟨i, List.mem_range.2 hi, rfl⟩) q hq))
    have hlm : n ≤ m := by rw [hmm]; split <;> omega
    have key : ∀ q, q ≤ n → ∃ l : List α, l.length = q ∧ (∀ y ∈ l, good y) ∧ Held W a (l.flatMap cells) := by
      intro q
      induction q with
      | zero => intro _; exact ⟨[], rfl, (fun y hy => by cases hy), (fun j u hu => by simp at hu)⟩
      | succ q ih =>
        intro hq
        obtain ⟨l, hlen, hg, hh⟩ := ih (by omega)
        obtain ⟨cs', hc, htr⟩ := hi q (by omega)
        obtain ⟨y, rfl, hy⟩ := hel _ _ _ htr (hB2 q (by omega))
        obtain ⟨_, hcl, hat⟩ := World.cells?_some hc
        have hfl : (l.flatMap cells).length = q * size := by
          rw [← hlen]
          clear ih hh hg hlen
          induction l with
          | nil => simp
          | cons z r ih => simp only [List.flatMap_cons, List.length_append, hsz, ih, List.length_cons, Nat.add_mul]; omega
        refine ⟨l ++ [y], by simp [hlen], ?_, ?_⟩
        · intro z hz
          rcases List.mem_append.1 hz with hz | hz
          · exact hg z hz
          · simp at hz; subst hz; exact hy
        · intro j u hu
          simp only [List.flatMap_append, List.flatMap_cons, List.flatMap_nil, List.append_nil] at hu
          rw [List.getElem?_append] at hu
          split at hu
          · exact hh j u hu
          · rename_i hj
            rw [hfl] at hu hj
            have hjs : j - q * size < size := by
              have := (List.getElem?_eq_some_iff.1 hu).1; rw [hsz] at this; omega
            have := hat _ hjs
            rw [add_add, show q * size + (j - q * size) = j from by omega] at this
            rw [this, hu]
    obtain ⟨l, hlen, hg, hh⟩ := key n (Nat.le_refl _)
    refine ⟨some a, n, c, l, hcs, hl, hm, hlen, hB1, ⟨?_, fun _ => ⟨a, rfl, hh⟩⟩, (fun h => by cases h), hg⟩
    rw [← hlen]
    clear key hh hg hlen
    induction l with
    | nil => simp
    | cons z r ih => simp only [List.flatMap_cons, List.length_append, hsz, ih, List.length_cons, Nat.add_mul]; omega

/-- The same of an argument. -/
theorem open_elems {α : Type} {cells : α → List Value} {good : α → Prop} {t e : TypeId} {size : Nat} (ht : P.underlying t = some (.slice e)) (hC : P.cellsOf e = size) (hsz : ∀ y, (cells y).length = size) (h0 : 0 < size)
    (hel : ∀ (n : Nat) (cs : List Value) (x : DataW H × List MemPlace), DataW.trod enc P W base sp held n e cs = some x → ∃ y, cells y = cs ∧ good y)
    {b0 : Nat} {r : Reach} {v : Value} {d : DataW H} {ps : List MemPlace} (hv : Value.okWide P W r b0 t v) (h : DataW.Trod enc P W base sp held t v d ps) :
    ∃ (A : Option Addr) (n c : Nat) (l : List α), v = .slice A n c ∧ n ≤ c ∧ c ≤ maxLen ∧ l.length = n ∧ Rd W size A n (l.flatMap cells) ∧ ∀ y ∈ l, good y := by
  obtain ⟨A, n, c, rfl⟩ := okWide_slice ht hv
  obtain ⟨fuel, hf⟩ := h
  obtain ⟨A', n', c', l, hcs, h1, h2, h3, h4, _, h5⟩ := open_row ht hC hsz h0 hel hf
  simp [Value.cells] at hcs
  obtain ⟨rfl, rfl, rfl⟩ := hcs
  exact ⟨A, n, c, l, rfl, h1, h2, h3, h4, h5⟩
end
end Go.Proofs.YtpdfjdomjklkbaaDoor

namespace Go.Proofs.YtpdfjdomjklkbaaDoor
open Go.ChangeShapes Go.WideShapes Go.ChangeAt Go.RowKit
set_option linter.unusedVariables false

set_option maxRecDepth 100000 in
theorem open_str {H : Type} {enc : TypeId × Value → H} {W : World} {base : Nat} {sp : Nat → Bool} {held : Bool} {b0 : Nat} {r : Reach} {v : Value} {d : DataW H} {ps : List MemPlace}
    (hv : Value.okWide Tryd.prog W r b0 9 v) (h : DataW.Trod enc Tryd.prog W base sp held 9 v d ps) :
    ∃ s : Str, v = .string (bstr s) ∧ s.length ≤ maxLen := by
  obtain ⟨s, rfl⟩ := okWide_string Tryd.underlying9 hv
  obtain ⟨fuel, hf⟩ := h
  obtain ⟨s', hc, _, hw⟩ := DataW.trod_string Tryd.underlying9 hf
  simp [Value.cells] at hc
  subst hc
  refine ⟨s.data.toList, by rw [bstr_of], ?_⟩
  have e : s.data.toList.length = s.size := by rw [Array.length_toList]; rfl
  rw [e]; exact hw

set_option maxRecDepth 100000 in
theorem open_strs {H : Type} {enc : TypeId × Value → H} {W : World} {base : Nat} {sp : Nat → Bool} {held : Bool} {b0 : Nat} {r : Reach} {v : Value} {d : DataW H} {ps : List MemPlace}
    (hv : Value.okWide Tryd.prog W r b0 22 v) (h : DataW.Trod enc Tryd.prog W base sp held 22 v d ps) :
    ∃ (A : Option Addr) (n c : Nat) (l : List Str), v = .slice A n c ∧ n ≤ c ∧ c ≤ maxLen ∧ Rd W 1 A n (strs l) := by
  obtain ⟨A, n, c, l, h1, h2, h3, h4, h5, _⟩ := open_elems (α := Str) (cells := fun b => [.string (bstr b)]) (good := fun _ => True) Tryd.underlying22 (by kernel_rfl : Tryd.prog.cellsOf 9 = 1) (fun _ => rfl) (by omega)
    (fun n cs x hx => by
      obtain ⟨s, rfl, _, hw⟩ := DataW.trod_string Tryd.underlying9 hx
      exact ⟨s.data.toList, by rw [bstr_of], trivial⟩) hv h
  refine ⟨A, n, c, l, h1, h2, h3, ?_⟩
  have e : strs l = l.flatMap fun b => [.string (bstr b)] := by
    clear h5 h4
    induction l with
    | nil => rfl
    | cons x r ih => simp [strs] at ih ⊢; exact ih
  rw [e]
  exact h5
end Go.Proofs.YtpdfjdomjklkbaaDoor

namespace Go.Proofs.YtpdfjdomjklkbaaDoor
open Go.ChangeShapes Go.WideShapes Go.ChangeAt Go.RowKit
set_option linter.unusedVariables false

theorem own : ownKnob Tryd.prog.godebug = none := by kernel_rfl
theorem laidOut : laidOutB Tryd.prog = true := by kernel_rfl

/-- All arguments read behind the call as they did. -/
theorem trodAll_stays {H : Type} {enc : TypeId × Value → H} {W W' : World} (hb : Below W.heap.size W W') :
    ∀ (ts : List TypeId) (vs : List Value) (ds : List (DataW H)) (ps : List MemPlace), (∀ t ∈ ts, Tryd.prog.readableRec t = true ∧ t < Tryd.prog.types.size) → (∀ x ∈ ps, x.block < W.heap.size) →
      DataW.TrodAll enc Tryd.prog W 0 (fun _ => true) true ts vs ds ps → DataW.TrodAll enc Tryd.prog W' 0 (fun b => decide (b < W.heap.size)) true ts vs ds ps
  | [], vs, ds, ps, _, _, h => by
    obtain ⟨rfl, rfl, rfl⟩ := trodAll_nil h
    exact trodAll_mk0
  | t :: ts, vs, ds, ps, hr, hlt, h => by
    obtain ⟨v, vs', d, ds', p, q, rfl, rfl, rfl, h0, h1⟩ := trodAll_cons h
    have ht := hr t (by simp)
    exact trodAll_cons_mk (Below.trod laidOut ht.1 ht.2 h0 hb (fun x hx => hlt x (by simp [hx]))) (trodAll_stays hb ts vs' ds' q (fun t' ht' => hr t' (by simp [ht'])) (fun x hx => hlt x (by simp [hx])) h1)

theorem trodAll_length {H : Type} {enc : TypeId × Value → H} {P : Program} {W : World} {base : Nat} {sp : Nat → Bool} {hd : Bool} :
    ∀ (ts : List TypeId) (vs : List Value) (ds : List (DataW H)) (ps : List MemPlace), DataW.TrodAll enc P W base sp hd ts vs ds ps → ds.length = ts.length
  | [], vs, ds, ps, h => by obtain ⟨_, h, _⟩ := trodAll_nil h; simp [h]
  | t :: ts, vs, ds, ps, h => by
    obtain ⟨v, vs', d, ds', p, q, rfl, rfl, rfl, h0, h1⟩ := trodAll_cons h
    simp [trodAll_length ts vs' ds' q h1]

/-- What is to be walked of a law: whatever its arguments read as, it returns true, and turns nothing that was there. -/
def LawWalk (F : FuncId) (ts : List TypeId) : Prop :=
  ∀ (H : Type) (enc : TypeId × Value → H) (W : World) (base : Nat) (args : Array Value) (ds : List (DataW H)) (p : List MemPlace),
    (∀ (j : Nat) t v, ts[j]? = some t → args[j]? = some v → Value.okWide Tryd.prog W .any base t v) →
    DataW.TrodAll enc Tryd.prog W 0 (fun _ => true) true ts args.toList ds p → (∀ x ∈ p, x.block < W.heap.size) →
    Calls Tryd.prog F args W fun e W' => e = .returned (.bool true) ∧ Below W.heap.size W W'

theorem law_post {H : Type} {enc : TypeId × Value → H} {f : Func} {s : ChangeSpec} {W W' : World} {args : Array Value} {ds gs : List (DataW H)} {before : List MemPlace} {ts : List TypeId}
    (hp : f.params.toList = ts) (hres : f.resultTypes = #[4]) (hv : s.vars = []) (hs : s.fn H (ds ++ gs) = { results := [.lit (.bool true)], args := ds }) (hr : ∀ t ∈ ts, Tryd.prog.readableRec t = true ∧ t < Tryd.prog.types.size)
    (hW : DataW.Whole enc Tryd.prog f.params.toList s.vars false W args.toList ds gs before) (hb : Below W.heap.size W W') :
    s.post enc Tryd.prog f false true false false W args (.bool true) W' := by
  have hW' := hW
  obtain ⟨p, q, hA, hV, rfl, hfz, hnd⟩ := hW
  rw [hv] at hV
  obtain ⟨rfl, rfl⟩ := trodVars_none hV
  have hlt : ∀ x ∈ p, x.block < W.heap.size := fun x hx => hW'.lt x (by simp [hx])
  refine ⟨ds, [], p ++ [], [], p, [], hW', ?_, ?_, ?_, hb.frame _, fun h => by cases h⟩
  · rw [hs, hres]
    exact trodAll_mk1 (shut_bool Tryd.underlying4 _)
  · rw [hs, hp]
    rw [hp] at hA
    exact trodAll_stays hb ts _ _ _ hr hlt hA
  · rw [hv]
    rw [hs]
    rfl

set_option maxRecDepth 100000 in
theorem law_lifted {os : Os} (started : os.Started) {H : Type} {enc : TypeId × Value → H} {F : FuncId} {f : Func} {s : ChangeSpec} {ts : List TypeId}
    (hF : Tryd.prog.funcs[F]? = some f) (noInit : Tryd.checked.prog.inits.idxOf? F = none) (hp : f.params.toList = ts) (hres : f.resultTypes = #[4]) (hv : s.vars = [])
    (hs : ∀ (H : Type) (ds : List (DataW H)), ds.length = ts.length → s.fn H ds = { results := [.lit (.bool true)], args := ds })
    (hr0 : (ts.all fun t => Tryd.prog.readableRec t && decide (t < Tryd.prog.types.size)) = true)
    (witness : ∃ (w : World) (tape : Tape) (i : Input), w.os = os ∧ (w.forCall tape i).Shaped Tryd.checked.prog ∧ i.vars = [] ∧ Input.okWide Tryd.checked.prog (w.forCall tape i) .any w.heap.size F i ∧
      s.pre6 enc Tryd.checked.prog f [] false (w.forCall tape i).memory i.args ∧ Assume.holds {} Tryd.checked.prog (lone (Frame.enter Tryd.checked.prog F i.args .normal) [] (w.forCall tape i)))
    (walk : LawWalk F ts) :
    ReturnsInHanded {} Tryd.checked os F .any (s.pre6 enc Tryd.prog f [] false) (s.post enc Tryd.prog f false true false false) := by
  have hr : ∀ t ∈ ts, Tryd.prog.readableRec t = true ∧ t < Tryd.prog.types.size := fun t ht => by
    have h := List.all_eq_true.1 hr0 t ht
    simpa using h
  refine returnsInHanded_of_change (C := Tryd.checked) own started noInit hF witness ?_
  intro W base args ds gs before hval hW _ _
  have hW' : DataW.Whole enc Tryd.prog f.params.toList s.vars false W args.toList ds gs before := hW
  obtain ⟨p, q, hA0, hV, rfl, hfz, hnd⟩ := hW
  have hA : DataW.TrodAll enc Tryd.prog W 0 (fun _ => true) true f.params.toList args.toList ds p := hA0
  have hlt : ∀ x ∈ p, x.block < W.heap.size := fun x hx => hW'.lt x (by simp [hx])
  rw [hp] at hA
  have hlen : ds.length = ts.length := trodAll_length ts _ _ _ hA
  rw [hv] at hV
  obtain ⟨rfl, rfl⟩ := trodVars_none hV
  refine (walk H enc W base args ds p ?_ hA hlt).mono fun e W' ⟨he, hb⟩ => ?_
  · intro j t v hj hva
    refine hval j t v ?_ hva
    rw [← hp] at hj
    simpa using hj
  · subst he
    exact ⟨_, rfl, law_post hp hres hv (by rw [List.append_nil]; exact hs H ds hlen) hr hW' hb⟩
end Go.Proofs.YtpdfjdomjklkbaaDoor

namespace Go.Proofs.YtpdfjdomjklkbaaDoor
open Go.ChangeShapes Go.WideShapes Go.ChangeAt Go.RowKit Go.Sort Go.Maps Go.Deep
set_option linter.unusedVariables false
set_option linter.unusedSimpArgs false

theorem wf_i64 {n : Int} (h : (Lit.int .i64 n).wf = true) : -9223372036854775808 ≤ n ∧ n ≤ 9223372036854775807 := by
  simp only [Lit.wf, IntKind.min, IntKind.max, IntKind.signed, IntKind.bits, Bool.and_eq_true, decide_eq_true_eq, if_true] at h
  omega
theorem bulk_pos {H : Type} (d : DataW H) : 1 ≤ Rows.uptoBulk d := by
  cases d with
  | lit l => cases l <;> simp [Rows.uptoBulk]
  | _ => simp [Rows.uptoBulk]
theorem bulk_app {H : Type} (l r : List (DataW H)) : Rows.uptoBulkAll (l ++ r) = Rows.uptoBulkAll l + Rows.uptoBulkAll r := by
  induction l with
  | nil => simp [Rows.uptoBulkAll]
  | cons x l ih => simp only [List.cons_append, Rows.uptoBulkAll, ih]; omega
theorem bulk_mem {H : Type} {d : DataW H} : ∀ {l : List (DataW H)}, d ∈ l → Rows.uptoBulk d ≤ Rows.uptoBulkAll l
  | [], h => by cases h
  | x :: r, h => by
    simp only [Rows.uptoBulkAll]
    rcases List.mem_cons.1 h with rfl | h
    · omega
    · have := bulk_mem h; omega
theorem bulk_len {H : Type} : ∀ (l : List (DataW H)), l.length ≤ Rows.uptoBulkAll l
  | [] => by simp
  | x :: r => by have := bulk_pos x; have := bulk_len r; simp only [Rows.uptoBulkAll, List.length_cons]; omega

section
variable {H : Type} {enc : TypeId × Value → H} {P : Program} {W : World} {base : Nat} {sp : Nat → Bool} {held : Bool}

/-- A slice's elements under a bound on what is read; 'wt': what an element weighs. -/
theorem open_rowU {α : Type} {cells : α → List Value} {good : α → Prop} (wt : α → Nat) (B : Nat) {t e : TypeId} {size : Nat} (ht : P.underlying t = some (.slice e)) (hC : P.cellsOf e = size) (hsz : ∀ y, (cells y).length = size)
    (hel : ∀ (n : Nat) (cs : List Value) (x : DataW H × List MemPlace), DataW.trod enc P W base sp held n e cs = some x → Rows.uptoBulk x.1 ≤ B → ∃ y, cells y = cs ∧ good y ∧ wt y ≤ Rows.uptoBulk x.1)
    {fuel : Nat} {cs : List Value} {x : DataW H × List MemPlace} (hf : DataW.trod enc P W base sp held fuel t cs = some x) (hB : Rows.uptoBulk x.1 ≤ B + 1) :
    ∃ (A : Option Addr) (n c : Nat) (l : List α), cs = [.slice A n c] ∧ n ≤ c ∧ c ≤ maxLen ∧ l.length = n ∧ Rd W size A n (l.flatMap cells) ∧ (∀ y ∈ l, good y) ∧ n + 1 ≤ Rows.uptoBulk x.1 ∧ (l.map wt).sum + 1 ≤ Rows.uptoBulk x.1 := by
  rcases Go.Deep.open_slice ht hf with ⟨hcs, hx⟩ | ⟨a, n, c, m, k, D, Pl, hcs, _, hl, hm, hmm, hx, hi⟩
  · have := bulk_pos x.1
    exact ⟨none, 0, 0, [], hcs, Nat.le_refl _, by simp [maxLen], rfl, Rd.nil _ _ _, (fun y hy => by cases hy), by omega, by simpa using this⟩
  · rw [hC] at hi
    have hlm : n ≤ m := by rw [hmm]; split <;> omega
    have hbx : Rows.uptoBulkAll ((List.range n).map D) + 1 ≤ Rows.uptoBulk x.1 := by
      rw [hx]
      simp only [Rows.uptoBulk]
      omega
    have hD : ∀ i, i < n → Rows.uptoBulk (D i) ≤ B := fun i hi' => by
      have := bulk_mem (List.mem_map.2 ⟨i, List.mem_range.2 hi', rfl⟩ : D i ∈ (List.range n).map D)
      omega
    have key : ∀ q, q ≤ n → ∃ l : List α, l.length = q ∧ (∀ y ∈ l, good y) ∧ Held W a (l.flatMap cells) ∧ (l.map wt).sum ≤ Rows.uptoBulkAll ((List.range q).map D) := by
      intro q
      induction q with
      | zero => intro _; exact ⟨[], rfl, (fun y hy => by cases hy), (fun j u hu => by simp at hu), by simp⟩
      | succ q ih =>
        intro hq
        obtain ⟨l, hlen, hg, hh, hw⟩ := ih (by omega)
        obtain ⟨cs', hc, htr⟩ := hi q (by omega)
        obtain ⟨y, rfl, hy, hwy⟩ := hel _ _ _ htr (hD q (by omega))
        obtain ⟨_, hcl, hat⟩ := World.cells?_some hc
        have hfl : (l.flatMap cells).length = q * size := by rw [flat_len hsz, hlen]
        refine ⟨l ++ [y], by simp [hlen], ?_, ?_, ?_⟩
        · intro z hz
          rcases List.mem_append.1 hz with hz | hz
          · exact hg z hz
          · simp at hz; subst hz; exact hy
        · intro j u hu
          simp only [List.flatMap_append, List.flatMap_cons, List.flatMap_nil, List.append_nil] at hu
          rw [List.getElem?_append] at hu
          split at hu
          · exact hh j u hu
          · rename_i hj
            rw [hfl] at hu hj
            have hjs : j - q * size < size := by
              have := (List.getElem?_eq_some_iff.1 hu).1; rw [hsz] at this; omega
            have := hat _ hjs
            rw [Go.Proofs.YtpdfjdomjklkbaaDoor.add_add, show q * size + (j - q * size) = j from by omega] at this
            rw [this, hu]
        · simp only [List.range_succ, List.map_append, bulk_app, List.sum_append, List.map_cons, List.map_nil, List.sum_cons, List.sum_nil, Rows.uptoBulkAll]
          have h1 : wt y ≤ Rows.uptoBulk (D q) := hwy
          omega
    obtain ⟨l, hlen, hg, hh, hw⟩ := key n (Nat.le_refl _)
    have hln := bulk_len ((List.range n).map D)
    rw [List.length_map, List.length_range] at hln
    exact ⟨some a, n, c, l, hcs, hl, hm, hlen, ⟨by rw [flat_len hsz, hlen], fun _ => ⟨a, rfl, hh⟩⟩, hg, by omega, by omega⟩
end


section
variable {H : Type} {enc : TypeId × Value → H} {W : World} {base : Nat} {sp : Nat → Bool} {held : Bool}
theorem strs_of (l : List Str) : l.flatMap (fun b => [Value.string (bstr b)]) = strs l := by
  induction l with
  | nil => rfl
  | cons x r ih => simp only [List.flatMap_cons, ih]; rfl
theorem openB_strs {fuel : Nat} {cs : List Value} {x : DataW H × List MemPlace} (hf : DataW.trod enc Tryd.prog W base sp held fuel 22 cs = some x) :
    ∃ (A : Option Addr) (n c : Nat) (l : List Str), cs = [.slice A n c] ∧ n ≤ c ∧ c ≤ maxLen ∧ l.length = n ∧ Rd W 1 A n (strs l) ∧ ∀ y ∈ l, y.length ≤ maxLen := by
  obtain ⟨A, n, c, l, h1, h2, h3, h4, h5, hg, h6, _⟩ := open_rowU (α := Str) (cells := fun b => [.string (bstr b)]) (good := fun y => y.length ≤ maxLen) (fun _ => 0) (Rows.uptoBulk x.1) Tryd.underlying22 (by kernel_rfl : Tryd.prog.cellsOf 9 = 1) (fun _ => rfl)
    (fun n cs x hx _ => by
      obtain ⟨s, rfl, _, hw⟩ := DataW.trod_string Tryd.underlying9 hx
      exact ⟨s.data.toList, by rw [bstr_of], (by rw [Array.length_toList]; exact hw), Nat.zero_le _⟩) hf (by omega)
  exact ⟨A, n, c, l, h1, h2, h3, h4, by rw [← strs_of]; exact h5, hg⟩
set_option maxRecDepth 100000 in
theorem trod6 {t : TypeId} {f0 f1 f2 f3 f4 f5 : Field} {fuel : Nat} {cs : List Value} {x : DataW H × List MemPlace} (hs : Tryd.prog.underlying t = some (.struct #[f0, f1, f2, f3, f4, f5])) (hone : oneCellFields Tryd.prog #[f0, f1, f2, f3, f4, f5] = true) (hC : Tryd.prog.cellsOf t = 6) (h : DataW.trod enc Tryd.prog W base sp held fuel t cs = some x) :
    ∃ c0 c1 c2 c3 c4 c5 y0 y1 y2 y3 y4 y5 n, cs = [c0, c1, c2, c3, c4, c5] ∧ x.1 = .agg [y0.1, y1.1, y2.1, y3.1, y4.1, y5.1] ∧ DataW.trod enc Tryd.prog W base sp held n f0.type [c0] = some y0 ∧ DataW.trod enc Tryd.prog W base sp held n f1.type [c1] = some y1 ∧ DataW.trod enc Tryd.prog W base sp held n f2.type [c2] = some y2 ∧ DataW.trod enc Tryd.prog W base sp held n f3.type [c3] = some y3 ∧ DataW.trod enc Tryd.prog W base sp held n f4.type [c4] = some y4 ∧ DataW.trod enc Tryd.prog W base sp held n f5.type [c5] = some y5 := by
  obtain ⟨xs, n, _, hx, hl, hlen, hg⟩ := DataW.trod_struct hs h
  obtain ⟨o0, k0⟩ := hone_of hone 0 f0 rfl
  obtain ⟨o1, k1⟩ := hone_of hone 1 f1 rfl
  obtain ⟨o2, k2⟩ := hone_of hone 2 f2 rfl
  obtain ⟨o3, k3⟩ := hone_of hone 3 f3 rfl
  obtain ⟨o4, k4⟩ := hone_of hone 4 f4 rfl
  obtain ⟨o5, k5⟩ := hone_of hone 5 f5 rfl
  match cs, hl.trans hC, xs, hlen with
  | [c0, c1, c2, c3, c4, c5], _, [y0, y1, y2, y3, y4, y5], _ => exact ⟨c0, c1, c2, c3, c4, c5, y0, y1, y2, y3, y4, y5, n, rfl, by rw [hx]; rfl, by simpa [o0, k0] using hg 0 f0 rfl, by simpa [o1, k1] using hg 1 f1 rfl, by simpa [o2, k2] using hg 2 f2 rfl, by simpa [o3, k3] using hg 3 f3 rfl, by simpa [o4, k4] using hg 4 f4 rfl, by simpa [o5, k5] using hg 5 f5 rfl⟩

theorem enodesL_sum : ∀ l : List Ex, enodesL l = (l.map Ex.nodes).sum
  | [] => rfl
  | x :: l => by simp only [enodesL, List.map_cons, List.sum_cons, enodesL_sum l]
theorem sum_len (l : List Str) : (l.map fun s => s.length + 1).sum = (l.map List.length).sum + l.length := by
  induction l with
  | nil => rfl
  | cons x r ih => simp only [List.map_cons, List.sum_cons, List.length_cons, ih]; omega
theorem mem_sum (l : List Str) (s : Str) (h : s ∈ l) : s.length ≤ (l.map fun s => s.length + 1).sum := by
  induction l with
  | nil => cases h
  | cons x r ih =>
    simp only [List.map_cons, List.sum_cons]
    rcases List.mem_cons.1 h with rfl | q
    · omega
    · have := ih q; omega
theorem openW_strs {fuel : Nat} {cs : List Value} {x : DataW H × List MemPlace} (hf : DataW.trod enc Tryd.prog W base sp held fuel 22 cs = some x) :
    ∃ (A : Option Addr) (n c : Nat) (l : List Str), cs = [.slice A n c] ∧ n ≤ c ∧ c ≤ maxLen ∧ l.length = n ∧ Rd W 1 A n (strs l) ∧ (∀ y ∈ l, y.length ≤ maxLen) ∧ (l.map fun s => s.length + 1).sum + 1 ≤ Rows.uptoBulk x.1 := by
  obtain ⟨A, n, c, l, h1, h2, h3, h4, h5, hg, h6, h7⟩ := open_rowU (α := Str) (cells := fun b => [.string (bstr b)]) (good := fun y => y.length ≤ maxLen) (fun s => s.length + 1) (Rows.uptoBulk x.1) Tryd.underlying22 (by kernel_rfl : Tryd.prog.cellsOf 9 = 1) (fun _ => rfl)
    (fun n cs x hx _ => by
      obtain ⟨s, rfl, hxx, hw⟩ := DataW.trod_string Tryd.underlying9 hx
      exact ⟨s.data.toList, by rw [bstr_of], (by rw [Array.length_toList]; exact hw), by rw [hxx]; simp only [Rows.uptoBulk]; omega⟩) hf (by omega)
  exact ⟨A, n, c, l, h1, h2, h3, h4, by rw [← strs_of]; exact h5, hg, h7⟩

set_option maxRecDepth 100000 in
theorem openU_ex : ∀ (B : Nat), B ≤ 1048576 → ∀ (fuel : Nat) (cs : List Value) (x : DataW H × List MemPlace), DataW.trod enc Tryd.prog W base sp held fuel 25 cs = some x → Rows.uptoBulk x.1 ≤ B →
    ∃ t : Ex, t.cells = cs ∧ (t.In W ∧ ExG t) ∧ t.nodes ≤ Rows.uptoBulk x.1
  | 0, _, fuel, cs, x, hx, hB => by have := bulk_pos x.1; omega
  | B + 1, hB4, fuel, cs, x, hx, hB => by
    obtain ⟨c0, c1, c2, c3, c4, c5, y0, y1, y2, y3, y4, y5, k, rfl, hxx, e0, e1, e2, e3, e4, e5⟩ := trod6 Tryd.underlying25 (by kernel_rfl) (by kernel_rfl) hx
    have p0 := bulk_pos y0.1
    have p1 := bulk_pos y1.1
    rw [hxx] at hB ⊢
    simp only [Rows.uptoBulk, Rows.uptoBulkAll] at hB ⊢
    obtain ⟨kd, h0, _, _⟩ := DataW.trod_int Tryd.underlying3 e0
    obtain ⟨n, h1, _, w1⟩ := DataW.trod_int Tryd.underlying2 e1
    obtain ⟨s, h2, x2, w2⟩ := DataW.trod_string Tryd.underlying9 e2
    obtain ⟨t, h3, x3, w3⟩ := DataW.trod_string Tryd.underlying9 e3
    have b2 : s.data.toList.length + 1 ≤ Rows.uptoBulk y2.1 := by rw [x2]; simp only [Rows.uptoBulk]; omega
    have b3 : t.data.toList.length + 1 ≤ Rows.uptoBulk y3.1 := by rw [x3]; simp only [Rows.uptoBulk]; omega
    obtain ⟨nA, nn, nc, nb, h4, n1, n2, n3, n4, n5, n6⟩ := openW_strs e4
    obtain ⟨pA, pn, pc, pl, h5, q1, q2, q3, q4, q5, q6, q7⟩ := open_rowU (α := Ex) (cells := Ex.cells) (good := fun t => t.In W ∧ ExG t) Ex.nodes B Tryd.underlying23 (by kernel_rfl : Tryd.prog.cellsOf 25 = 6) Ex.cells_len
      (fun n cs x hx hb => openU_ex B (by omega) n cs x hx hb) e5 (by omega)
    simp only [List.cons.injEq, and_true] at h0 h1 h2 h3 h4 h5
    subst h0
    subst h1
    subst h2
    subst h3
    subst h4
    subst h5
    have hl2 := sum_len nb
    refine ⟨.mk ⟨kd, n, s.data.toList, t.data.toList, nA, nn, nc, nb, pA, pn, pc⟩ pl, by simp only [Ex.cells, ExD.cells, Ex.d, bstr_of], ⟨.mk _ _ n4 q4 ⟨⟨n1, n2, ?_⟩, ⟨q1, q2, ?_⟩, ?_, ?_, ?_⟩ (fun y hy => (q5 y hy).1), .mk _ _ (wf_i64 w1) ?_ q3 ?_ n3 (fun y hy => (q5 y hy).2)⟩, ?_⟩
    · show nn ≤ _; omega
    · show pn ≤ _; omega
    · show s.data.toList.length ≤ _; omega
    · show t.data.toList.length ≤ _; omega
    · intro z hz
      have := mem_sum nb z hz
      omega
    · show s.data.toList.length ≤ _; omega
    · show pn ≤ _; omega
    · simp only [Ex.nodes, enodesL_sum]
      omega
end
/-- What the rows of this seat list. -/
abbrev seatLaid : List (String × DataW Unit) := [("math/bits.deBruijn32tab", Rows.laid_math_bits_deBruijn32tab), ("math/bits.deBruijn64tab", Rows.laid_math_bits_deBruijn64tab), ("internal/strconv.uint64pow10", Rows.laid_internal_strconv_uint64pow10)]

set_option maxRecDepth 100000 in
theorem lay_of_laid {W : World} (h : laidMetH Tryd.prog seatLaid W) : Tab W := by
  have h' : laidMet Tryd.prog seatLaid W := h
  have h2 : laidMet Tryd.prog [("internal/strconv.uint64pow10", Lib.tabData .u64 Lib.pow10Tab)] W := by
    have h3 := h'.tail.tail
    exact h3
  exact (Lib.tabIs_of_head gTab (by kernel_rfl) Tryd.underlying111 Tryd.underlying103 (by kernel_rfl) (by kernel_rfl) h2)
theorem door_met (os : Os) (args : Array Value) : laidMetH Tryd.prog seatLaid ((World.doorLaid Tryd.prog 65 os).forCall (fun _ _ => 0) ⟨#[], args, []⟩).memory :=
  laidMetH_of_parts3 (fuel := 8) (laidMet_of_run' 8 (by kernel_rfl) (by kernel_rfl)) (by kernel_rfl) (by kernel_rfl)

/-- What is to be walked of a law, the bound and the tied variables handed to the walk. -/
def LawWalkU (F : FuncId) (ts : List TypeId) : Prop :=
  ∀ (H : Type) (enc : TypeId × Value → H) (W : World) (base : Nat) (args : Array Value) (ds : List (DataW H)) (p : List MemPlace),
    (∀ (j : Nat) t v, ts[j]? = some t → args[j]? = some v → Value.okWide Tryd.prog W .any base t v) →
    DataW.TrodAll enc Tryd.prog W 0 (fun _ => true) true ts args.toList ds p → (∀ x ∈ p, x.block < W.heap.size) → Tab W → Rows.uptoBulkAll ds ≤ 1048576 →
    Calls Tryd.prog F args W fun e W' => e = .returned (.bool true) ∧ Below W.heap.size W W'

set_option maxRecDepth 100000 in
theorem law_liftedU {os : Os} (started : os.Started) {H : Type} {enc : TypeId × Value → H} {F : FuncId} {f : Func} {s : ChangeSpec} {ts : List TypeId} (G : Stop.Interp)
    (hF : Tryd.prog.funcs[F]? = some f) (noInit : Tryd.checked.prog.inits.idxOf? F = none) (hp : f.params.toList = ts) (hres : f.resultTypes = #[4]) (hv : s.vars = [])
    (hs : ∀ (H : Type) (ds : List (DataW H)), ds.length = ts.length → s.fn H ds = { results := [.lit (.bool true)], args := ds })
    (hr0 : (ts.all fun t => Tryd.prog.readableRec t && decide (t < Tryd.prog.types.size)) = true)
    (witness : ∃ (w : World) (tape : Tape) (i : Input), w.os = os ∧ (w.forCall tape i).Shaped Tryd.checked.prog ∧ i.vars = [] ∧ Input.okWide Tryd.checked.prog (w.forCall tape i) .any w.heap.size F i ∧
      (Rows.OpenSpec.upto s).preRow enc Tryd.checked.prog f [] false seatLaid (w.forCall tape i).memory i.args ∧ Assume.holds {} Tryd.checked.prog (lone (Frame.enter Tryd.checked.prog F i.args .normal) [] (w.forCall tape i)))
    (walk : LawWalkU F ts) :
    ReturnsInHanded {} Tryd.checked os F .any ((Rows.OpenSpec.upto s).preRow enc Tryd.prog f [] false seatLaid) (((Rows.OpenSpec.upto s).at G).post enc Tryd.prog f false true false false) := by
  have hr : ∀ t ∈ ts, Tryd.prog.readableRec t = true ∧ t < Tryd.prog.types.size := fun t ht => by
    have h := List.all_eq_true.1 hr0 t ht
    simpa using h
  refine returnsInHanded_of_row (C := Tryd.checked) (s := Rows.OpenSpec.upto s) own started noInit hF witness ?_
  intro W base args ds gs before hval hW _ hk _ hL _ _
  have hW' : DataW.Whole enc Tryd.prog f.params.toList s.vars false W args.toList ds gs before := hW
  obtain ⟨p, q, hA0, hV, rfl, hfz, hnd⟩ := hW
  have hA : DataW.TrodAll enc Tryd.prog W 0 (fun _ => true) true f.params.toList args.toList ds p := hA0
  have hlt : ∀ x ∈ p, x.block < W.heap.size := fun x hx => hW'.lt x (by simp [hx])
  rw [hp] at hA
  have hlen : ds.length = ts.length := trodAll_length ts _ _ _ hA
  rw [show (Rows.OpenSpec.upto s).vars = [] from hv] at hV
  obtain ⟨rfl, rfl⟩ := trodVars_none hV
  have hbulk : Rows.uptoBulkAll ds ≤ 1048576 := by
    have h := hk _ rfl
    rw [List.append_nil] at h
    exact of_decide_eq_true h
  refine (walk H enc W base args ds p ?_ hA hlt (lay_of_laid hL) hbulk).mono fun e W' ⟨he, hb⟩ => ?_
  · intro j t v hj hva
    refine hval j t v ?_ hva
    rw [← hp] at hj
    simpa using hj
  · subst he
    exact ⟨_, rfl, law_post hp hres hv (by rw [List.append_nil]; exact hs H ds hlen) hr hW' hb⟩
end Go.Proofs.YtpdfjdomjklkbaaDoor

namespace Go.Proofs.YtpdfjdomjklkbaaDoor
open Go.ChangeShapes Go.WideShapes Go.ChangeAt Go.RowKit
set_option linter.unusedVariables false
set_option linter.unusedSimpArgs false

set_option maxRecDepth 100000 in
theorem coreMore_walk : LawWalkU 3 [25, 22, 3, 3] := by
  intro H enc W base args ds p hval hA hlt hL hbulk
  obtain ⟨v0, vs0, d0, ds0, p0, q0, hargs, rfl, rfl, h0, r0⟩ := trodAll_cons hA
  obtain ⟨v1, vs1, d1, ds1, p1, q1, rfl, rfl, rfl, h1, r1⟩ := trodAll_cons r0
  obtain ⟨v2, vs2, d2, ds2, p2, q2, rfl, rfl, rfl, h2, r2⟩ := trodAll_cons r1
  obtain ⟨v3, vs3, d3, ds3, p3, q3, rfl, rfl, rfl, h3, r3⟩ := trodAll_cons r2
  obtain ⟨rfl, rfl, rfl⟩ := trodAll_nil r3
  obtain rfl : args = #[v0, v1, v2, v3] := by cases args; simp_all
  simp only [Rows.uptoBulkAll] at hbulk
  have b0 := bulk_pos d0
  have b1 := bulk_pos d1
  have b2 := bulk_pos d2
  have b3 := bulk_pos d3
  -- the expression
  obtain ⟨cs, rfl, hcs⟩ := okWide_struct Tryd.underlying25 (hval 0 _ v0 rfl rfl)
  obtain ⟨fuel, hf⟩ := h0
  obtain ⟨t, htc, ⟨hI, hG⟩, hnod⟩ := openU_ex 1048576 (by omega) _ _ _ hf (show Rows.uptoBulk d0 ≤ 1048576 by omega)
  have hv0 : Value.agg cs = .agg t.d.arr := by
    have : t.cells = cs.toList := htc
    rw [show cs = cs.toList.toArray from by simp, ← this]
    cases t
    rfl
  -- the input's lines
  obtain ⟨LA, ln, lc, rfl⟩ := okWide_slice Tryd.underlying22 (hval 1 _ v1 rfl rfl)
  obtain ⟨fuel1, hf1⟩ := h1
  obtain ⟨LA', ln', lc', l, hc1, hn1, hn2, hk1, hLA, hls, hlb⟩ := openW_strs hf1
  simp [Value.cells] at hc1
  obtain ⟨rfl, rfl, rfl⟩ := hc1
  subst hk1
  have hll : l.length ≤ 4000000 := by
    have h := sum_len l
    have : (l.map fun s => s.length + 1).sum + 1 ≤ Rows.uptoBulk d1 := hlb
    omega
  -- the two amounts
  obtain ⟨m2, rfl⟩ := okWide_int Tryd.underlying3 (hval 2 _ v2 rfl rfl)
  obtain ⟨m3, rfl⟩ := okWide_int Tryd.underlying3 (hval 3 _ v3 rfl rfl)
  have hA2 : 0 < l.length → ∀ a, LA = some a → a.block < W.heap.size := by
    intro h a ha
    obtain ⟨a', ha', hb, _⟩ := hLA.addr (by simpa [strs] using h)
    rw [ha'] at ha
    cases ha
    exact hb
  have h := law_any W t hI hG LA l lc hLA hA2 hll ⟨hn1, hn2⟩ m2 m3 hL
  rw [hv0]
  exact h

set_option maxRecDepth 100000 in
theorem coreMore_reads (os : Os) {H : Type} (enc : TypeId × Value → H) : ∃ places, DataW.whole enc Tryd.prog ((World.doorLaid Tryd.prog 65 os).forCall (fun _ _ => 0) ⟨#[], #[.agg #[.int .i64 0, .int .i64 0, .string ⟨#[]⟩, .string ⟨#[]⟩, .slice none 0 0, .slice none 0 0], .slice none 0 0, .int .i64 0, .int .i64 0], []⟩).memory Tryd.f3.params.toList Rows.coreMoreSpec.vars false (#[Value.agg #[.int .i64 0, .int .i64 0, .string ⟨#[]⟩, .string ⟨#[]⟩, .slice none 0 0, .slice none 0 0], .slice none 0 0, .int .i64 0, .int .i64 0] : Array Value).toList 8
    = some ([.agg [.lit (.int .i64 0), .lit (.int .i64 0), .lit (.string []), .lit (.string []), .nil, .nil], .nil, .lit (.int .i64 0), .lit (.int .i64 0)], [], places) :=
  ⟨[], by kernel_rfl⟩

set_option maxRecDepth 100000 in
theorem coreMore_row : Rows.CoreMoreUptoSaid :=
  OpenClaim.holds_of_cond 3 Tryd.f3 rfl rfl rfl rfl rfl rfl rfl ⟨rfl, rfl, rfl, rfl, rfl⟩ rfl rfl rfl rfl rfl (by kernel_rfl) Tryd.func3 (by kernel_rfl)
    (of_decide_eq_true (by kernel_rfl)) (by unfold Func.isWrapper; first | (rw [if_pos (by decide +kernel)]; kernel_rfl) | (rw [if_neg (by decide +kernel)]; exact ⟨rfl, rfl⟩))
    (fun os started H enc _ F => by
      rw [OpenClaim.pre_eq_preRow]
      obtain ⟨places, hx⟩ := coreMore_reads os enc
      exact law_liftedU (f := Tryd.f3) (s := Rows.coreMoreSpec) started F Tryd.func3 (by kernel_rfl) (by rw [Tryd.params3]) rfl rfl
        (fun H ds h => by match ds, h with | [_, _, _, _], _ => rfl) (by kernel_rfl)
        (witness_row_at (enc := enc) (C := Tryd.checked) false (World.doorLaid Tryd.prog 65 os) #[.agg #[.int .i64 0, .int .i64 0, .string ⟨#[]⟩, .string ⟨#[]⟩, .slice none 0 0, .slice none 0 0], .slice none 0 0, .int .i64 0, .int .i64 0] rfl (by kernel_rfl) (by kernel_rfl) (by kernel_rfl)
          (OpenSpec.preRow_of_cond 8 hx (by kernel_rfl) (fun k hk => by cases hk; kernel_rfl) (by kernel_rfl) (door_met os _))) coreMore_walk)

theorem coreMore_holds : Rows.CoreMoreUptoCardSaid :=
  Claim7.holds_tied_plain_at .later [] [.data, .data, .data] true (true, Rows.coreMoreUptoCard.stood.harness.2) false
    coreMore_row (fun _ h => by cases h) (by kernel_rfl) (fun _ h => by cases h) coreMoreUpto_row_tie rfl ⟨rfl, rfl⟩ (by kernel_rfl) rfl
    (fun f fn hf hfn => by
      obtain rfl : f = 3 := Option.some.inj ((show Tryd.prog.funcNamed "bushel/bushellaw14.CoreMore" = some 3 by kernel_rfl).symm.trans hf) |>.symm
      obtain rfl : fn = Tryd.f3 := (Option.some.inj (Tryd.func3.symm.trans hfn)).symm
      exact ⟨by kernel_rfl, fun j t ht => by
        rw [Tryd.params3] at ht
        have h3 : t ∈ [25, 22, 3, 3] := List.mem_of_getElem? (by simpa using ht)
        have hall : ∀ t ∈ [25, 22, 3, 3], Tryd.prog.wantsStandIn t = false := by
          intro t ht
          have := List.all_eq_true.1 (show ([25, 22, 3, 3].all fun t => !Tryd.prog.wantsStandIn t) = true by kernel_rfl) t ht
          simpa using this
        exact hall t h3⟩)
    (by kernel_rfl)
#print axioms coreMore_holds
end Go.Proofs.YtpdfjdomjklkbaaDoor
