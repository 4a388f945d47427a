/-
  ModelMore holds where what it reads is of bulk at most 1048576: the law returns true, and each argument reads afterwards as it read before; the tied variables read as the program's text lays them. No other condition.
  Expressions that came in, opened under the bound on all that they hold; what the tied variables hold; from a walk to a statement of the second form.
  From a walk to a statement: a law that returns true and turns nothing that was there meets its row.
  Texts, and lists of texts, that came in.
  Arguments opened: a slice that came in, whatever its elements.
  The law: with more fuel, if it ended, it ends the same; if it didn't, the trace goes on.
  The document's example.
-/
import Derived.Test.YtjmgnohepoacbaaDoorK15
import Derived.Test.YtjmgnohepoacbaaDoorK00
import Derived.Deep.Slices
import Derived.Deep.Fields
import Derived.Lib.SmallJoins
import Derived.ChangeMaps5
import Derived.Test.YtjmgnohepoacbaaDoorRows
import Derived.WalkKit
import Derived.ProofKit
import Derived.OpenShut
import Derived.ShutString
import Derived.ChangeOld
import Derived.Below
import Derived.Carry
import Derived.ChangeSame
import Derived.ChangeVars
import Derived.Deep.DeepHandedRow
import Derived.JoinedOf
import Derived.LaidHandle
import Derived.LaidLaws
import Derived.LaidMore
import Derived.Lib.LaidTab
import Derived.Shelf.Strconv.Itoa1
import Derived.Stop.Joined
import Derived.Stop.LaidErr
import Derived.Test.YtjmgnohepoacbaaDoorCards
import Derived.Test.YtjmgnohepoacbaaDoorTie
import Derived.SevenTiedAt
namespace Go.Proofs.YtjmgnohepoacbaaDoor
open Go Go.ChangeShapes Go.WideShapes Go.ChangeAt Go.RowKit Go.Sort
set_option linter.unusedVariables false
set_option linter.unusedSimpArgs false

theorem run_add (m n : Nat) (s : St) : St.run (m + n) s = St.run n (St.run m s) := by
  induction m generalizing s with
  | zero => rw [Nat.zero_add]; rfl
  | succ m ih => rw [show m + 1 + n = (m + n) + 1 by omega]; exact ih s.step
theorem run_uniq {n m : Nat} {s : St} (h : (St.run n s).done) (h2 : (St.run m s).done) : St.run n s = St.run m s := by
  rcases Nat.le_total n m with q | q
  · obtain ⟨d, rfl⟩ := Nat.exists_eq_add_of_le q
    rw [run_add, run_done h]
  · obtain ⟨d, rfl⟩ := Nat.exists_eq_add_of_le q
    rw [run_add, run_done h2]
abbrev bareX (k n : Int) : Ex := .mk ⟨k, 0, n, [], [], none, 0, 0, [], none, 0, 0, [], none, 0, 0⟩ []
def extX (g : Nat) : Ex := .mk ⟨10, 0, 0, [97], [], none, 0, 0, [], none, 0, 0, [], some ⟨g, 0, none⟩, 2, 2⟩ [bareX 1 1, bareX 8 0]
def selX (g : Nat) : Ex := .mk ⟨9, 0, 0, [97], [], none, 0, 0, [], none, 0, 0, [], some ⟨g, 0, none⟩, 1, 1⟩ [bareX 8 0]
theorem bare_in (w : World) (k n : Int) : (bareX k n).In w := .mk _ _ (Rd.nil w 1 none) (Rd.nil w 1 none) (Rd.nil w 8 none) ⟨⟨Nat.le_refl _, Nat.zero_le _, Nat.zero_le _⟩, ⟨Nat.le_refl _, Nat.zero_le _, Nat.zero_le _⟩, ⟨Nat.le_refl _, Nat.zero_le _, Nat.zero_le _⟩, Nat.zero_le _, Nat.zero_le _, (fun s hs => nomatch hs), fun s hs => nomatch hs⟩ (fun x hx => nomatch hx)
theorem bare_g (k n : Int) (h : -9223372036854775808 ≤ n ∧ n ≤ 9223372036854775807) : ExG (bareX k n) := .mk _ _ h (Nat.zero_le _) rfl (Nat.zero_le _) rfl rfl (Nat.zero_le _) (fun x hx => nomatch hx) (fun x hx => nomatch hx)
theorem ext_g (g : Nat) : ExG (extX g) := .mk _ _ (show (-9223372036854775808 : Int) ≤ 0 ∧ (0 : Int) ≤ 9223372036854775807 by decide) (show 1 ≤ 4000000 by decide) rfl (show 2 ≤ 4000000 by decide) rfl rfl (Nat.zero_le _) (fun x hx => nomatch hx) (fun x hx => by
  rcases List.mem_cons.1 hx with rfl | hx
  · exact bare_g _ _ (by decide)
  · rw [List.mem_singleton.1 hx]; exact bare_g _ _ (by decide))
theorem sel_g (g : Nat) : ExG (selX g) := .mk _ _ (show (-9223372036854775808 : Int) ≤ 0 ∧ (0 : Int) ≤ 9223372036854775807 by decide) (show 1 ≤ 4000000 by decide) rfl (show 1 ≤ 4000000 by decide) rfl rfl (Nat.zero_le _) (fun x hx => nomatch hx) (fun x hx => by
  rw [List.mem_singleton.1 hx]; exact bare_g _ _ (by decide))
theorem ext_in (w : World) : (extX w.heap.size).In (w.alloc (.cells #[.int .i64 1, .int .i64 0, .int .i64 1, .string ⟨#[]⟩, .string ⟨#[]⟩, .slice none 0 0, .slice none 0 0, .slice none 0 0, .int .i64 8, .int .i64 0, .int .i64 0, .string ⟨#[]⟩, .string ⟨#[]⟩, .slice none 0 0, .slice none 0 0, .slice none 0 0] 25)) := by
  have hr := Rd.lit (size := 8) (n := 2) w #[.int .i64 1, .int .i64 0, .int .i64 1, .string ⟨#[]⟩, .string ⟨#[]⟩, .slice none 0 0, .slice none 0 0, .slice none 0 0, .int .i64 8, .int .i64 0, .int .i64 0, .string ⟨#[]⟩, .string ⟨#[]⟩, .slice none 0 0, .slice none 0 0, .slice none 0 0] 25 rfl (fr := (0, 0))
  refine .mk _ _ (Rd.nil _ 1 none) (Rd.nil _ 1 none) hr ⟨⟨Nat.le_refl _, Nat.zero_le _, Nat.zero_le _⟩, ⟨Nat.le_refl _, Nat.zero_le _, Nat.zero_le _⟩, ⟨Nat.le_refl _, by simp [maxLen], show 2 ≤ 4000000 by decide⟩, show 1 ≤ 4000000 by decide, Nat.zero_le _, (fun s hs => nomatch hs), fun s hs => nomatch hs⟩ (fun x hx => ?_)
  rcases List.mem_cons.1 hx with rfl | hx
  · exact bare_in _ _ _
  · rw [List.mem_singleton.1 hx]; exact bare_in _ _ _
theorem sel_in (w : World) : (selX w.heap.size).In (w.alloc (.cells #[.int .i64 8, .int .i64 0, .int .i64 0, .string ⟨#[]⟩, .string ⟨#[]⟩, .slice none 0 0, .slice none 0 0, .slice none 0 0] 25)) := by
  have hr := Rd.lit (size := 8) (n := 1) w #[.int .i64 8, .int .i64 0, .int .i64 0, .string ⟨#[]⟩, .string ⟨#[]⟩, .slice none 0 0, .slice none 0 0, .slice none 0 0] 25 rfl (fr := (0, 0))
  refine .mk _ _ (Rd.nil _ 1 none) (Rd.nil _ 1 none) hr ⟨⟨Nat.le_refl _, Nat.zero_le _, Nat.zero_le _⟩, ⟨Nat.le_refl _, Nat.zero_le _, Nat.zero_le _⟩, ⟨Nat.le_refl _, by simp [maxLen], show 1 ≤ 4000000 by decide⟩, show 1 ≤ 4000000 by decide, Nat.zero_le _, (fun s hs => nomatch hs), fun s hs => nomatch hs⟩ (fun x hx => ?_)
  rw [List.mem_singleton.1 hx]; exact bare_in _ _ _
theorem ext_run (g : Nat) : St.run 7 (St.mk1 [] 9 (extX g)) = { err := 0, fault := 0, trace := [], input := [], fuel := 6, refs := [], vals := [.mk 4 0 [] [[97]] [.mk 1 1 [] [] [] none] none], frames := [], next := none } := by kernel_rfl
theorem ext_text : wrV [] 2001 [] (.mk 4 0 [] [[97]] [.mk 1 1 [] [] [] none] none) = [123, 97, 32, 61, 32, 49, 125] := by kernel_rfl
theorem sel_run (g : Nat) : (St.run 5 (St.mk1 [] 9 (selX g))).err = 11 := by kernel_rfl
abbrev boxO (err fault : Int) (x : Str) (A : Option Addr) (len c : Nat) : Obj := .cells #[.int .i64 err, .int .i64 fault, .string (bstr x), .slice A len c] 32
set_option maxRecDepth 100000 in
set_option maxHeartbeats 4000000 in
theorem up_any (w : World) (hT : Tab w) :
    Calls Tryd.prog 4 #[] w fun e w' => e = .returned (.bool true) ∧ Below w.heap.size w w' := by
  have HN := Lib.hid (fun (V : World) => (show InR V V.heap.size [] (.slice none 0 0) from ⟨none, 0, rfl, ⟨Nat.le_refl _, Nat.zero_le _⟩, Rd.nil V 1 none, fun h => absurd h (Nat.lt_irrefl 0)⟩))
  have HT := Lib.hid hT
  have hb1 : Below w.heap.size w (w.alloc (.cells #[.int .i64 8, .int .i64 0, .int .i64 0, .string ⟨#[]⟩, .string ⟨#[]⟩, .slice none 0 0, .slice none 0 0, .slice none 0 0] 25)) := (Below.refl _ _).alloc (Nat.le_refl _) _
  have hu1 := heap_new (w := w) (o := .cells #[.int .i64 8, .int .i64 0, .int .i64 0, .string ⟨#[]⟩, .string ⟨#[]⟩, .slice none 0 0, .slice none 0 0, .slice none 0 0] 25) rfl
  obtain ⟨W1, hW1⟩ : ∃ W1, w.alloc (.cells #[.int .i64 8, .int .i64 0, .int .i64 0, .string ⟨#[]⟩, .string ⟨#[]⟩, .slice none 0 0, .slice none 0 0, .slice none 0 0] 25) = W1 := ⟨_, rfl⟩
  have HW1 := Lib.hid hW1
  rw [hW1] at hb1 hu1
  have HU := Lib.hid hu1
  obtain ⟨u0, u1, u2, u3, u4, u5, u6, u7⟩ := cells8 hu1
  have hb2 : Below W1.heap.size W1 (W1.alloc (.cells #[.int .i64 1, .int .i64 0, .int .i64 1, .string ⟨#[]⟩, .string ⟨#[]⟩, .slice none 0 0, .slice none 0 0, .slice none 0 0, .int .i64 8, .int .i64 0, .int .i64 0, .string ⟨#[]⟩, .string ⟨#[]⟩, .slice none 0 0, .slice none 0 0, .slice none 0 0] 25)) := (Below.refl _ _).alloc (Nat.le_refl _) _
  have HR1 := Lib.hid (modelRun_any _ (extX W1.heap.size) (ext_in W1) (ext_g _) [] (.slice none 0 0) (HN.out _) (by simp) 9 (by decide) (tab_below hT (below_then hb1 hb2)))
  have HB2 := Lib.hid (below_then hb1 hb2)
  have HB12 := Lib.hid hb2
  clear hT hb1 hb2 hu1 hW1
  go_enter Tryd.func4, Tryd.ntmps4
  go_upto_region 2 with fail
  rw [HW1.out]
  go_wp2_with fail
  refine HR1.out.mono ?_
  rintro e w2 ⟨m1, s1, At1, ct1, x1, rfl, hs1, hd1, hr1, hc1, hn1, hb3, hx1⟩
  have he1 := run_uniq (n := m1) (m := 7) (by rw [← hs1]; exact hd1) (by rw [ext_run]; exact .inr ⟨rfl, rfl⟩)
  rw [← hs1, ext_run] at he1
  have hk1 : x1 = [123, 97, 32, 61, 32, 49, 125] ∧ s1.err = 0 := by
    rcases hx1 with ⟨q, _⟩ | ⟨q, z, hz, hx⟩
    · exact absurd (by rw [he1]) q
    · refine ⟨?_, q⟩
      rw [he1] at hz hx
      have hz' : z = .mk 4 0 [] [[97]] [.mk 1 1 [] [] [] none] none := (List.cons.inj hz).1.symm
      rw [hx, hz']
      exact ext_text
  obtain ⟨rfl, hz1⟩ := hk1
  have HB3 := Lib.hid (below_then HB2.out hb3)
  have hu2 := ((below_then HB12.out hb3).block _ (lt_of_heap HU.out)).trans HU.out
  rw [hz1]
  clear hs1 hd1 hr1 hc1 hn1 hb3 hx1 he1 hz1 u0 u1 u2 u3 u4 u5 u6 u7
  go_upto_region 3 with fail
  have hb4 : Below w2.heap.size w2 (w2.alloc (boxO 0 s1.fault [123, 97, 32, 61, 32, 49, 125] At1 s1.trace.length ct1)) := (Below.refl _ _).alloc (Nat.le_refl _) _
  have hq1 := heap_new (w := w2) (o := boxO 0 s1.fault [123, 97, 32, 61, 32, 49, 125] At1 s1.trace.length ct1) rfl
  have hu3 := (hb4.block _ (lt_of_heap hu2)).trans hu2
  obtain ⟨W3, hW3⟩ : ∃ W3, w2.alloc (boxO 0 s1.fault [123, 97, 32, 61, 32, 49, 125] At1 s1.trace.length ct1) = W3 := ⟨_, rfl⟩
  have HB4 := Lib.hid (below_then HB3.out hb4)
  rw [hW3] at HB4 hq1 hu3 ⊢
  obtain ⟨u0, u1, u2, u3, u4, u5, u6, u7⟩ := cells8 hu3
  have hb5 : Below W3.heap.size W3 (W3.alloc (.cells #[.int .i64 8, .int .i64 0, .int .i64 0, .string ⟨#[]⟩, .string ⟨#[]⟩, .slice none 0 0, .slice none 0 0, .slice none 0 0] 25)) := (Below.refl _ _).alloc (Nat.le_refl _) _
  have HR2 := Lib.hid (modelRun_any _ (selX W3.heap.size) (sel_in W3) (sel_g _) [] (.slice none 0 0) (HN.out _) (by simp) 9 (by decide) (tab_below HT.out (below_then HB4.out hb5)))
  have HQ := Lib.hid (And.intro hq1 hb5)
  clear hb4 hq1 hu2 hu3 hW3 hb5
  go_wp2_with fail
  refine HR2.out.mono ?_
  rintro e w5 ⟨m2, s2, At2, ct2, x2, rfl, hs2, hd2, hr2, hc2, hn2, hb6, hx2⟩
  have he2 : s2.err = 11 := by
    have hd5 : (St.run 5 (St.mk1 [] 9 (selX W3.heap.size))).done := .inl (by rw [sel_run]; decide)
    have := run_uniq (n := m2) (m := 5) (by rw [← hs2]; exact hd2) hd5
    rw [hs2, this, sel_run]
  rw [he2]
  have hb36 := below_then HQ.out.2 hb6
  have hq5 := (hb36.block _ (lt_of_heap HQ.out.1)).trans HQ.out.1
  have HB6 := Lib.hid (below_then HB4.out hb36)
  clear hs2 hd2 hr2 hc2 hn2 hb6 hx2 he2 hb36 u0 u1 u2 u3 u4 u5 u6 u7
  go_upto_region 4 with fail
  have hb7 : Below w5.heap.size w5 (w5.alloc (boxO 11 s2.fault x2 At2 s2.trace.length ct2)) := (Below.refl _ _).alloc (Nat.le_refl _) _
  have hq7 := heap_new (w := w5) (o := boxO 11 s2.fault x2 At2 s2.trace.length ct2) rfl
  have hq5' := (hb7.block _ (lt_of_heap hq5)).trans hq5
  generalize w5.alloc (boxO 11 s2.fault x2 At2 s2.trace.length ct2) = w7 at *
  obtain ⟨y0, y1, y2, y3⟩ := cells4 hq5'
  obtain ⟨v0, v1, v2, v3⟩ := cells4 hq7
  have HB7 := Lib.hid (below_then HB6.out hb7)
  have y2' : w7.cell? ⟨w2.heap.size, 2, none⟩ = some (.string ⟨#[123, 97, 32, 61, 32, 49, 125]⟩) := y2
  clear hb7 hq7 hq5 hq5' y2
  go_wp2_with fail
  go_returns
  exact ⟨rfl, HB7.out⟩
end Go.Proofs.YtjmgnohepoacbaaDoor

namespace Go.Proofs.YtjmgnohepoacbaaDoor
open Go Go.ChangeShapes Go.WideShapes Go.ChangeAt Go.RowKit Go.Sort
set_option linter.unusedVariables false
set_option linter.unusedSimpArgs false

/-- A run's text. -/
def Txt (s' : St) (x : Str) : Prop := (s'.err ≠ 0 ∧ x = []) ∨ (s'.err = 0 ∧ ∃ z, s'.vals = [z] ∧ x = wrV s'.refs 2001 [] z)
/-- What two runs are to each other. -/
theorem two_runs {input : List Str} {f more : Nat} {e : Ex} {m1 m2 : Nat} {s1 s2 : St} {x1 x2 : Str} (h1 : s1 = St.run m1 (St.mk1 input f e)) (h2 : s2 = St.run m2 (St.mk1 input (f + more : Nat) e)) (d1 : s1.done) (d2 : s2.done) (q1 : Txt s1 x1) (q2 : Txt s2 x2) :
    (s1.err = 8 → x1 = [] ∧ ∃ r, s2.trace = s1.trace ++ r) ∧ (s1.err ≠ 8 → s2.err = s1.err ∧ s2.fault = s1.fault ∧ s2.trace = s1.trace ∧ x1 = x2) := by
  have hfu : St.mk1 input ((f + more : Nat) : Int) e = (St.mk1 input f e).fu ((St.mk1 input f e).fuel + more) := by
    show _ = ({ St.mk1 input f e with fuel := (f : Int) + more } : St)
    rw [show ((f + more : Nat) : Int) = (f : Int) + more by omega]
    rfl
  have hm := run_more more m1 m2 (St.mk1 input f e) (by rw [← h1]; exact d1) (by rw [← hfu, ← h2]; exact d2)
  rw [← hfu, ← h1, ← h2] at hm
  refine ⟨fun he => ⟨?_, hm.2 he⟩, fun he => ?_⟩
  · rcases q1 with ⟨_, q⟩ | ⟨q, _⟩
    · exact q
    · rw [he] at q; exact absurd q (by decide)
  have h := hm.1 he
  have e1 : s2.err = s1.err := by rw [h]; rfl
  have e2 : s2.fault = s1.fault := by rw [h]; rfl
  have e3 : s2.trace = s1.trace := by rw [h]; rfl
  have e4 : s2.vals = s1.vals := by rw [h]; rfl
  have e5 : s2.refs = s1.refs := by rw [h]; rfl
  refine ⟨e1, e2, e3, ?_⟩
  rcases q1 with ⟨p1, rfl⟩ | ⟨p1, z, hz, rfl⟩
  · rcases q2 with ⟨_, q⟩ | ⟨q, _⟩
    · exact q.symm
    · rw [e1] at q; exact absurd q p1
  · rcases q2 with ⟨q, _⟩ | ⟨_, z', hz', rfl⟩
    · rw [e1] at q; exact absurd p1 q
    · rw [e4, hz] at hz'
      have hzz : z = z' := (List.cons.inj hz').1
      subst hzz
      rw [e5]
set_option maxRecDepth 100000 in
set_option maxHeartbeats 8000000 in
theorem law_any (w : World) (t : Ex) (hI : t.In w) (hG : ExG t) (hN : t.nodes ≤ 3000000) (A : Option Addr) (l : List Str) (c : Nat) (hr : Rd w 1 A l.length (strs l)) (hA : 0 < l.length → ∀ a, A = some a → a.block < w.heap.size) (hl : l.length ≤ 4000000) (hc : l.length ≤ c ∧ c ≤ maxLen) (fuel more : Int) (hT : Tab w) :
    Calls Tryd.prog 3 #[.agg t.d.arr, .slice A l.length c, .int .i64 fuel, .int .i64 more] w fun e w' => e = .returned (.bool true) ∧ Below w.heap.size w w' := by
  have hb0 : Below w.heap.size w (w.alloc (.cells t.d.arr 25)) := (Below.refl _ _).alloc (Nat.le_refl _) _
  have hx0 := ex_box w t.d
  obtain ⟨W0, hW0⟩ : ∃ W0, w.alloc (.cells t.d.arr 25) = W0 := ⟨_, rfl⟩
  rw [hW0] at hb0 hx0
  have HIN := Lib.hid (fun (V : World) (hV : Below w.heap.size w V) => (show InR V V.heap.size l (.slice A l.length c) from ⟨A, c, rfl, hc, hr.below hV, fun hn a ha => Nat.lt_of_lt_of_le (hA hn a ha) hV.size⟩))
  have HE := Lib.hid (And.intro hI (And.intro hG (And.intro hT hl)))
  have HX := Lib.hid hx0
  have HB0 := Lib.hid hb0
  have HNO := Lib.hid hN
  have HRD := Lib.hid (And.intro hr hl)
  have HW0 := Lib.hid hW0
  obtain ⟨c0, c1, c2, c3, c4, c5, c6, c7⟩ := hx0
  clear hb0 hI hG hN hr hA hl hc hT hW0
  go_enter Tryd.func3, Tryd.ntmps3
  go_upto_region 1 with fail
  rw [HW0.out]
  go_wp2_with fail
  refine (up_any W0 (tab_below HE.out.2.2.1 HB0.out)).mono ?_
  rintro e w1 ⟨rfl, hb1⟩
  have HB1 := Lib.hid (below_then HB0.out hb1)
  replace c0 := cell_below hb1 c0
  replace c1 := cell_below hb1 c1
  replace c2 := cell_below hb1 c2
  replace c3 := cell_below hb1 c3
  replace c4 := cell_below hb1 c4
  replace c5 := cell_below hb1 c5
  replace c6 := cell_below hb1 c6
  replace c7 := cell_below hb1 c7
  clear hb1
  go_wp2_with fail
  refine (Few_any w t HE.out.1 w1 HB1.out).mono ?_
  rintro e w2 ⟨⟨bf, rfl⟩, hb2⟩
  have HB2 := Lib.hid (below_then HB1.out hb2)
  replace c0 := cell_below hb2 c0
  replace c1 := cell_below hb2 c1
  replace c2 := cell_below hb2 c2
  replace c3 := cell_below hb2 c3
  replace c4 := cell_below hb2 c4
  replace c5 := cell_below hb2 c5
  replace c6 := cell_below hb2 c6
  replace c7 := cell_below hb2 c7
  clear hb2
  go_wp2_with fail
  refine (lines_any A l l.length c w2 (HRD.out.1.below HB2.out) HRD.out.2).mono ?_
  rintro e w3 ⟨⟨bl, rfl⟩, hb3⟩
  have HB3 := Lib.hid (below_then HB2.out hb3)
  replace c0 := cell_below hb3 c0
  replace c1 := cell_below hb3 c1
  replace c2 := cell_below hb3 c2
  replace c3 := cell_below hb3 c3
  replace c4 := cell_below hb3 c4
  replace c5 := cell_below hb3 c5
  replace c6 := cell_below hb3 c6
  replace c7 := cell_below hb3 c7
  clear hb3
  cases bf with
  | false =>
    clear c0 c1 c2 c3 c4 c5 c6 c7
    go_wp2_with fail
    go_returns
    exact ⟨rfl, HB3.out⟩
  | true =>
  cases bl with
  | false =>
    clear c0 c1 c2 c3 c4 c5 c6 c7
    go_wp2_with fail
    go_returns
    exact ⟨rfl, HB3.out⟩
  | true =>
  go_wp2_with fail
  refine (refNodes_any w t HE.out.1 HNO.out w3 HB3.out).mono ?_
  rintro e w4 ⟨rfl, hb4⟩
  have HB4 := Lib.hid (below_then HB3.out hb4)
  replace c0 := cell_below hb4 c0
  replace c1 := cell_below hb4 c1
  replace c2 := cell_below hb4 c2
  replace c3 := cell_below hb4 c3
  replace c4 := cell_below hb4 c4
  replace c5 := cell_below hb4 c5
  replace c6 := cell_below hb4 c6
  replace c7 := cell_below hb4 c7
  clear hb4
  obtain ⟨nn, hnn⟩ : ∃ nn, t.nodes = nn := ⟨_, rfl⟩
  rw [hnn]
  clear hnn
  by_cases q0 : (300 : Int) < (nn : Int)
  · have e0 : decide ((300 : Int) < (nn : Int)) = true := decide_eq_true q0
    clear c0 c1 c2 c3 c4 c5 c6 c7
    go_wp2_with fail
    go_returns
    exact ⟨rfl, HB4.out⟩
  have e0 : decide ((300 : Int) < (nn : Int)) = false := decide_eq_false q0
  by_cases q1 : fuel < 0
  · have e1 : decide (fuel < 0) = true := decide_eq_true q1
    clear c0 c1 c2 c3 c4 c5 c6 c7
    go_wp2_with fail
    go_returns
    exact ⟨rfl, HB4.out⟩
  have e1 : decide (fuel < 0) = false := decide_eq_false q1
  by_cases q2 : more < 0
  · have e2 : decide (more < 0) = true := decide_eq_true q2
    clear c0 c1 c2 c3 c4 c5 c6 c7
    go_wp2_with fail
    go_returns
    exact ⟨rfl, HB4.out⟩
  have e2 : decide (more < 0) = false := decide_eq_false q2
  by_cases q3 : 2000 < fuel
  · have e3 : decide (2000 < fuel) = true := decide_eq_true q3
    clear c0 c1 c2 c3 c4 c5 c6 c7
    go_wp2_with fail
    go_returns
    exact ⟨rfl, HB4.out⟩
  have e3 : decide (2000 < fuel) = false := decide_eq_false q3
  by_cases q4 : 2000 < more
  · have e4 : decide (2000 < more) = true := decide_eq_true q4
    clear c0 c1 c2 c3 c4 c5 c6 c7
    go_wp2_with fail
    go_returns
    exact ⟨rfl, HB4.out⟩
  have e4 : decide (2000 < more) = false := decide_eq_false q4
  obtain ⟨f, rfl⟩ : ∃ f : Nat, fuel = f := ⟨fuel.toNat, by omega⟩
  obtain ⟨m, rfl⟩ : ∃ m : Nat, more = m := ⟨more.toNat, by omega⟩
  have HF := Lib.hid (And.intro (show f ≤ 2000 by omega) (show m ≤ 2000 by omega))
  have HC1 := Lib.hid (modelRun_any w4 t (HE.out.1.lower HB4.out) HE.out.2.1 l _ (HIN.out w4 HB4.out) (by have := HE.out.2.2.2; omega) (f : Int) (by have := HF.out; omega) (tab_below HE.out.2.2.1 HB4.out))
  clear q0 q1 q2 q3 q4
  go_wp2_with fail
  refine HC1.out.mono ?_
  rintro e w5 ⟨m1, s1, At1, ct1, x1, rfl, hs1, hd1, hr1, hc1, hn1, hb5, ht1⟩
  have HB5 := Lib.hid (below_then HB4.out hb5)
  replace c0 := cell_below hb5 c0
  replace c1 := cell_below hb5 c1
  replace c2 := cell_below hb5 c2
  replace c3 := cell_below hb5 c3
  replace c4 := cell_below hb5 c4
  replace c5 := cell_below hb5 c5
  replace c6 := cell_below hb5 c6
  replace c7 := cell_below hb5 c7
  have HS1 := Lib.hid (And.intro hs1 (And.intro hd1 (And.intro hr1 (And.intro hc1 (And.intro hn1 (show Txt s1 x1 from ht1))))))
  clear hs1 hd1 hr1 hc1 hn1 hb5 ht1
  go_upto_region 7 with fail
  have hb6 : Below w5.heap.size w5 (w5.alloc (boxO s1.err s1.fault x1 At1 s1.trace.length ct1)) := (Below.refl _ _).alloc (Nat.le_refl _) _
  have hq2 := heap_new (w := w5) (o := boxO s1.err s1.fault x1 At1 s1.trace.length ct1) rfl
  generalize w5.alloc (boxO s1.err s1.fault x1 At1 s1.trace.length ct1) = w6 at *
  have HB6 := Lib.hid (below_then HB5.out hb6)
  replace c0 := cell_below hb6 c0
  replace c1 := cell_below hb6 c1
  replace c2 := cell_below hb6 c2
  replace c3 := cell_below hb6 c3
  replace c4 := cell_below hb6 c4
  replace c5 := cell_below hb6 c5
  replace c6 := cell_below hb6 c6
  replace c7 := cell_below hb6 c7
  have HQ := Lib.hid (And.intro hq2 (HS1.out.2.2.1.below hb6))
  clear hq2 hb6
  have i1 : IntKind.i64.wrap ((f : Int) + (m : Int)) = (f : Int) + (m : Int) := by rw [IntKind.wrap_i64]; have := HF.out; omega
  have HC2 := Lib.hid (modelRun_any w6 t (HE.out.1.lower HB6.out) HE.out.2.1 l _ (HIN.out w6 HB6.out) (by have := HE.out.2.2.2; omega) ((f : Int) + (m : Int)) (by have := HF.out; omega) (tab_below HE.out.2.2.1 HB6.out))
  go_wp2_with fail
  refine HC2.out.mono ?_
  rintro e w7 ⟨m2, s2, At2, ct2, x2, rfl, hs2, hd2, hr2, hc2, hn2, hb7, ht2⟩
  have hs2' : s2 = St.run m2 (St.mk1 l (f + m : Nat) t) := by rw [hs2, show ((f + m : Nat) : Int) = (f : Int) + (m : Int) by omega]
  have hto := two_runs HS1.out.1 hs2' HS1.out.2.1 hd2 HS1.out.2.2.2.2.2 (show Txt s2 x2 from ht2)
  have HB7 := Lib.hid (below_then HB6.out hb7)
  have hq2 := (hb7.block _ (lt_of_heap HQ.out.1)).trans HQ.out.1
  have HQ7 := Lib.hid (And.intro hq2 (And.intro (HQ.out.2.below hb7) hr2))
  have HS2 := Lib.hid (And.intro hc2 hn2)
  clear hs2 hs2' hd2 hr2 hc2 hn2 hb7 ht2 hq2 c0 c1 c2 c3 c4 c5 c6 c7 i1
  have HTO := Lib.hid hto
  clear hto
  go_upto_region 8 with fail
  have hb8 : Below w7.heap.size w7 (w7.alloc (boxO s2.err s2.fault x2 At2 s2.trace.length ct2)) := (Below.refl _ _).alloc (Nat.le_refl _) _
  have hq4 := heap_new (w := w7) (o := boxO s2.err s2.fault x2 At2 s2.trace.length ct2) rfl
  have hq2 := (hb8.block _ (lt_of_heap HQ7.out.1)).trans HQ7.out.1
  have hr1 := HQ7.out.2.1.below hb8
  have hr2 := HQ7.out.2.2.below hb8
  generalize w7.alloc (boxO s2.err s2.fault x2 At2 s2.trace.length ct2) = w8 at *
  have HB8 := Lib.hid (below_then HB7.out hb8)
  by_cases h8 : s1.err = 8
  · obtain ⟨hx1, r, hrr⟩ := HTO.out.1 h8
    subst hx1
    rw [h8] at hq2
    rw [hrr] at hr2 hq4
    obtain ⟨y0, y1, y2, y3⟩ := cells4 hq2
    obtain ⟨v0, v1, v2, v3⟩ := cells4 hq4
    have hbeg := begins_any At2 At1 s1.trace r ct2 ct1 w8 hr2 hr1 (by rw [← hrr]; exact HS2.out.1) (by rw [← hrr]; have := HS2.out.2; omega)
    obtain ⟨N, hN⟩ : ∃ N, (s1.trace ++ r).length = N := ⟨_, rfl⟩
    rw [hN] at hbeg v3
    have hy2 : w8.cell? ⟨w5.heap.size, 2, none⟩ = some (.string ⟨#[]⟩) := y2
    have HBE := Lib.hid hbeg
    have HY2 := Lib.hid hy2
    clear hq2 hq4 hb8 hr1 hr2 hbeg hrr hN y2
    go_wp2_with (go_at_call 9; (with_reducible refine HBE.out.mono ?_); rintro e w9 ⟨rfl, hb9⟩; have y2' := cell_below hb9 HY2.out; have HB9 := Lib.hid (below_then HB8.out hb9); clear hb9)
    go_returns
    exact ⟨rfl, HB9.out⟩
  · obtain ⟨a1, a2, a3, a4⟩ := HTO.out.2 h8
    subst a4
    rw [a1, a2, a3] at hq4
    rw [a3] at hr2
    obtain ⟨y0, y1, y2, y3⟩ := cells4 hq2
    obtain ⟨v0, v1, v2, v3⟩ := cells4 hq4
    have hout := outs_any At1 At2 s1.trace ct1 ct2 s1.err s1.fault x1 w8 hr1 hr2 (by have := HS1.out.2.2.2.2.1; omega)
    have HOU := Lib.hid hout
    have e8 : (s1.err == 8) = false := by simpa using h8
    clear hq2 hq4 hb8 hr1 hr2 hout h8 a1 a2 a3
    go_wp2_with (go_at_call 10; (with_reducible refine HOU.out.mono ?_); rintro e w9 ⟨rfl, hb9⟩; have HB9 := Lib.hid (below_then HB8.out hb9); clear hb9)
    go_returns
    exact ⟨rfl, HB9.out⟩
end Go.Proofs.YtjmgnohepoacbaaDoor

namespace Go.Proofs.YtjmgnohepoacbaaDoor
open Go.ChangeShapes Go.WideShapes Go.ChangeAt Go.RowKit
set_option linter.unusedVariables false

section
variable {H : Type} {enc : TypeId × Value → H} {P : Program} {W : World} {base : Nat} {sp : Nat → Bool} {held : Bool}

/-- A slice's elements, each read as one of a kind of your own ('cells': its cells; 'good': what the reading says of it); by the slice's one cell. -/
theorem open_row {α : Type} {cells : α → List Value} {good : α → Prop} {t e : TypeId} {size : Nat} (ht : P.underlying t = some (.slice e)) (hC : P.cellsOf e = size) (hsz : ∀ y, (cells y).length = size) (h0 : 0 < size)
    (hel : ∀ (n : Nat) (cs : List Value) (x : DataW H × List MemPlace), DataW.trod enc P W base sp held n e cs = some x → ∃ y, cells y = cs ∧ good y)
    {fuel : Nat} {cs : List Value} {x : DataW H × List MemPlace} (hf : DataW.trod enc P W base sp held fuel t cs = some x) :
    ∃ (A : Option Addr) (n c : Nat) (l : List α), cs = [.slice A n c] ∧ n ≤ c ∧ c ≤ maxLen ∧ l.length = n ∧ Rd W size A n (l.flatMap cells) ∧ (A = none → c = 0) ∧ ∀ y ∈ l, good y := by
  rcases Go.Deep.open_slice ht hf with ⟨hcs, _⟩ | ⟨a, n, c, m, k, D, Pl, hcs, _, hl, hm, hmm, _, hi⟩
  · exact ⟨none, 0, 0, [], hcs, Nat.le_refl _, by simp [maxLen], rfl, Rd.nil _ _ _, fun _ => rfl, fun y hy => by cases hy⟩
  · rw [hC] at hi
    have hlm : n ≤ m := by rw [hmm]; split <;> omega
    have key : ∀ q, q ≤ n → ∃ l : List α, l.length = q ∧ (∀ y ∈ l, good y) ∧ Held W a (l.flatMap cells) := by
      intro q
      induction q with
      | zero => intro _; exact ⟨[], rfl, (fun y hy => by cases hy), (fun j u hu => by simp at hu)⟩
      | succ q ih =>
        intro hq
        obtain ⟨l, hlen, hg, hh⟩ := ih (by omega)
        obtain ⟨cs', hc, htr⟩ := hi q (by omega)
        obtain ⟨y, rfl, hy⟩ := hel _ _ _ htr
        obtain ⟨_, hcl, hat⟩ := World.cells?_some hc
        have hfl : (l.flatMap cells).length = q * size := by
          rw [← hlen]
          clear ih hh hg hlen
          induction l with
          | nil => simp
          | cons z r ih => simp only [List.flatMap_cons, List.length_append, hsz, ih, List.length_cons, Nat.add_mul]; omega
        refine ⟨l ++ [y], by simp [hlen], ?_, ?_⟩
        · intro z hz
          rcases List.mem_append.1 hz with hz | hz
          · exact hg z hz
          · simp at hz; subst hz; exact hy
        · intro j u hu
          simp only [List.flatMap_append, List.flatMap_cons, List.flatMap_nil, List.append_nil] at hu
          rw [List.getElem?_append] at hu
          split at hu
          · exact hh j u hu
          · rename_i hj
            rw [hfl] at hu hj
            have hjs : j - q * size < size := by
              have := (List.getElem?_eq_some_iff.1 hu).1; rw [hsz] at this; omega
            have := hat _ hjs
            rw [add_add, show q * size + (j - q * size) = j from by omega] at this
            rw [this, hu]
    obtain ⟨l, hlen, hg, hh⟩ := key n (Nat.le_refl _)
    refine ⟨some a, n, c, l, hcs, hl, hm, hlen, ⟨?_, fun _ => ⟨a, rfl, hh⟩⟩, (fun h => by cases h), hg⟩
    rw [← hlen]
    clear key hh hg hlen
    induction l with
    | nil => simp
    | cons z r ih => simp only [List.flatMap_cons, List.length_append, hsz, ih, List.length_cons, Nat.add_mul]; omega

theorem weights_mem {P : Program} {e : TypeId} {d : DataW H} : ∀ {ds : List (DataW H)}, d ∈ ds → ∀ q ∈ DataW.weights P e d, q ∈ DataW.weightsAll P e ds
  | [], h, q, hq => by cases h
  | d0 :: ds, h, q, hq => by
    simp only [DataW.weightsAll, List.mem_append]
    rcases List.mem_cons.1 h with rfl | h
    · exact .inl hq
    · exact .inr (weights_mem h q hq)

/-- The same, with how large what is read may be: no slice, no text in it takes more than B bytes. -/
theorem open_rowZ (B : Nat) {α : Type} {cells : α → List Value} {good : α → Prop} {t e : TypeId} {size : Nat} (ht : P.underlying t = some (.slice e)) (hC : P.cellsOf e = size) (hsz : ∀ y, (cells y).length = size) (h0 : 0 < size)
    (hel : ∀ (n : Nat) (cs : List Value) (x : DataW H × List MemPlace), DataW.trod enc P W base sp held n e cs = some x → (∀ q ∈ DataW.weights P e x.1, q ≤ B) → ∃ y, cells y = cs ∧ good y)
    {fuel : Nat} {cs : List Value} {x : DataW H × List MemPlace} (hf : DataW.trod enc P W base sp held fuel t cs = some x) (hB : ∀ q ∈ DataW.weights P t x.1, q ≤ B) :
    ∃ (A : Option Addr) (n c : Nat) (l : List α), cs = [.slice A n c] ∧ n ≤ c ∧ c ≤ maxLen ∧ l.length = n ∧ n * P.bytesOf e ≤ B ∧ Rd W size A n (l.flatMap cells) ∧ (A = none → c = 0) ∧ ∀ y ∈ l, good y := by
  rcases Go.Deep.open_slice ht hf with ⟨hcs, _⟩ | ⟨a, n, c, m, k, D, Pl, hcs, _, hl, hm, hmm, hx, hi⟩
  · exact ⟨none, 0, 0, [], hcs, Nat.le_refl _, by simp [maxLen], rfl, by simp, Rd.nil _ _ _, fun _ => rfl, fun y hy => by cases hy⟩
  · rw [hC] at hi
    rw [hx] at hB
    have hB1 : n * P.bytesOf e ≤ B := by
      refine Nat.le_trans ?_ (hB _ (by simp only [DataW.weights, ht]; exact List.mem_cons_self))
      rw [List.length_map, List.length_map, List.length_range, List.length_range]
      exact Nat.mul_le_mul_right _ (by omega)
    have hB2 : ∀ i, i < n → ∀ q ∈ DataW.weights P e (D i), q ≤ B := by
      intro i hi q hq
      refine hB q ?_
      simp only [DataW.weights, ht]
      exact List.mem_cons_of_mem _ (List.mem_append_left _ (weights_mem (List.mem_map.2 ⟨i, List.mem_range.2 hi, rfl⟩) q hq))
    have hlm : n ≤ m := by rw [hmm]; split <;> omega
    have key : ∀ q, q ≤ n → ∃ l : List α, l.length = q ∧ (∀ y ∈ l, good y) ∧ Held W a (l.flatMap cells) := by
      intro q
      induction q with
      | zero => intro _; exact ⟨[], rfl, (fun y hy => by cases hy), (fun j u hu => by simp at hu)⟩
      | succ q ih =>
        intro hq
        obtain ⟨l, hlen, hg, hh⟩ := ih (by omega)
        obtain ⟨cs', hc, htr⟩ := hi q (by omega)
        obtain ⟨y, rfl, hy⟩ := hel _ _ _ htr (hB2 q (by omega))
        obtain ⟨_, hcl, hat⟩ := World.cells?_some hc
        have hfl : (l.flatMap cells).length = q * size := by
          rw [← hlen]
          clear ih hh hg hlen
          induction l with
          | nil => simp
          | cons z r ih => simp only [List.flatMap_cons, List.length_append, hsz, ih, List.length_cons, Nat.add_mul]; omega
        refine ⟨l ++ [y], by simp [hlen], ?_, ?_⟩
        · intro z hz
          rcases List.mem_append.1 hz with hz | hz
          · exact hg z hz
          · simp at hz; subst hz; exact hy
        · intro j u hu
          simp only [List.flatMap_append, List.flatMap_cons, List.flatMap_nil, List.append_nil] at hu
          rw [List.getElem?_append] at hu
          split at hu
          · exact hh j u hu
          · rename_i hj
            rw [hfl] at hu hj
            have hjs : j - q * size < size := by
              have := (List.getElem?_eq_some_iff.1 hu).1; rw [hsz] at this; omega
            have := hat _ hjs
            rw [add_add, show q * size + (j - q * size) = j from by omega] at this
            rw [this, hu]
    obtain ⟨l, hlen, hg, hh⟩ := key n (Nat.le_refl _)
    refine ⟨some a, n, c, l, hcs, hl, hm, hlen, hB1, ⟨?_, fun _ => ⟨a, rfl, hh⟩⟩, (fun h => by cases h), hg⟩
    rw [← hlen]
    clear key hh hg hlen
    induction l with
    | nil => simp
    | cons z r ih => simp only [List.flatMap_cons, List.length_append, hsz, ih, List.length_cons, Nat.add_mul]; omega

/-- The same of an argument. -/
theorem open_elems {α : Type} {cells : α → List Value} {good : α → Prop} {t e : TypeId} {size : Nat} (ht : P.underlying t = some (.slice e)) (hC : P.cellsOf e = size) (hsz : ∀ y, (cells y).length = size) (h0 : 0 < size)
    (hel : ∀ (n : Nat) (cs : List Value) (x : DataW H × List MemPlace), DataW.trod enc P W base sp held n e cs = some x → ∃ y, cells y = cs ∧ good y)
    {b0 : Nat} {r : Reach} {v : Value} {d : DataW H} {ps : List MemPlace} (hv : Value.okWide P W r b0 t v) (h : DataW.Trod enc P W base sp held t v d ps) :
    ∃ (A : Option Addr) (n c : Nat) (l : List α), v = .slice A n c ∧ n ≤ c ∧ c ≤ maxLen ∧ l.length = n ∧ Rd W size A n (l.flatMap cells) ∧ ∀ y ∈ l, good y := by
  obtain ⟨A, n, c, rfl⟩ := okWide_slice ht hv
  obtain ⟨fuel, hf⟩ := h
  obtain ⟨A', n', c', l, hcs, h1, h2, h3, h4, _, h5⟩ := open_row ht hC hsz h0 hel hf
  simp [Value.cells] at hcs
  obtain ⟨rfl, rfl, rfl⟩ := hcs
  exact ⟨A, n, c, l, rfl, h1, h2, h3, h4, h5⟩
end
end Go.Proofs.YtjmgnohepoacbaaDoor

namespace Go.Proofs.YtjmgnohepoacbaaDoor
open Go.ChangeShapes Go.WideShapes Go.ChangeAt Go.RowKit
set_option linter.unusedVariables false

set_option maxRecDepth 100000 in
theorem open_str {H : Type} {enc : TypeId × Value → H} {W : World} {base : Nat} {sp : Nat → Bool} {held : Bool} {b0 : Nat} {r : Reach} {v : Value} {d : DataW H} {ps : List MemPlace}
    (hv : Value.okWide Tryd.prog W r b0 9 v) (h : DataW.Trod enc Tryd.prog W base sp held 9 v d ps) :
    ∃ s : Str, v = .string (bstr s) ∧ s.length ≤ maxLen := by
  obtain ⟨s, rfl⟩ := okWide_string Tryd.underlying9 hv
  obtain ⟨fuel, hf⟩ := h
  obtain ⟨s', hc, _, hw⟩ := DataW.trod_string Tryd.underlying9 hf
  simp [Value.cells] at hc
  subst hc
  refine ⟨s.data.toList, by rw [bstr_of], ?_⟩
  have e : s.data.toList.length = s.size := by rw [Array.length_toList]; rfl
  rw [e]; exact hw

set_option maxRecDepth 100000 in
theorem open_strs {H : Type} {enc : TypeId × Value → H} {W : World} {base : Nat} {sp : Nat → Bool} {held : Bool} {b0 : Nat} {r : Reach} {v : Value} {d : DataW H} {ps : List MemPlace}
    (hv : Value.okWide Tryd.prog W r b0 22 v) (h : DataW.Trod enc Tryd.prog W base sp held 22 v d ps) :
    ∃ (A : Option Addr) (n c : Nat) (l : List Str), v = .slice A n c ∧ n ≤ c ∧ c ≤ maxLen ∧ Rd W 1 A n (strs l) := by
  obtain ⟨A, n, c, l, h1, h2, h3, h4, h5, _⟩ := open_elems (α := Str) (cells := fun b => [.string (bstr b)]) (good := fun _ => True) Tryd.underlying22 (by kernel_rfl : Tryd.prog.cellsOf 9 = 1) (fun _ => rfl) (by omega)
    (fun n cs x hx => by
      obtain ⟨s, rfl, _, hw⟩ := DataW.trod_string Tryd.underlying9 hx
      exact ⟨s.data.toList, by rw [bstr_of], trivial⟩) hv h
  refine ⟨A, n, c, l, h1, h2, h3, ?_⟩
  have e : strs l = l.flatMap fun b => [.string (bstr b)] := by
    clear h5 h4
    induction l with
    | nil => rfl
    | cons x r ih => simp [strs] at ih ⊢; exact ih
  rw [e]
  exact h5
end Go.Proofs.YtjmgnohepoacbaaDoor

namespace Go.Proofs.YtjmgnohepoacbaaDoor
open Go.ChangeShapes Go.WideShapes Go.ChangeAt Go.RowKit
set_option linter.unusedVariables false

theorem own : ownKnob Tryd.prog.godebug = none := by kernel_rfl
theorem laidOut : laidOutB Tryd.prog = true := by kernel_rfl

/-- All arguments read behind the call as they did. -/
theorem trodAll_stays {H : Type} {enc : TypeId × Value → H} {W W' : World} (hb : Below W.heap.size W W') :
    ∀ (ts : List TypeId) (vs : List Value) (ds : List (DataW H)) (ps : List MemPlace), (∀ t ∈ ts, Tryd.prog.readableRec t = true ∧ t < Tryd.prog.types.size) → (∀ x ∈ ps, x.block < W.heap.size) →
      DataW.TrodAll enc Tryd.prog W 0 (fun _ => true) true ts vs ds ps → DataW.TrodAll enc Tryd.prog W' 0 (fun b => decide (b < W.heap.size)) true ts vs ds ps
  | [], vs, ds, ps, _, _, h => by
    obtain ⟨rfl, rfl, rfl⟩ := trodAll_nil h
    exact trodAll_mk0
  | t :: ts, vs, ds, ps, hr, hlt, h => by
    obtain ⟨v, vs', d, ds', p, q, rfl, rfl, rfl, h0, h1⟩ := trodAll_cons h
    have ht := hr t (by simp)
    exact trodAll_cons_mk (Below.trod laidOut ht.1 ht.2 h0 hb (fun x hx => hlt x (by simp [hx]))) (trodAll_stays hb ts vs' ds' q (fun t' ht' => hr t' (by simp [ht'])) (fun x hx => hlt x (by simp [hx])) h1)

theorem trodAll_length {H : Type} {enc : TypeId × Value → H} {P : Program} {W : World} {base : Nat} {sp : Nat → Bool} {hd : Bool} :
    ∀ (ts : List TypeId) (vs : List Value) (ds : List (DataW H)) (ps : List MemPlace), DataW.TrodAll enc P W base sp hd ts vs ds ps → ds.length = ts.length
  | [], vs, ds, ps, h => by obtain ⟨_, h, _⟩ := trodAll_nil h; simp [h]
  | t :: ts, vs, ds, ps, h => by
    obtain ⟨v, vs', d, ds', p, q, rfl, rfl, rfl, h0, h1⟩ := trodAll_cons h
    simp [trodAll_length ts vs' ds' q h1]

/-- What is to be walked of a law: whatever its arguments read as, it returns true, and turns nothing that was there. -/
def LawWalk (F : FuncId) (ts : List TypeId) : Prop :=
  ∀ (H : Type) (enc : TypeId × Value → H) (W : World) (base : Nat) (args : Array Value) (ds : List (DataW H)) (p : List MemPlace),
    (∀ (j : Nat) t v, ts[j]? = some t → args[j]? = some v → Value.okWide Tryd.prog W .any base t v) →
    DataW.TrodAll enc Tryd.prog W 0 (fun _ => true) true ts args.toList ds p → (∀ x ∈ p, x.block < W.heap.size) →
    Calls Tryd.prog F args W fun e W' => e = .returned (.bool true) ∧ Below W.heap.size W W'

theorem law_post {H : Type} {enc : TypeId × Value → H} {f : Func} {s : ChangeSpec} {W W' : World} {args : Array Value} {ds gs : List (DataW H)} {before : List MemPlace} {ts : List TypeId}
    (hp : f.params.toList = ts) (hres : f.resultTypes = #[4]) (hv : s.vars = []) (hs : s.fn H (ds ++ gs) = { results := [.lit (.bool true)], args := ds }) (hr : ∀ t ∈ ts, Tryd.prog.readableRec t = true ∧ t < Tryd.prog.types.size)
    (hW : DataW.Whole enc Tryd.prog f.params.toList s.vars false W args.toList ds gs before) (hb : Below W.heap.size W W') :
    s.post enc Tryd.prog f false true false false W args (.bool true) W' := by
  have hW' := hW
  obtain ⟨p, q, hA, hV, rfl, hfz, hnd⟩ := hW
  rw [hv] at hV
  obtain ⟨rfl, rfl⟩ := trodVars_none hV
  have hlt : ∀ x ∈ p, x.block < W.heap.size := fun x hx => hW'.lt x (by simp [hx])
  refine ⟨ds, [], p ++ [], [], p, [], hW', ?_, ?_, ?_, hb.frame _, fun h => by cases h⟩
  · rw [hs, hres]
    exact trodAll_mk1 (shut_bool Tryd.underlying4 _)
  · rw [hs, hp]
    rw [hp] at hA
    exact trodAll_stays hb ts _ _ _ hr hlt hA
  · rw [hv]
    rw [hs]
    rfl

set_option maxRecDepth 100000 in
theorem law_lifted {os : Os} (started : os.Started) {H : Type} {enc : TypeId × Value → H} {F : FuncId} {f : Func} {s : ChangeSpec} {ts : List TypeId}
    (hF : Tryd.prog.funcs[F]? = some f) (noInit : Tryd.checked.prog.inits.idxOf? F = none) (hp : f.params.toList = ts) (hres : f.resultTypes = #[4]) (hv : s.vars = [])
    (hs : ∀ (H : Type) (ds : List (DataW H)), ds.length = ts.length → s.fn H ds = { results := [.lit (.bool true)], args := ds })
    (hr0 : (ts.all fun t => Tryd.prog.readableRec t && decide (t < Tryd.prog.types.size)) = true)
    (witness : ∃ (w : World) (tape : Tape) (i : Input), w.os = os ∧ (w.forCall tape i).Shaped Tryd.checked.prog ∧ i.vars = [] ∧ Input.okWide Tryd.checked.prog (w.forCall tape i) .any w.heap.size F i ∧
      s.pre6 enc Tryd.checked.prog f [] false (w.forCall tape i).memory i.args ∧ Assume.holds {} Tryd.checked.prog (lone (Frame.enter Tryd.checked.prog F i.args .normal) [] (w.forCall tape i)))
    (walk : LawWalk F ts) :
    ReturnsInHanded {} Tryd.checked os F .any (s.pre6 enc Tryd.prog f [] false) (s.post enc Tryd.prog f false true false false) := by
  have hr : ∀ t ∈ ts, Tryd.prog.readableRec t = true ∧ t < Tryd.prog.types.size := fun t ht => by
    have h := List.all_eq_true.1 hr0 t ht
    simpa using h
  refine returnsInHanded_of_change (C := Tryd.checked) own started noInit hF witness ?_
  intro W base args ds gs before hval hW _ _
  have hW' : DataW.Whole enc Tryd.prog f.params.toList s.vars false W args.toList ds gs before := hW
  obtain ⟨p, q, hA0, hV, rfl, hfz, hnd⟩ := hW
  have hA : DataW.TrodAll enc Tryd.prog W 0 (fun _ => true) true f.params.toList args.toList ds p := hA0
  have hlt : ∀ x ∈ p, x.block < W.heap.size := fun x hx => hW'.lt x (by simp [hx])
  rw [hp] at hA
  have hlen : ds.length = ts.length := trodAll_length ts _ _ _ hA
  rw [hv] at hV
  obtain ⟨rfl, rfl⟩ := trodVars_none hV
  refine (walk H enc W base args ds p ?_ hA hlt).mono fun e W' ⟨he, hb⟩ => ?_
  · intro j t v hj hva
    refine hval j t v ?_ hva
    rw [← hp] at hj
    simpa using hj
  · subst he
    exact ⟨_, rfl, law_post hp hres hv (by rw [List.append_nil]; exact hs H ds hlen) hr hW' hb⟩
end Go.Proofs.YtjmgnohepoacbaaDoor

namespace Go.Proofs.YtjmgnohepoacbaaDoor
open Go Go.ChangeShapes Go.WideShapes Go.ChangeAt Go.RowKit Go.Sort Go.Maps Go.Deep
set_option linter.unusedVariables false
set_option linter.unusedSimpArgs false

theorem wf_i64 {n : Int} (h : (Lit.int .i64 n).wf = true) : -9223372036854775808 ≤ n ∧ n ≤ 9223372036854775807 := by
  simp only [Lit.wf, IntKind.min, IntKind.max, IntKind.signed, IntKind.bits, Bool.and_eq_true, decide_eq_true_eq, if_true] at h
  omega
theorem bulk_pos {H : Type} (d : DataW H) : 1 ≤ Rows.uptoBulk d := by
  cases d with
  | lit l => cases l <;> simp [Rows.uptoBulk]
  | _ => simp [Rows.uptoBulk]
theorem bulk_app {H : Type} (l r : List (DataW H)) : Rows.uptoBulkAll (l ++ r) = Rows.uptoBulkAll l + Rows.uptoBulkAll r := by
  induction l with
  | nil => simp [Rows.uptoBulkAll]
  | cons x l ih => simp only [List.cons_append, Rows.uptoBulkAll, ih]; omega
theorem bulk_mem {H : Type} {d : DataW H} : ∀ {l : List (DataW H)}, d ∈ l → Rows.uptoBulk d ≤ Rows.uptoBulkAll l
  | [], h => by cases h
  | x :: r, h => by
    simp only [Rows.uptoBulkAll]
    rcases List.mem_cons.1 h with rfl | h
    · omega
    · have := bulk_mem h; omega
theorem bulk_len {H : Type} : ∀ (l : List (DataW H)), l.length ≤ Rows.uptoBulkAll l
  | [] => by simp
  | x :: r => by have := bulk_pos x; have := bulk_len r; simp only [Rows.uptoBulkAll, List.length_cons]; omega

section
variable {H : Type} {enc : TypeId × Value → H} {P : Program} {W : World} {base : Nat} {sp : Nat → Bool} {held : Bool}

/-- A slice's elements under a bound on what is read; 'wt': what an element weighs. -/
theorem open_rowU {α : Type} {cells : α → List Value} {good : α → Prop} (wt : α → Nat) (B : Nat) {t e : TypeId} {size : Nat} (ht : P.underlying t = some (.slice e)) (hC : P.cellsOf e = size) (hsz : ∀ y, (cells y).length = size)
    (hel : ∀ (n : Nat) (cs : List Value) (x : DataW H × List MemPlace), DataW.trod enc P W base sp held n e cs = some x → Rows.uptoBulk x.1 ≤ B → ∃ y, cells y = cs ∧ good y ∧ wt y ≤ Rows.uptoBulk x.1)
    {fuel : Nat} {cs : List Value} {x : DataW H × List MemPlace} (hf : DataW.trod enc P W base sp held fuel t cs = some x) (hB : Rows.uptoBulk x.1 ≤ B + 1) :
    ∃ (A : Option Addr) (n c : Nat) (l : List α), cs = [.slice A n c] ∧ n ≤ c ∧ c ≤ maxLen ∧ l.length = n ∧ Rd W size A n (l.flatMap cells) ∧ (∀ y ∈ l, good y) ∧ n + 1 ≤ Rows.uptoBulk x.1 ∧ (l.map wt).sum + 1 ≤ Rows.uptoBulk x.1 := by
  rcases Go.Deep.open_slice ht hf with ⟨hcs, hx⟩ | ⟨a, n, c, m, k, D, Pl, hcs, _, hl, hm, hmm, hx, hi⟩
  · have := bulk_pos x.1
    exact ⟨none, 0, 0, [], hcs, Nat.le_refl _, by simp [maxLen], rfl, Rd.nil _ _ _, (fun y hy => by cases hy), by omega, by simpa using this⟩
  · rw [hC] at hi
    have hlm : n ≤ m := by rw [hmm]; split <;> omega
    have hbx : Rows.uptoBulkAll ((List.range n).map D) + 1 ≤ Rows.uptoBulk x.1 := by
      rw [hx]
      simp only [Rows.uptoBulk]
      omega
    have hD : ∀ i, i < n → Rows.uptoBulk (D i) ≤ B := fun i hi' => by
      have := bulk_mem (List.mem_map.2 ⟨i, List.mem_range.2 hi', rfl⟩ : D i ∈ (List.range n).map D)
      omega
    have key : ∀ q, q ≤ n → ∃ l : List α, l.length = q ∧ (∀ y ∈ l, good y) ∧ Held W a (l.flatMap cells) ∧ (l.map wt).sum ≤ Rows.uptoBulkAll ((List.range q).map D) := by
      intro q
      induction q with
      | zero => intro _; exact ⟨[], rfl, (fun y hy => by cases hy), (fun j u hu => by simp at hu), by simp⟩
      | succ q ih =>
        intro hq
        obtain ⟨l, hlen, hg, hh, hw⟩ := ih (by omega)
        obtain ⟨cs', hc, htr⟩ := hi q (by omega)
        obtain ⟨y, rfl, hy, hwy⟩ := hel _ _ _ htr (hD q (by omega))
        obtain ⟨_, hcl, hat⟩ := World.cells?_some hc
        have hfl : (l.flatMap cells).length = q * size := by rw [flat_len hsz, hlen]
        refine ⟨l ++ [y], by simp [hlen], ?_, ?_, ?_⟩
        · intro z hz
          rcases List.mem_append.1 hz with hz | hz
          · exact hg z hz
          · simp at hz; subst hz; exact hy
        · intro j u hu
          simp only [List.flatMap_append, List.flatMap_cons, List.flatMap_nil, List.append_nil] at hu
          rw [List.getElem?_append] at hu
          split at hu
          · exact hh j u hu
          · rename_i hj
            rw [hfl] at hu hj
            have hjs : j - q * size < size := by
              have := (List.getElem?_eq_some_iff.1 hu).1; rw [hsz] at this; omega
            have := hat _ hjs
            rw [Go.Proofs.YtjmgnohepoacbaaDoor.add_add, show q * size + (j - q * size) = j from by omega] at this
            rw [this, hu]
        · simp only [List.range_succ, List.map_append, bulk_app, List.sum_append, List.map_cons, List.map_nil, List.sum_cons, List.sum_nil, Rows.uptoBulkAll]
          have h1 : wt y ≤ Rows.uptoBulk (D q) := hwy
          omega
    obtain ⟨l, hlen, hg, hh, hw⟩ := key n (Nat.le_refl _)
    have hln := bulk_len ((List.range n).map D)
    rw [List.length_map, List.length_range] at hln
    exact ⟨some a, n, c, l, hcs, hl, hm, hlen, ⟨by rw [flat_len hsz, hlen], fun _ => ⟨a, rfl, hh⟩⟩, hg, by omega, by omega⟩
end


section
variable {H : Type} {enc : TypeId × Value → H} {W : World} {base : Nat} {sp : Nat → Bool} {held : Bool}
theorem strs_of (l : List Str) : l.flatMap (fun b => [Value.string (bstr b)]) = strs l := by
  induction l with
  | nil => rfl
  | cons x r ih => simp only [List.flatMap_cons, ih]; rfl
theorem openB_strs {fuel : Nat} {cs : List Value} {x : DataW H × List MemPlace} (hf : DataW.trod enc Tryd.prog W base sp held fuel 22 cs = some x) :
    ∃ (A : Option Addr) (n c : Nat) (l : List Str), cs = [.slice A n c] ∧ n ≤ c ∧ c ≤ maxLen ∧ l.length = n ∧ Rd W 1 A n (strs l) ∧ ∀ y ∈ l, y.length ≤ maxLen := by
  obtain ⟨A, n, c, l, h1, h2, h3, h4, h5, hg, h6, _⟩ := open_rowU (α := Str) (cells := fun b => [.string (bstr b)]) (good := fun y => y.length ≤ maxLen) (fun _ => 0) (Rows.uptoBulk x.1) Tryd.underlying22 (by kernel_rfl : Tryd.prog.cellsOf 9 = 1) (fun _ => rfl)
    (fun n cs x hx _ => by
      obtain ⟨s, rfl, _, hw⟩ := DataW.trod_string Tryd.underlying9 hx
      exact ⟨s.data.toList, by rw [bstr_of], (by rw [Array.length_toList]; exact hw), Nat.zero_le _⟩) hf (by omega)
  exact ⟨A, n, c, l, h1, h2, h3, h4, by rw [← strs_of]; exact h5, hg⟩
set_option maxRecDepth 100000 in
theorem trod8 {t : TypeId} {f0 f1 f2 f3 f4 f5 f6 f7 : Field} {fuel : Nat} {cs : List Value} {x : DataW H × List MemPlace} (hs : Tryd.prog.underlying t = some (.struct #[f0, f1, f2, f3, f4, f5, f6, f7])) (hone : oneCellFields Tryd.prog #[f0, f1, f2, f3, f4, f5, f6, f7] = true) (hC : Tryd.prog.cellsOf t = 8) (h : DataW.trod enc Tryd.prog W base sp held fuel t cs = some x) :
    ∃ c0 c1 c2 c3 c4 c5 c6 c7 y0 y1 y2 y3 y4 y5 y6 y7 n, cs = [c0, c1, c2, c3, c4, c5, c6, c7] ∧ x.1 = .agg [y0.1, y1.1, y2.1, y3.1, y4.1, y5.1, y6.1, y7.1] ∧ DataW.trod enc Tryd.prog W base sp held n f0.type [c0] = some y0 ∧ DataW.trod enc Tryd.prog W base sp held n f1.type [c1] = some y1 ∧ DataW.trod enc Tryd.prog W base sp held n f2.type [c2] = some y2 ∧ DataW.trod enc Tryd.prog W base sp held n f3.type [c3] = some y3 ∧ DataW.trod enc Tryd.prog W base sp held n f4.type [c4] = some y4 ∧ DataW.trod enc Tryd.prog W base sp held n f5.type [c5] = some y5 ∧ DataW.trod enc Tryd.prog W base sp held n f6.type [c6] = some y6 ∧ DataW.trod enc Tryd.prog W base sp held n f7.type [c7] = some y7 := by
  obtain ⟨xs, n, _, hx, hl, hlen, hg⟩ := DataW.trod_struct hs h
  obtain ⟨o0, k0⟩ := hone_of hone 0 f0 rfl
  obtain ⟨o1, k1⟩ := hone_of hone 1 f1 rfl
  obtain ⟨o2, k2⟩ := hone_of hone 2 f2 rfl
  obtain ⟨o3, k3⟩ := hone_of hone 3 f3 rfl
  obtain ⟨o4, k4⟩ := hone_of hone 4 f4 rfl
  obtain ⟨o5, k5⟩ := hone_of hone 5 f5 rfl
  obtain ⟨o6, k6⟩ := hone_of hone 6 f6 rfl
  obtain ⟨o7, k7⟩ := hone_of hone 7 f7 rfl
  match cs, hl.trans hC, xs, hlen with
  | [c0, c1, c2, c3, c4, c5, c6, c7], _, [y0, y1, y2, y3, y4, y5, y6, y7], _ => exact ⟨c0, c1, c2, c3, c4, c5, c6, c7, y0, y1, y2, y3, y4, y5, y6, y7, n, rfl, by rw [hx]; rfl, by simpa [o0, k0] using hg 0 f0 rfl, by simpa [o1, k1] using hg 1 f1 rfl, by simpa [o2, k2] using hg 2 f2 rfl, by simpa [o3, k3] using hg 3 f3 rfl, by simpa [o4, k4] using hg 4 f4 rfl, by simpa [o5, k5] using hg 5 f5 rfl, by simpa [o6, k6] using hg 6 f6 rfl, by simpa [o7, k7] using hg 7 f7 rfl⟩

theorem enodesL_sum : ∀ l : List Ex, enodesL l = (l.map Ex.nodes).sum
  | [] => rfl
  | x :: l => by simp only [enodesL, List.map_cons, List.sum_cons, enodesL_sum l]
theorem sum_len (l : List Str) : (l.map fun s => s.length + 1).sum = (l.map List.length).sum + l.length := by
  induction l with
  | nil => rfl
  | cons x r ih => simp only [List.map_cons, List.sum_cons, List.length_cons, ih]; omega
theorem mem_sum (l : List Str) (s : Str) (h : s ∈ l) : s.length ≤ (l.map fun s => s.length + 1).sum := by
  induction l with
  | nil => cases h
  | cons x r ih =>
    simp only [List.map_cons, List.sum_cons]
    rcases List.mem_cons.1 h with rfl | q
    · omega
    · have := ih q; omega
theorem openW_strs {fuel : Nat} {cs : List Value} {x : DataW H × List MemPlace} (hf : DataW.trod enc Tryd.prog W base sp held fuel 22 cs = some x) :
    ∃ (A : Option Addr) (n c : Nat) (l : List Str), cs = [.slice A n c] ∧ n ≤ c ∧ c ≤ maxLen ∧ l.length = n ∧ Rd W 1 A n (strs l) ∧ (∀ y ∈ l, y.length ≤ maxLen) ∧ (l.map fun s => s.length + 1).sum + 1 ≤ Rows.uptoBulk x.1 := by
  obtain ⟨A, n, c, l, h1, h2, h3, h4, h5, hg, h6, h7⟩ := open_rowU (α := Str) (cells := fun b => [.string (bstr b)]) (good := fun y => y.length ≤ maxLen) (fun s => s.length + 1) (Rows.uptoBulk x.1) Tryd.underlying22 (by kernel_rfl : Tryd.prog.cellsOf 9 = 1) (fun _ => rfl)
    (fun n cs x hx _ => by
      obtain ⟨s, rfl, hxx, hw⟩ := DataW.trod_string Tryd.underlying9 hx
      exact ⟨s.data.toList, by rw [bstr_of], (by rw [Array.length_toList]; exact hw), by rw [hxx]; simp only [Rows.uptoBulk]; omega⟩) hf (by omega)
  exact ⟨A, n, c, l, h1, h2, h3, h4, by rw [← strs_of]; exact h5, hg, h7⟩

set_option maxRecDepth 100000 in
theorem openU_ex : ∀ (B : Nat), B ≤ 1048576 → ∀ (fuel : Nat) (cs : List Value) (x : DataW H × List MemPlace), DataW.trod enc Tryd.prog W base sp held fuel 25 cs = some x → Rows.uptoBulk x.1 ≤ B →
    ∃ t : Ex, t.cells = cs ∧ (t.In W ∧ ExG t) ∧ t.nodes ≤ Rows.uptoBulk x.1
  | 0, _, fuel, cs, x, hx, hB => by have := bulk_pos x.1; omega
  | B + 1, hB4, fuel, cs, x, hx, hB => by
    obtain ⟨c0, c1, c2, c3, c4, c5, c6, c7, y0, y1, y2, y3, y4, y5, y6, y7, k, rfl, hxx, e0, e1, e2, e3, e4, e5, e6, e7⟩ := trod8 Tryd.underlying25 (by kernel_rfl) (by kernel_rfl) hx
    have p0 := bulk_pos y0.1
    have p1 := bulk_pos y1.1
    have p2 := bulk_pos y2.1
    rw [hxx] at hB ⊢
    simp only [Rows.uptoBulk, Rows.uptoBulkAll] at hB ⊢
    obtain ⟨kd, h0, _, _⟩ := DataW.trod_int Tryd.underlying3 e0
    obtain ⟨at_, h1, _, w1⟩ := DataW.trod_int Tryd.underlying3 e1
    obtain ⟨n, h2, _, w2⟩ := DataW.trod_int Tryd.underlying2 e2
    obtain ⟨s, h3, x3, w3⟩ := DataW.trod_string Tryd.underlying9 e3
    obtain ⟨t, h4, x4, w4⟩ := DataW.trod_string Tryd.underlying9 e4
    have b3 : s.data.toList.length + 1 ≤ Rows.uptoBulk y3.1 := by rw [x3]; simp only [Rows.uptoBulk]; omega
    have b4 : t.data.toList.length + 1 ≤ Rows.uptoBulk y4.1 := by rw [x4]; simp only [Rows.uptoBulk]; omega
    obtain ⟨lA, ln, lc, lb, h5, l1, l2, l3, l4, l5, l6⟩ := openW_strs e5
    obtain ⟨nA, nn, nc, nb, h6, n1, n2, n3, n4, n5, n6⟩ := openW_strs e6
    obtain ⟨pA, pn, pc, pl, h7, q1, q2, q3, q4, q5, q6, q7⟩ := open_rowU (α := Ex) (cells := Ex.cells) (good := fun t => t.In W ∧ ExG t) Ex.nodes B Tryd.underlying23 (by kernel_rfl : Tryd.prog.cellsOf 25 = 8) Ex.cells_len
      (fun n cs x hx hb => openU_ex B (by omega) n cs x hx hb) e7 (by omega)
    simp only [List.cons.injEq, and_true] at h0 h1 h2 h3 h4 h5 h6 h7
    subst h0
    subst h1
    subst h2
    subst h3
    subst h4
    subst h5
    subst h6
    subst h7
    have m : maxLen = 9223372036854775807 := rfl
    have hl1 := sum_len lb
    have hl2 := sum_len nb
    refine ⟨.mk ⟨kd, at_, n, s.data.toList, t.data.toList, lA, ln, lc, lb, nA, nn, nc, nb, pA, pn, pc⟩ pl, by simp only [Ex.cells, ExD.cells, Ex.d, bstr_of], ⟨.mk _ _ l4 n4 q4 ⟨⟨l1, l2, ?_⟩, ⟨n1, n2, ?_⟩, ⟨q1, q2, ?_⟩, ?_, ?_, ?_, ?_⟩ (fun x hx => (q5 x hx).1), .mk _ _ (wf_i64 w2) ?_ q3 ?_ n3 l3 ?_ ?_ (fun x hx => (q5 x hx).2)⟩, ?_⟩
    · show ln ≤ _; omega
    · show nn ≤ _; omega
    · show pn ≤ _; omega
    · show s.data.toList.length ≤ _; omega
    · show t.data.toList.length ≤ _; omega
    · intro z hz
      have := mem_sum lb z hz
      omega
    · intro z hz
      have := mem_sum nb z hz
      omega
    · show s.data.toList.length ≤ _; omega
    · show pn ≤ _; omega
    · show ln ≤ _; omega
    · intro z hz
      have := mem_sum lb z hz
      omega
    · simp only [Ex.nodes, enodesL_sum]
      omega
end
/-- What the rows of this seat list. -/
abbrev seatLaid : List (String × DataW Unit) := [("math/bits.deBruijn32tab", Rows.laid_math_bits_deBruijn32tab), ("math/bits.deBruijn64tab", Rows.laid_math_bits_deBruijn64tab), ("internal/strconv.uint64pow10", Rows.laid_internal_strconv_uint64pow10)]

set_option maxRecDepth 100000 in
theorem lay_of_laid {W : World} (h : laidMetH Tryd.prog seatLaid W) : Tab W := by
  have h' : laidMet Tryd.prog seatLaid W := h
  have h2 : laidMet Tryd.prog [("internal/strconv.uint64pow10", Lib.tabData .u64 Lib.pow10Tab)] W := by
    have h3 := h'.tail.tail
    exact h3
  exact (Lib.tabIs_of_head gTab (by kernel_rfl) Tryd.underlying125 Tryd.underlying116 (by kernel_rfl) (by kernel_rfl) h2)
theorem door_met (os : Os) (args : Array Value) : laidMetH Tryd.prog seatLaid ((World.doorLaid Tryd.prog 65 os).forCall (fun _ _ => 0) ⟨#[], args, []⟩).memory :=
  laidMetH_of_parts3 (fuel := 8) (laidMet_of_run' 8 (by kernel_rfl) (by kernel_rfl)) (by kernel_rfl) (by kernel_rfl)

/-- What is to be walked of a law, the bound and the tied variables handed to the walk. -/
def LawWalkU (F : FuncId) (ts : List TypeId) : Prop :=
  ∀ (H : Type) (enc : TypeId × Value → H) (W : World) (base : Nat) (args : Array Value) (ds : List (DataW H)) (p : List MemPlace),
    (∀ (j : Nat) t v, ts[j]? = some t → args[j]? = some v → Value.okWide Tryd.prog W .any base t v) →
    DataW.TrodAll enc Tryd.prog W 0 (fun _ => true) true ts args.toList ds p → (∀ x ∈ p, x.block < W.heap.size) → Tab W → Rows.uptoBulkAll ds ≤ 1048576 →
    Calls Tryd.prog F args W fun e W' => e = .returned (.bool true) ∧ Below W.heap.size W W'

set_option maxRecDepth 100000 in
theorem law_liftedU {os : Os} (started : os.Started) {H : Type} {enc : TypeId × Value → H} {F : FuncId} {f : Func} {s : ChangeSpec} {ts : List TypeId} (G : Stop.Interp)
    (hF : Tryd.prog.funcs[F]? = some f) (noInit : Tryd.checked.prog.inits.idxOf? F = none) (hp : f.params.toList = ts) (hres : f.resultTypes = #[4]) (hv : s.vars = [])
    (hs : ∀ (H : Type) (ds : List (DataW H)), ds.length = ts.length → s.fn H ds = { results := [.lit (.bool true)], args := ds })
    (hr0 : (ts.all fun t => Tryd.prog.readableRec t && decide (t < Tryd.prog.types.size)) = true)
    (witness : ∃ (w : World) (tape : Tape) (i : Input), w.os = os ∧ (w.forCall tape i).Shaped Tryd.checked.prog ∧ i.vars = [] ∧ Input.okWide Tryd.checked.prog (w.forCall tape i) .any w.heap.size F i ∧
      (Rows.OpenSpec.upto s).preRow enc Tryd.checked.prog f [] false seatLaid (w.forCall tape i).memory i.args ∧ Assume.holds {} Tryd.checked.prog (lone (Frame.enter Tryd.checked.prog F i.args .normal) [] (w.forCall tape i)))
    (walk : LawWalkU F ts) :
    ReturnsInHanded {} Tryd.checked os F .any ((Rows.OpenSpec.upto s).preRow enc Tryd.prog f [] false seatLaid) (((Rows.OpenSpec.upto s).at G).post enc Tryd.prog f false true false false) := by
  have hr : ∀ t ∈ ts, Tryd.prog.readableRec t = true ∧ t < Tryd.prog.types.size := fun t ht => by
    have h := List.all_eq_true.1 hr0 t ht
    simpa using h
  refine returnsInHanded_of_row (C := Tryd.checked) (s := Rows.OpenSpec.upto s) own started noInit hF witness ?_
  intro W base args ds gs before hval hW _ hk _ hL _ _
  have hW' : DataW.Whole enc Tryd.prog f.params.toList s.vars false W args.toList ds gs before := hW
  obtain ⟨p, q, hA0, hV, rfl, hfz, hnd⟩ := hW
  have hA : DataW.TrodAll enc Tryd.prog W 0 (fun _ => true) true f.params.toList args.toList ds p := hA0
  have hlt : ∀ x ∈ p, x.block < W.heap.size := fun x hx => hW'.lt x (by simp [hx])
  rw [hp] at hA
  have hlen : ds.length = ts.length := trodAll_length ts _ _ _ hA
  rw [show (Rows.OpenSpec.upto s).vars = [] from hv] at hV
  obtain ⟨rfl, rfl⟩ := trodVars_none hV
  have hbulk : Rows.uptoBulkAll ds ≤ 1048576 := by
    have h := hk _ rfl
    rw [List.append_nil] at h
    exact of_decide_eq_true h
  refine (walk H enc W base args ds p ?_ hA hlt (lay_of_laid hL) hbulk).mono fun e W' ⟨he, hb⟩ => ?_
  · intro j t v hj hva
    refine hval j t v ?_ hva
    rw [← hp] at hj
    simpa using hj
  · subst he
    exact ⟨_, rfl, law_post hp hres hv (by rw [List.append_nil]; exact hs H ds hlen) hr hW' hb⟩
end Go.Proofs.YtjmgnohepoacbaaDoor

namespace Go.Proofs.YtjmgnohepoacbaaDoor
open Go.ChangeShapes Go.WideShapes Go.ChangeAt Go.RowKit
set_option linter.unusedVariables false
set_option linter.unusedSimpArgs false

set_option maxRecDepth 100000 in
theorem modelMore_walk : LawWalkU 3 [25, 22, 3, 3] := by
  intro H enc W base args ds p hval hA hlt hL hbulk
  obtain ⟨v0, vs0, d0, ds0, p0, q0, hargs, rfl, rfl, h0, r0⟩ := trodAll_cons hA
  obtain ⟨v1, vs1, d1, ds1, p1, q1, rfl, rfl, rfl, h1, r1⟩ := trodAll_cons r0
  obtain ⟨v2, vs2, d2, ds2, p2, q2, rfl, rfl, rfl, h2, r2⟩ := trodAll_cons r1
  obtain ⟨v3, vs3, d3, ds3, p3, q3, rfl, rfl, rfl, h3, r3⟩ := trodAll_cons r2
  obtain ⟨rfl, rfl, rfl⟩ := trodAll_nil r3
  obtain rfl : args = #[v0, v1, v2, v3] := by cases args; simp_all
  simp only [Rows.uptoBulkAll] at hbulk
  have b0 := bulk_pos d0
  have b1 := bulk_pos d1
  have b2 := bulk_pos d2
  have b3 := bulk_pos d3
  -- the expression
  obtain ⟨cs, rfl, hcs⟩ := okWide_struct Tryd.underlying25 (hval 0 _ v0 rfl rfl)
  obtain ⟨fuel, hf⟩ := h0
  obtain ⟨t, htc, ⟨hI, hG⟩, hnod⟩ := openU_ex 1048576 (by omega) _ _ _ hf (show Rows.uptoBulk d0 ≤ 1048576 by omega)
  have hv0 : Value.agg cs = .agg t.d.arr := by
    have : t.cells = cs.toList := htc
    rw [show cs = cs.toList.toArray from by simp, ← this]
    cases t
    rfl
  -- the input's lines
  obtain ⟨LA, ln, lc, rfl⟩ := okWide_slice Tryd.underlying22 (hval 1 _ v1 rfl rfl)
  obtain ⟨fuel1, hf1⟩ := h1
  obtain ⟨LA', ln', lc', l, hc1, hn1, hn2, hk1, hLA, hls, hlb⟩ := openW_strs hf1
  simp [Value.cells] at hc1
  obtain ⟨rfl, rfl, rfl⟩ := hc1
  subst hk1
  have hll : l.length ≤ 4000000 := by
    have h := sum_len l
    have : (l.map fun s => s.length + 1).sum + 1 ≤ Rows.uptoBulk d1 := hlb
    omega
  -- the two amounts
  obtain ⟨m2, rfl⟩ := okWide_int Tryd.underlying3 (hval 2 _ v2 rfl rfl)
  obtain ⟨m3, rfl⟩ := okWide_int Tryd.underlying3 (hval 3 _ v3 rfl rfl)
  have hA2 : 0 < l.length → ∀ a, LA = some a → a.block < W.heap.size := by
    intro h a ha
    obtain ⟨a', ha', hb, _⟩ := hLA.addr (by simpa [strs] using h)
    rw [ha'] at ha
    cases ha
    exact hb
  have h := law_any W t hI hG (by have h : t.nodes ≤ Rows.uptoBulk d0 := hnod; omega) LA l lc hLA hA2 hll ⟨hn1, hn2⟩ m2 m3 hL
  rw [hv0]
  exact h

set_option maxRecDepth 100000 in
theorem modelMore_reads (os : Os) {H : Type} (enc : TypeId × Value → H) : ∃ places, DataW.whole enc Tryd.prog ((World.doorLaid Tryd.prog 65 os).forCall (fun _ _ => 0) ⟨#[], #[.agg #[.int .i64 0, .int .i64 0, .int .i64 0, .string ⟨#[]⟩, .string ⟨#[]⟩, .slice none 0 0, .slice none 0 0, .slice none 0 0], .slice none 0 0, .int .i64 0, .int .i64 0], []⟩).memory Tryd.f3.params.toList Rows.modelMoreSpec.vars false (#[Value.agg #[.int .i64 0, .int .i64 0, .int .i64 0, .string ⟨#[]⟩, .string ⟨#[]⟩, .slice none 0 0, .slice none 0 0, .slice none 0 0], .slice none 0 0, .int .i64 0, .int .i64 0] : Array Value).toList 8
    = some ([.agg [.lit (.int .i64 0), .lit (.int .i64 0), .lit (.int .i64 0), .lit (.string []), .lit (.string []), .nil, .nil, .nil], .nil, .lit (.int .i64 0), .lit (.int .i64 0)], [], places) :=
  ⟨[], by kernel_rfl⟩

set_option maxRecDepth 100000 in
theorem modelMore_row : Rows.ModelMoreUptoSaid :=
  OpenClaim.holds_of_cond 3 Tryd.f3 rfl rfl rfl rfl rfl rfl rfl ⟨rfl, rfl, rfl, rfl, rfl⟩ rfl rfl rfl rfl rfl (by kernel_rfl) Tryd.func3 (by kernel_rfl)
    (of_decide_eq_true (by kernel_rfl)) (by unfold Func.isWrapper; first | (rw [if_pos (by decide +kernel)]; kernel_rfl) | (rw [if_neg (by decide +kernel)]; exact ⟨rfl, rfl⟩))
    (fun os started H enc _ F => by
      rw [OpenClaim.pre_eq_preRow]
      obtain ⟨places, hx⟩ := modelMore_reads os enc
      exact law_liftedU (f := Tryd.f3) (s := Rows.modelMoreSpec) started F Tryd.func3 (by kernel_rfl) (by rw [Tryd.params3]) rfl rfl
        (fun H ds h => by match ds, h with | [_, _, _, _], _ => rfl) (by kernel_rfl)
        (witness_row_at (enc := enc) (C := Tryd.checked) false (World.doorLaid Tryd.prog 65 os) #[.agg #[.int .i64 0, .int .i64 0, .int .i64 0, .string ⟨#[]⟩, .string ⟨#[]⟩, .slice none 0 0, .slice none 0 0, .slice none 0 0], .slice none 0 0, .int .i64 0, .int .i64 0] rfl (by kernel_rfl) (by kernel_rfl) (by kernel_rfl)
          (OpenSpec.preRow_of_cond 8 hx (by kernel_rfl) (fun k hk => by cases hk; kernel_rfl) (by kernel_rfl) (door_met os _))) modelMore_walk)

theorem modelMore_holds : Rows.ModelMoreUptoCardSaid :=
  Claim7.holds_tied_plain_at .later [] [.data, .data, .data] true (true, Rows.modelMoreUptoCard.stood.harness.2) false
    modelMore_row (fun _ h => by cases h) (by kernel_rfl) (fun _ h => by cases h) modelMoreUpto_row_tie rfl ⟨rfl, rfl⟩ (by kernel_rfl) rfl
    (fun f fn hf hfn => by
      obtain rfl : f = 3 := Option.some.inj ((show Tryd.prog.funcNamed "bushel/bushellaw17.ModelMore" = some 3 by kernel_rfl).symm.trans hf) |>.symm
      obtain rfl : fn = Tryd.f3 := (Option.some.inj (Tryd.func3.symm.trans hfn)).symm
      exact ⟨by kernel_rfl, fun j t ht => by
        rw [Tryd.params3] at ht
        have h3 : t ∈ [25, 22, 3, 3] := List.mem_of_getElem? (by simpa using ht)
        have hall : ∀ t ∈ [25, 22, 3, 3], Tryd.prog.wantsStandIn t = false := by
          intro t ht
          have := List.all_eq_true.1 (show ([25, 22, 3, 3].all fun t => !Tryd.prog.wantsStandIn t) = true by kernel_rfl) t ht
          simpa using this
        exact hall t h3⟩)
    (by kernel_rfl)
#print axioms modelMore_holds
end Go.Proofs.YtjmgnohepoacbaaDoor
