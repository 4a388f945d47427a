/-
  Sets of names as maps: joined, by the code.
-/
import Derived.Test.YtpnihimoekkepaaCoM
import Derived.Maps.OwnSet
import Derived.Maps.RangeWalk
import Derived.Maps.Ext
import Derived.StringKeys
namespace Go.Proofs.Ytpnihimoekkepaa
open Go.ChangeShapes Go.WideShapes Go.ChangeAt Go.RowKit Go.Sort Go.Maps
set_option linter.unusedVariables false
set_option linter.unusedSimpArgs false

theorem lawStr : Keyed Try.prog 9 := string_keyed Try.underlying9
theorem keyStr (x : Str) (h : x.length ≤ maxLen) : keyOf Try.prog 9 (.string (bstr x)) = some (.string x) := by
  have := Go.WideMaps.keyOf_string_mk (P := Try.prog) (k := 9) Try.underlying9 (s := bstr x) (by rw [bstr_size]; exact h)
  rw [this, bstr_data]
theorem keyStr_inv {key : Value} {kl : Lit} (h : keyOf Try.prog 9 key = some kl) : ∃ x : Str, x.length ≤ maxLen ∧ key = .string (bstr x) ∧ kl = .string x := by
  cases key <;> simp [keyOf, Try.underlying9, mapKey] at h
  rename_i s
  obtain ⟨hs, rfl⟩ := h
  refine ⟨s.data.toList, ?_, by rw [bstr_of], rfl⟩
  rw [Array.length_toList]; exact hs

/-- A map's keys, as a set. -/
def MS (w : World) (B n : Nat) (Q : Str → Bool) : Prop := ∃ D, w.ownsMap (H := Unit) Try.prog 9 unitElem B n D ∧ ∀ x : Str, x.length ≤ maxLen → Maps.has D (.string x) = Q x
theorem MS.below {w w' : World} {B n : Nat} {Q : Str → Bool} (h : MS w B n Q) (hb : RowKit.Below w.heap.size w w') : MS w' B n Q := by
  obtain ⟨D, h1, h2⟩ := h
  refine ⟨D, ?_, h2⟩
  have hlt := h1.lt
  obtain ⟨es, clock, hh, F, hs, hD⟩ := h1
  exact ⟨es, clock, (hb.block B hlt).trans hh, F, hs, hD⟩
theorem MS.lt {w : World} {B n : Nat} {Q : Str → Bool} (h : MS w B n Q) : B < w.heap.size := by obtain ⟨D, h1, _⟩ := h; exact h1.lt
theorem MS.mono {w : World} {B n n' : Nat} {Q Q' : Str → Bool} (h : MS w B n Q) (hn : n ≤ n') (hQ : ∀ x, x.length ≤ maxLen → Q x = Q' x) : MS w B n' Q' := by
  obtain ⟨D, h1, h2⟩ := h
  exact ⟨D, h1.mono hn, fun x hx => (h2 x hx).trans (hQ x hx)⟩
theorem has_put_str {D : DataW Unit} {x y : Str} (hD : IsMap D) (d : DataW Unit) : Maps.has (D.put (.string x) d) (.string y) = (decide (y = x) || Maps.has D (.string y)) := by
  by_cases h : y = x
  · subst h
    rw [has_put_same (k := .string y) hD trivial d, decide_eq_true rfl]; rfl
  · rw [has_put_other (by intro e; injection e with e; exact h e), decide_eq_false h]; rfl
theorem has_del_str {D : DataW Unit} {x y : Str} : Maps.has (D.del (.string x)) (.string y) = (!decide (y = x) && Maps.has D (.string y)) := by
  by_cases h : y = x
  · subst h
    rw [has_del_same, decide_eq_true rfl]; rfl
  · rw [has_del_other (by intro e; injection e with e; exact h e), decide_eq_false h]; rfl
theorem same_str (x y : Str) : (Lit.string y).sameKey (.string x) = decide (y = x) := by
  show (y == x) = _
  rw [Bool.eq_iff_iff]; simp

/-- Where the joining stands: a's map has what a had, and what of b's has come. -/
structure UN (w0 : World) (Ba Bb r nb N : Nat) (Qa : Str → Bool) (Db : DataW Unit) (left : Lit → Bool) (cnt m : Nat) (w : World) : Prop where
  rg : w.ranges Try.prog 9 (unitElem (H := Unit)) Bb r nb Db left cnt
  own : ∃ Da, w.ownsMap (H := Unit) Try.prog 9 unitElem Ba m Da ∧ ∀ x : Str, x.length ≤ maxLen → Maps.has Da (.string x) = (Qa x || (Maps.has Db (.string x) && !left (.string x)))
  le : m + cnt ≤ N
  b : ∀ M, M ≤ Ba → M ≤ Bb → M ≤ w0.heap.size → RowKit.Below M w0 w
theorem below_grown_some {w0 w w1 : World} {M j : Nat} (h : RowKit.Below M w0 w) (hg : w.grownBy w1 (some j)) (hj : M ≤ j) (hs : M ≤ w.heap.size) : RowKit.Below M w0 w1 :=
  ⟨hg.os.trans h.os, hg.tape.trans h.tape, hg.output.trans h.output, Nat.le_trans h.size hg.size, fun k hk => (hg.block k (by omega) (fun e => by injection e with e; omega)).trans (h.block k hk)⟩
theorem below_grown_none {w w1 : World} (hg : w.grownBy w1 none) : RowKit.Below w.heap.size w w1 :=
  ⟨hg.os, hg.tape, hg.output, hg.size, fun k hk => hg.block k hk (fun e => by cases e)⟩

theorem UN.start {w w0 : World} {Ba Bb na nb : Nat} {Qa : Str → Bool} {Da Db : DataW Unit} (hA : w.ownsMap (H := Unit) Try.prog 9 unitElem Ba na Da) (hQ : ∀ x : Str, x.length ≤ maxLen → Maps.has Da (.string x) = Qa x)
    (hrg : w0.ranges Try.prog 9 (unitElem (H := Unit)) Bb w.heap.size nb Db (Maps.has Db) (Maps.size Db)) (hg : w.grownBy w0 none) (hs : Maps.size Db ≤ nb) : UN w Ba Bb w.heap.size nb (na + nb) Qa Db (Maps.has Db) (Maps.size Db) na w0 :=
  ⟨hrg, ⟨Da, hA.kept hg (by simp), fun x hx => by rw [hQ x hx]; cases Maps.has Db (.string x) <;> simp⟩, by omega, fun M h1 h2 h3 => (below_grown_none hg).mono h3⟩
theorem UN.next {w w1 w2 w3 : World} {Ba Bb r nb N cnt cnt' m : Nat} {Qa : Str → Bool} {Db : DataW Unit} {left : Lit → Bool} (h : UN w Ba Bb r nb N Qa Db left cnt m w1) (hr : w.heap.size ≤ r) (hab : Ba ≠ Bb) (har : Ba ≠ r) {x : Str} (hl : left (.string x) = true) (hh : Maps.has Db (.string x) = true)
    (hrg : w2.ranges Try.prog 9 (unitElem (H := Unit)) Bb r nb Db (fun z => left z && !z.sameKey (.string x)) cnt') (hlt : cnt' < cnt) (hg : w1.grownBy w2 (some r)) {Da : DataW Unit} (hQ : ∀ y : Str, y.length ≤ maxLen → Maps.has Da (.string y) = (Qa y || (Maps.has Db (.string y) && !left (.string y))))
    (hm : IsMap Da) (ho : w3.ownsMap (H := Unit) Try.prog 9 unitElem Ba (m + 1) (Da.put (.string x) (.agg []))) (hg3 : w2.grownBy w3 (some Ba)) :
    UN w Ba Bb r nb N Qa Db (fun z => left z && !z.sameKey (.string x)) cnt' (m + 1) w3 := by
  have hle := h.le
  refine ⟨hrg.kept hg3 (by intro e; injection e with e; exact hab e.symm) (by intro e; injection e with e; exact har e.symm), ⟨_, ho, fun y hy => ?_⟩, by omega, fun M h1 h2 h3 => ?_⟩
  · rw [has_put_str hm, hQ y hy]
    show _ = (Qa y || (Maps.has Db (.string y) && !(left (.string y) && !(Lit.string y).sameKey (.string x))))
    rw [same_str]
    by_cases e : y = x
    · subst e; simp [hl, hh]
    · simp [e]
  · have s1 := (h.b M h1 h2 h3).size
    exact below_grown_some (below_grown_some (h.b M h1 h2 h3) hg (by omega) (by omega)) hg3 h1 (by have := hg.size; omega)

set_option maxRecDepth 100000 in
set_option maxHeartbeats 1000000 in
theorem union_as (sw : Bool) (B1 B2 n1 n2 Ba Bb na nb : Nat) (Q1 Q2 Qa Qb : Str → Bool) (D1 D2 : DataW Unit) (w : World) (hne : B1 ≠ B2) (h1 : ∀ x : Str, x.length ≤ maxLen → Maps.has D1 (.string x) = Q1 x) (h2 : ∀ x : Str, x.length ≤ maxLen → Maps.has D2 (.string x) = Q2 x) (hn : n1 + n2 < maxLen)
    (hD1 : w.ownsMap (H := Unit) Try.prog 9 unitElem B1 n1 D1) (hD2 : w.ownsMap (H := Unit) Try.prog 9 unitElem B2 n2 D2)
    (hq : decide (Maps.size D1 < Maps.size D2) = sw)
    (hs : (sw = true ∧ Ba = B2 ∧ Bb = B1 ∧ na = n2 ∧ nb = n1 ∧ Qa = Q2 ∧ Qb = Q1) ∨ (sw = false ∧ Ba = B1 ∧ Bb = B2 ∧ na = n1 ∧ nb = n2 ∧ Qa = Q1 ∧ Qb = Q2)) :
    Calls Try.prog 41 #[.map (some B1), .map (some B2)] w fun e w' => e = .returned (.map (some Ba)) ∧ MS w' Ba (n1 + n2) (fun x => Q1 x || Q2 x) ∧ ∀ M, M ≤ B1 → M ≤ B2 → M ≤ w.heap.size → RowKit.Below M w w' := by
  -- in words of a and b
  obtain ⟨Da, Db, hA, hB, hQA, hQB, hab, hnn, hfin, hM⟩ : ∃ Da Db, w.ownsMap (H := Unit) Try.prog 9 unitElem Ba na Da ∧ w.ownsMap (H := Unit) Try.prog 9 unitElem Bb nb Db ∧ (∀ x : Str, x.length ≤ maxLen → Maps.has Da (.string x) = Qa x) ∧ (∀ x : Str, x.length ≤ maxLen → Maps.has Db (.string x) = Qb x) ∧ Ba ≠ Bb ∧ na + nb = n1 + n2 ∧ (∀ x, (Qa x || Qb x) = (Q1 x || Q2 x)) ∧ ∀ M, M ≤ B1 → M ≤ B2 → M ≤ Ba ∧ M ≤ Bb := by
    rcases hs with ⟨_, rfl, rfl, rfl, rfl, rfl, rfl⟩ | ⟨_, rfl, rfl, rfl, rfl, rfl, rfl⟩
    · exact ⟨D2, D1, hD2, hD1, h2, h1, Ne.symm hne, Nat.add_comm _ _, fun x => Bool.or_comm _ _, fun M a b => ⟨b, a⟩⟩
    · exact ⟨D1, D2, hD1, hD2, h1, h2, hne, rfl, fun x => rfl, fun M a b => ⟨a, b⟩⟩
  have l1 := fun ty => hD1.len Try.underlying63 ty
  have l2 := fun ty => hD2.len Try.underlying63 ty
  have HAB := Lib.hid (And.intro hA (And.intro hB (And.intro hQA (And.intro hQB (And.intro hab (And.intro hnn (And.intro hfin hM)))))))
  have HN := Lib.hid hn
  clear hA hB hQA hQB hab hnn hfin hM hn h1 h2 hD1 hD2 hne
  rcases hs with ⟨rfl, rfl, rfl, rfl, rfl, rfl, rfl⟩ | ⟨rfl, rfl, rfl, rfl, rfl, rfl, rfl⟩
  all_goals
    have hqp := hq
    simp only [decide_eq_true_eq, decide_eq_false_iff_not] at hqp
    go_enter Try.func41, Try.ntmps41
    go_wp2_with (first
      | (at_range; refine wpList_range_own _ rfl _ 63 rfl 9 64 lawStr Try.underlying63 (unitElem (H := Unit)) _ _ _ rfl HAB.out.2.1 ?_; intro w0 hrg0 hg0 hs0)
      | fail)
    have HSB := Lib.hid hrg0.owns.size_le
    have H0 := Lib.hid (UN.start HAB.out.1 HAB.out.2.2.1 hrg0 hg0 (by have := HSB.out; omega))
    clear hrg0 hg0 hs0 l1 l2 hq hqp
    have HRW := Lib.hid (show w.heap.size = w.heap.size from rfl)
    obtain ⟨r, hr⟩ : ∃ r, w.heap.size = r := ⟨_, rfl⟩
    rw [hr] at H0 ⊢
    have HR := Lib.hid (And.intro (Nat.le_of_eq hr) (And.intro (show Ba ≠ r from fun e => by have := HAB.out.1.lt; omega) HAB.out.2.2.2.2.1))
    clear hr
    try go_frame
    go_loopw [5] (fun _ wr => ∃ left cnt m, UN w Ba Bb r nb (na + nb) Qa Db left cnt m wr) (fun _ wr => wr.rangeLeft Bb r)
    case atStart => exact ⟨_, _, _, H0.out⟩
    case round =>
      obtain ⟨left, cnt, m, hU⟩ := hrel
      have HU := Lib.hid hU
      clear hU
      go_wp2_with (first
        | (at_next; refine wpList_next_ranges _ rfl _ rfl 9 lawStr (unitElem (H := Unit)) (fun x : ByteArray => Value.string x) (fun _ : Unit => Value.agg #[]) (fun key kl h => by obtain ⟨x, _, rfl, _⟩ := keyStr_inv h; exact ⟨_, rfl⟩) (fun v y h => ⟨(), (unitElem_inv h).1⟩) Bb r nb _ _ _ rfl HU.out.rg ?_ ?_)
        | fail)
      · intro _ hl0
        have HL0 := Lib.hid hl0
        clear hl0
        go_wp2_with fail
        go_returns
        obtain ⟨D, ho, hQ⟩ := HU.out.own
        have hsz := HU.out.le
        refine ⟨rfl, ⟨D, ho.mono (by omega), fun x hx => ?_⟩, fun M h1 h2 h3 => HU.out.b M (by omega) (by omega) h3⟩
        rw [hQ x hx, HL0.out, HAB.out.2.2.2.1 x hx]
        first | (simp; done) | (simp; exact Bool.or_comm _ _)
      · intro x c kl y w1 cnt1 hkey hlx hy hat hrg1 hlt hg1 hs1 hen
        obtain ⟨xs, hxs, hx1, rfl⟩ := keyStr_inv hkey
        injection hx1 with hx1
        subst hx1
        have hh := has_true_of_atKey hat
        obtain ⟨Da2, hown, hQ⟩ := HU.out.own
        have hcnt := HU.out.le
        obtain ⟨w3, hrun, hown3, hg3⟩ := (hown.kept hg1 (by intro e; injection e with e; exact HR.out.2.1 e)).update lawStr Try.underlying63 (by have := HN.out; omega) (keyStr xs hxs) (unitElem_mk (H := Unit))
        have HX := Lib.hid (HU.out.next HR.out.1 HR.out.2.2 HR.out.2.1 hlx hh hrg1 hlt hg1 hQ hown.isMap hown3 hg3)
        have HM := Lib.hid (And.intro hrg1 hlt)
        clear hkey hlx hy hat hrg1 hlt hg1 hs1 hh hown hQ hcnt hown3 hg3
        go_wp2_with fail
        go_roundw
        case rel => exact ⟨_, cnt1, m + 1, HX.out⟩
        case measure => rw [HX.out.rg.left_eq, HU.out.rg.left_eq]; exact HM.out.2

theorem union_any (B1 B2 n1 n2 : Nat) (Q1 Q2 : Str → Bool) (w : World) (hne : B1 ≠ B2) (h1 : MS w B1 n1 Q1) (h2 : MS w B2 n2 Q2) (hn : n1 + n2 < maxLen) :
    Calls Try.prog 41 #[.map (some B1), .map (some B2)] w fun e w' => ∃ B, e = .returned (.map (some B)) ∧ (B = B1 ∨ B = B2) ∧ MS w' B (n1 + n2) (fun x => Q1 x || Q2 x) ∧ ∀ M, M ≤ B1 → M ≤ B2 → M ≤ w.heap.size → RowKit.Below M w w' := by
  obtain ⟨D1, hD1, hQ1⟩ := h1
  obtain ⟨D2, hD2, hQ2⟩ := h2
  cases hq : decide (Maps.size D1 < Maps.size D2) with
  | true => exact (union_as true B1 B2 n1 n2 B2 B1 n2 n1 Q1 Q2 Q2 Q1 D1 D2 w hne hQ1 hQ2 hn hD1 hD2 hq (.inl ⟨rfl, rfl, rfl, rfl, rfl, rfl, rfl⟩)).mono fun e w' ⟨a, b, c⟩ => ⟨B2, a, .inr rfl, b, c⟩
  | false => exact (union_as false B1 B2 n1 n2 B1 B2 n1 n2 Q1 Q2 Q1 Q2 D1 D2 w hne hQ1 hQ2 hn hD1 hD2 hq (.inr ⟨rfl, rfl, rfl, rfl, rfl, rfl, rfl⟩)).mono fun e w' ⟨a, b, c⟩ => ⟨B1, a, .inl rfl, b, c⟩
end Go.Proofs.Ytpnihimoekkepaa
