/-
  The free names of a core expression as a list, by the code.
-/
import Derived.Test.YtpnihimoekkepaaCoJ
import Derived.Test.YtpnihimoekkepaaIter
import Derived.CallsIn
import Derived.Test.YtpnihimoekkepaaLabelMath
namespace Go.Proofs.Ytpnihimoekkepaa
open Go.ChangeShapes Go.WideShapes Go.ChangeAt Go.RowKit Go.Sort Go.Maps
set_option linter.unusedVariables false
set_option linter.unusedSimpArgs false

theorem mem_keys {w : World} {B n : Nat} {D : DataW Unit} (h : w.ownsMap (H := Unit) Try.prog 9 unitElem B n D) (x : Str) : x ∈ strKeys D ↔ Maps.has D (.string x) = true := by
  obtain ⟨es, rfl, hk⟩ := h.keysOf
  rw [has_eq, List.any_eq_true]
  show x ∈ es.map (fun p => strOf p.1) ↔ _
  rw [List.mem_map]
  constructor
  · rintro ⟨p, hp, e⟩
    obtain ⟨v, hv⟩ := hk p hp
    obtain ⟨y, _, _, hy⟩ := keyStr_inv hv
    refine ⟨p, hp, ?_⟩
    rw [hy] at e ⊢
    have : y = x := e
    rw [this, same_str]; simp
  · rintro ⟨p, hp, e⟩
    obtain ⟨v, hv⟩ := hk p hp
    obtain ⟨y, _, _, hy⟩ := keyStr_inv hv
    refine ⟨p, hp, ?_⟩
    rw [hy, same_str] at e
    rw [hy]
    exact (of_decide_eq_true e)

theorem keys_nodup {w : World} {B n : Nat} {D : DataW Unit} (h : w.ownsMap (H := Unit) Try.prog 9 unitElem B n D) : (strKeys D).Nodup := by
  obtain ⟨es, rfl, hpw⟩ := h.tidy lawStr
  obtain ⟨es', he, hk⟩ := h.keysOf
  injection he with he
  subst he
  show (es.map fun p => strOf p.1).Nodup
  refine List.pairwise_map.2 (hpw.imp_of_mem fun {p q} hp hq hne e => hne ?_)
  obtain ⟨v, hv⟩ := hk p hp
  obtain ⟨y, _, _, hy⟩ := keyStr_inv hv
  obtain ⟨v', hv'⟩ := hk q hq
  obtain ⟨y', _, _, hy'⟩ := keyStr_inv hv'
  rw [hy, hy'] at e ⊢
  exact congrArg _ e

theorem own_base {w : World} {b b' : Nat} {e : TypeId} {size n : Nat} {v : Value} {xs : List Value} (h : w.ownsRow b e size v n xs) (hb : b' ≤ b) : w.ownsRow b' e size v n xs := by
  refine ⟨h.1, ?_⟩
  rcases h.2 with q | ⟨g, cap, cur, h1, h2, h3⟩
  · exact .inl q
  · exact .inr ⟨g, cap, cur, h1, Nat.le_trans hb h2, h3⟩
/-- Free: a list of the free names. -/
theorem ms_order {l : List Str} (h : l.Nodup) : inOrder (l.mergeSort fun x y => decide (x ≤ y)) := by
  have h1 := sorted_ms l
  have h2 : (l.mergeSort fun x y => decide (x ≤ y)).Nodup := (List.mergeSort_perm l _).nodup_iff.2 h
  refine (List.Pairwise.and h1 h2).imp fun {a b} hab => ?_
  cases hc : slt a b with
  | true => rfl
  | false => exact absurd (slt_tri hc hab.1) hab.2
def FrR (t : Ex) (w : World) (e : Ending) (w' : World) : Prop := ∃ A n c ss, e = .returned (.slice A n c) ∧ w'.ownsRow w.heap.size 9 1 (.slice A n c) n (strs ss) ∧ n ≤ 4000000 ∧ (∀ x ∈ ss, t.freeB x = true ∧ x.length ≤ maxLen) ∧ (∀ x : Str, x.length ≤ maxLen → t.freeB x = true → x ∈ ss) ∧ Below w.heap.size w w' ∧ ss.Nodup ∧ inOrder ss

set_option maxRecDepth 100000 in
set_option maxHeartbeats 2000000 in
theorem Free_any (t : Ex) (w : World) (hIn : t.In w) (hnd : t.nodes ≤ 4000000) :
    Calls Try.prog 13 #[.agg t.d.arr] w fun e w' => FrR t w e w' := by
  have hb1 : Below w.heap.size w (w.alloc (.cells t.d.arr 25)) := (Below.refl _ _).alloc (Nat.le_refl _) _
  have HM := Lib.hid (free_any _ t (hIn.lower hb1) w.heap.size 0 _ (ex_box w t.d) (Below.refl _ _) hnd)
  have HB := Lib.hid hb1
  have HND := Lib.hid hnd
  clear hb1 hIn hnd
  go_enter Try.func13, Try.ntmps13
  go_wp2_with fail
  refine HM.out.mono ?_
  rintro e w1 ⟨B, rfl, hB, ⟨D, hown, hQ⟩, hb⟩
  have HK := Lib.hid (callsIn_wide.1 (Try.maps_Keys_28 (some B) w1))
  have hsz : Maps.size D ≤ 4000000 := Nat.le_trans hown.size_le HND.out
  have e4 : (4000000 : Nat) ≤ maxLen := by decide
  have HS := Lib.hid (callsIn_wide.1 (Try.slices_Sorted_keys_27_28 B t.nodes D unitElem w1 hown (Nat.le_trans hsz e4) (by omega)))
  have H1 := Lib.hid (And.intro hown (And.intro hQ (And.intro hb hsz)))
  clear HM hB hown hQ hb hsz e4
  go_wp2_with fail
  refine HK.out.mono ?_
  rintro e w2 ⟨rfl, rfl⟩
  go_wp2_with fail
  refine HS.out.mono ?_
  rintro e w3 ⟨v, ss, rfl, hp, hrow, _, hb3⟩
  obtain ⟨A, c, rfl, _⟩ := own_cap hrow
  have hb2 : Below w1.heap.size w1 (w1.alloc (.cells #[.map (some B)] 63)) := (Below.refl _ _).alloc (Nat.le_refl _) _
  have hmem : ∀ x, x ∈ (ss.mergeSort (fun x y => decide (x ≤ y)) : List Str) ↔ Maps.has D (.string x) = true := fun x => ((List.mergeSort_perm ss _).mem_iff.trans hp.mem_iff).trans (mem_keys H1.out.1 x)
  have hle := strKeys_le H1.out.1 Try.underlying9
  have hpl : ss.length ≤ 4000000 := by
    have := hp.length_eq
    obtain ⟨es, he, _⟩ := H1.out.1.keysOf
    have h2 := H1.out.2.2.2
    rw [he] at this h2
    rw [this]
    simpa [strKeys, Maps.size] using h2
  have hbw : Below w.heap.size w w3 := HB.out.trans ((H1.out.2.2.1.trans (hb2.mono H1.out.2.2.1.size) |>.trans (hb3.mono (Nat.le_trans H1.out.2.2.1.size hb2.size))).mono HB.out.size)
  have HF := Lib.hid (show FrR t w (.returned (.slice A ss.length c)) w3 from ⟨A, ss.length, c, ss.mergeSort (fun x y => decide (x ≤ y)), rfl, own_base hrow (Nat.le_trans (Nat.le_trans HB.out.size H1.out.2.2.1.size) hb2.size), hpl, fun x hx => by
      have hl : x.length ≤ maxLen := hle x (((List.mergeSort_perm ss _).mem_iff.trans hp.mem_iff).1 hx)
      exact ⟨by rw [← H1.out.2.1 x hl]; exact (hmem x).1 hx, hl⟩, fun x hl hx => (hmem x).2 (by rw [H1.out.2.1 x hl]; exact hx), hbw, (List.mergeSort_perm ss _).nodup_iff.2 (hp.nodup_iff.2 (keys_nodup H1.out.1)), ms_order (hp.nodup_iff.2 (keys_nodup H1.out.1))⟩)
  clear hp hrow hb3 hb2 hmem hle hpl hbw
  go_wp2_with fail
  go_returns
  exact HF.out

end Go.Proofs.Ytpnihimoekkepaa
