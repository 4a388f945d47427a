/-
  The heap: Collect, New.
-/
import Derived.Test.YthblcfhflkapmaaHpAD
namespace Go.Proofs.Ythblcfhflkapmaa
open Go Go.ChangeShapes Go.WideShapes Go.ChangeAt Go.RowKit Go.Sort
set_option linter.unusedVariables false
set_option linter.unusedSimpArgs false

theorem all_fine {L : List Ob} {l : List Wd} (h : ∀ u ∈ l, Fine L u) : l.all (fineB L) = true := List.all_eq_true.2 (fun u hu => (fineB_iff L u).2 (h u hu))
section
variable {w : World} {B hb : Nat} {size runs : Int} {L : List Ob} {V G V' G' : Value} {roots : List Wd}
set_option maxRecDepth 100000 in
set_option maxHeartbeats 2000000 in
theorem Collect_any (h : CH w B hb size runs L V G V' G') (hW : Wf L) (hs : sizes L ≤ 4000000) (hBw : B ≤ w.heap.size) (hru : 0 ≤ runs ∧ runs ≤ 4000000) (A : Option Addr) (c : Nat) (hr : Rd w 2 A roots.length (wcells roots)) (hf : ∀ u ∈ roots, Fine L u) (hm : roots.length ≤ 4000000) :
    Calls Try.prog 21 #[.pointer (some ⟨hb, 0, none⟩), .slice A roots.length c] w fun e w' => ∃ v V1 G1 V1' G1', e = .returned (.tuple #[v, .nilIface]) ∧ CH w' B hb size (runs + 1) (collO L roots) V1 G1 V1' G1' ∧ w'.ownsRow B WTy 2 v roots.length (wcells (collR L roots)) ∧ (∀ g, v.ownBlock = some g → Nh hb V1 G1 V1' G1' g ∧ w.heap.size ≤ g) ∧ Tr w (Nh hb V G V' G') w' (Nh hb V1 G1 V1' G1') ∧ Below B w w' := by
  have HF := Lib.hid (fine_any h hs A roots c hr hm)
  rw [all_fine hf] at HF
  have HC := Lib.hid (fun (V2 : World) (hb2 : Below w.heap.size w V2) => collect_any (h.below hb2) hW hs (Nat.le_trans hBw hb2.size) hru A c (hr.below hb2) hf hm)
  have HB := Lib.hid hBw
  clear h hW hs hBw hru hr hf hm
  go_enter Try.func21, Try.ntmps21
  go_wp2_with (first
    | (go_at_call 29; (with_reducible refine HF.out.mono ?_); rintro e w1 ⟨rfl, hb1⟩; have HC1 := Lib.hid (And.intro hb1 (HC.out w1 hb1)); clear hb1)
    | (go_at_call 32; (with_reducible refine HC1.out.2.mono ?_); rintro e w2 ⟨v, V1, G1, V1', G1', rfl, q1, q2, q3, q4, q5⟩; have H2 := Lib.hid (And.intro q1 (And.intro q2 (And.intro q3 (And.intro q4 q5)))); clear q1 q2 q3 q4 q5))
  go_returns
  exact ⟨v, V1, G1, V1', G1', rfl, H2.out.1, H2.out.2.1, fun g hg => ⟨(H2.out.2.2.1 g hg).1, Nat.le_trans HC1.out.1.size (H2.out.2.2.1 g hg).2⟩, (Tr.below HC1.out.1).trans HC1.out.1.size H2.out.2.2.2.1, (HC1.out.1.mono HB.out).trans H2.out.2.2.2.2⟩
end
theorem New_no (n : Int) (hn : n < 1) (w : World) :
    Calls Try.prog 6 #[.int .i64 n] w fun e w' => e = .returned (.tuple #[.pointer none, .iface 29 (.int .i64 1)]) ∧ w = w' := by
  have q : decide (n < 1) = true := decide_eq_true hn
  go_enter Try.func6, Try.ntmps6
  go_wp2_with fail
  go_returns
  exact ⟨rfl, rfl⟩
theorem New_yes (n : Int) (hn : 1 ≤ n) (hm : n ≤ 268435456) (w : World) :
    Calls Try.prog 6 #[.int .i64 n] w fun e w' => e = .returned (.tuple #[.pointer (some ⟨w.heap.size, 0, none⟩), .nilIface]) ∧ CH w' w.heap.size w.heap.size n 0 [] (.slice none 0 0) (.slice none 0 0) (.slice none 0 0) (.slice none 0 0) ∧ Below w.heap.size w w' := by
  have q : decide (n < 1) = false := decide_eq_false (by omega)
  have q2 : decide (268435456 < n) = false := decide_eq_false (by omega)
  go_enter Try.func6, Try.ntmps6
  go_wp2_with fail
  go_returns
  refine ⟨rfl, ⟨heap_new rfl, World.ownsRow_nil _ _ _ _, World.ownsRow_nil _ _ _ _, ⟨0, [], World.ownsRow_nil _ _ _ _⟩, ⟨0, [], World.ownsRow_nil _ _ _ _⟩, (fun q hq => nomatch hq), (fun q hq => nomatch hq), Nat.le_refl _⟩, (Below.refl _ _).alloc (Nat.le_refl _) _⟩
end Go.Proofs.Ythblcfhflkapmaa
