/-
  The heap: Make, at words that aren't fine; where there is room.
-/
import Derived.Test.YthblcfhflkapmaaHpAF
namespace Go.Proofs.Ythblcfhflkapmaa
open Go Go.ChangeShapes Go.WideShapes Go.ChangeAt Go.RowKit Go.Sort
set_option linter.unusedVariables false
set_option linter.unusedSimpArgs false

section
variable {w w' : World} {B hb : Nat} {size runs : Int} {L : List Ob} {V G V' G' V1 G1 : Value} {roots l : List Wd}
set_option maxRecDepth 100000 in
set_option maxHeartbeats 4000000 in
theorem Make_bad (h : CH w B hb size runs L V G V' G') (hs : sizes L ≤ 4000000) (k : Int) (hk : headOk k (l.length : Nat)) (A1 A2 : Option Addr) (c1 c2 : Nat) (hl : Rd w 2 A1 l.length (wcells l)) (hr : Rd w 2 A2 roots.length (wcells roots)) (hrm : roots.length ≤ 4000000) (hq : (l.all (fineB L) && roots.all (fineB L)) = false) :
    Calls Try.prog 9 #[.pointer (some ⟨hb, 0, none⟩), .int .i64 k, .slice A1 l.length c1, .slice A2 roots.length c2] w fun e w' => e = .returned noObj ∧ Below w.heap.size w w' := by
  have hlm : l.length ≤ 4000000 := by have := hk.2.2.2; omega
  have HH := Lib.hid (head_yes k (l.length : Nat) hk)
  have HF1 := Lib.hid (fun (V1 : World) (hb1 : Below w.heap.size w V1) => fine_any (h.below hb1) hs A1 l c1 (hl.below hb1) hlm)
  have HF2 := Lib.hid (fun (V1 : World) (hb1 : Below w.heap.size w V1) => fine_any (h.below hb1) hs A2 roots c2 (hr.below hb1) hrm)
  clear h hs hk hl hr hrm hlm
  rcases Bool.eq_false_or_eq_true (l.all (fineB L)) with q1 | q1
  · have q2 : roots.all (fineB L) = false := by rw [q1, Bool.true_and] at hq; exact hq
    rw [q1] at HF1
    rw [q2] at HF2
    clear hq q1 q2
    go_enter Try.func9, Try.ntmps9
    go_upto_region 2 with (go_at_call 28; (with_reducible refine (HH.out _).mono ?_); rintro e w1 ⟨rfl, hb1⟩; have HB := Lib.hid hb1; clear hb1)
    have HB1 := Lib.hid (HB.out.alloc HB.out.size (.cells #[.bool false, .int .i64 (16 * (l.length : Int) + k)] 36))
    generalize w1.alloc (.cells #[.bool false, .int .i64 (16 * (l.length : Int) + k)] 36) = w2 at *
    go_wp2_with (first
      | (go_at_call 29; (with_reducible refine (HF1.out _ HB1.out).mono ?_); rintro e w3 ⟨rfl, hb3⟩; have HB3 := Lib.hid (below_then HB1.out hb3); clear hb3)
      | (go_at_call 29; (with_reducible refine (HF2.out _ HB3.out).mono ?_); rintro e w4 ⟨rfl, hb4⟩; have HB4 := Lib.hid (below_then HB3.out hb4); clear hb4))
    go_returns
    exact ⟨rfl, HB4.out⟩
  · rw [q1] at HF1
    clear hq q1
    go_enter Try.func9, Try.ntmps9
    go_upto_region 2 with (go_at_call 28; (with_reducible refine (HH.out _).mono ?_); rintro e w1 ⟨rfl, hb1⟩; have HB := Lib.hid hb1; clear hb1)
    have HB1 := Lib.hid (HB.out.alloc HB.out.size (.cells #[.bool false, .int .i64 (16 * (l.length : Int) + k)] 36))
    generalize w1.alloc (.cells #[.bool false, .int .i64 (16 * (l.length : Int) + k)] 36) = w2 at *
    go_wp2_with (go_at_call 29; (with_reducible refine (HF1.out _ HB1.out).mono ?_); rintro e w3 ⟨rfl, hb3⟩; have HB3 := Lib.hid (below_then HB1.out hb3); clear hb3)
    go_returns
    exact ⟨rfl, HB3.out⟩
set_option maxRecDepth 100000 in
set_option maxHeartbeats 8000000 in
theorem Make_room (h : CH w B hb size runs L V G V' G') (hBw : B ≤ w.heap.size) (hs : sizes L ≤ 4000000) (hz : -4000000 ≤ size ∧ size ≤ 4000000) (k : Int) (hk : headOk k (l.length : Nat)) (A1 A2 : Option Addr) (c1 c2 : Nat) (hl : Rd w 2 A1 l.length (wcells l)) (hr : Rd w 2 A2 roots.length (wcells roots)) (hrm : roots.length ≤ 4000000) (hf1 : ∀ u ∈ l, Fine L u) (hf2 : ∀ u ∈ roots, Fine L u) (hroom : (l.length : Int) < size - sizes L) :
    Calls Try.prog 9 #[.pointer (some ⟨hb, 0, none⟩), .int .i64 k, .slice A1 l.length c1, .slice A2 roots.length c2] w fun e w' => ∃ vl vr V1 G1, e = .returned (.tuple #[.int .i64 (sizes L : Nat), vl, vr, .nilIface]) ∧ CH w' B hb size runs (L ++ [(k, l)]) V1 G1 V' G' ∧ (w'.ownsRow B WTy 2 vl l.length (wcells l) ∧ w'.ownsRow B WTy 2 vr roots.length (wcells roots)) ∧ (∀ g, (vl.ownBlock = some g ∨ vr.ownBlock = some g) → Nh hb V1 G1 V' G' g ∧ w.heap.size ≤ g) ∧ Tr w (Nh hb V G V' G') w' (Nh hb V1 G1 V' G') ∧ Below B w w' := by
  have hlm : l.length ≤ 4000 := by have := hk.2.2.2; omega
  have HH := Lib.hid (head_yes k (l.length : Nat) hk)
  have HF1 := Lib.hid (fun (V1 : World) (hb1 : Below w.heap.size w V1) => fine_any (h.below hb1) hs A1 l c1 (hl.below hb1) (by omega))
  have HF2 := Lib.hid (fun (V1 : World) (hb1 : Below w.heap.size w V1) => fine_any (h.below hb1) hs A2 roots c2 (hr.below hb1) hrm)
  rw [all_fine hf1] at HF1
  rw [all_fine hf2] at HF2
  have HC1 := Lib.hid (fun (V1 : World) (hb1 : Below w.heap.size w V1) => wclone_any V1 A1 l c1 (hl.below hb1) (by omega))
  have HC2 := Lib.hid (fun (V1 : World) (hb1 : Below w.heap.size w V1) => wclone_any V1 A2 roots c2 (hr.below hb1) (by omega))
  have HRM := Lib.hid (fun (V1 : World) (hb1 : Below w.heap.size w V1) => hasRoom_any (h.below hb1) hs hz (l.length : Nat))
  rw [decide_eq_true hroom] at HRM
  have HX := Lib.hid (And.intro h (And.intro hBw (And.intro hs hlm)))
  clear h hs hk hl hr hrm hlm hBw hz hf1 hf2 hroom
  go_enter Try.func9, Try.ntmps9
  go_upto_region 2 with (go_at_call 28; (with_reducible refine (HH.out _).mono ?_); rintro e w1 ⟨rfl, hb1⟩; have HB := Lib.hid hb1; clear hb1)
  have HB1 := Lib.hid (HB.out.alloc HB.out.size (.cells #[.bool false, .int .i64 (16 * (l.length : Int) + k)] 36))
  have HX1 := Lib.hid (show (w1.alloc (.cells #[.bool false, .int .i64 (16 * (l.length : Int) + k)] 36)).heap[w1.heap.size]? = some (.cells #[.bool false, .int .i64 (16 * (l.length : Int) + k)] 36) from heap_new rfl)
  have HZ1 := Lib.hid HB.out.size
  generalize w1.alloc (.cells #[.bool false, .int .i64 (16 * (l.length : Int) + k)] 36) = w2 at *
  go_upto_region 4 with (first
    | (go_at_call 29; (with_reducible refine (HF1.out _ HB1.out).mono ?_); rintro e w3 ⟨rfl, hb3⟩; have HB3 := Lib.hid (And.intro (below_then HB1.out hb3) hb3); clear hb3)
    | (go_at_call 29; (with_reducible refine (HF2.out _ HB3.out.1).mono ?_); rintro e w4 ⟨rfl, hb4⟩; have HB4 := Lib.hid (And.intro (below_then HB3.out.1 hb4) (below_then HB3.out.2 hb4)); clear hb4))
  go_upto_region 5 with (first
    | (go_at_call 30; (with_reducible refine (HC1.out _ HB4.out.1).mono ?_); rintro e w5 ⟨vl, rfl, ho5, hb5⟩; have H5 := Lib.hid (And.intro ho5 (And.intro (below_then HB4.out.1 hb5) (below_then HB4.out.2 hb5))); clear ho5 hb5)
    | (go_at_call 30; (with_reducible refine (HC2.out _ H5.out.2.1).mono ?_); rintro e w6 ⟨vr, rfl, ho6, hb6⟩; have H6 := Lib.hid (And.intro (own_below H5.out.1 hb6) (And.intro ho6 (And.intro (below_then H5.out.2.1 hb6) (below_then H5.out.2.2 hb6)))); clear ho6 hb6))
  obtain ⟨Al, cl, rfl, _⟩ := own_cap H6.out.1
  have hbw6 := H6.out.2.2.1
  have HADD := Lib.hid (fun (V8 : World) (hb8 : Below w6.heap.size w6 V8) => (show Calls Try.prog 34 #[.pointer (some ⟨hb, 2, none⟩), .agg #[.bool false, .int .i64 (16 * (l.length : Int) + k)], .slice Al l.length cl] V8 fun e w' => e = .returned (.int .i64 (sizes L : Nat)) ∧ ∃ cs' V1 G1, AS V8 B hb 2 HTy #[.int .i64 size, .int .i64 runs, V, G, V', G'] V G (sizes L + 1 + l.length) (wcells (flat L) ++ wcells [hdW (k, l)] ++ wcells l) (sizes L + 1 + l.length) (bcells (begs L) ++ bcells (true :: List.replicate l.length false)) w' cs' V1 G1 from
    add_any ((HX.out.1.below hbw6).below hb8).hd ⟨by decide, by decide⟩ rfl rfl ((HX.out.1.below hbw6).below hb8).fw ((HX.out.1.below hbw6).below hb8).fg HX.out.1.ge (hdW (k, l)) Al l cl ((Rd.of_own H6.out.1).below hb8) (fun a ha h0 e => by
      subst ha
      have h1 := (H6.out.1.lt a.block rfl).1
      have h2 := (HX.out.1.fw.lt a.block e.symm).2
      have h3 := HB4.out.1.size
      omega) (by have := HX.out.2.2.1; have := HX.out.2.2.2; omega)))
  clear hbw6
  go_upto_region 11 with (first
    | (go_at_call 31; (with_reducible refine (HRM.out _ H6.out.2.2.1).mono ?_); rintro e w7 ⟨rfl, hb7⟩; have H7 := Lib.hid (And.intro (below_then H6.out.2.2.1 hb7) hb7); clear hb7)
    | (go_at_call 31; (with_reducible refine (HRM.out _ H7.out.1).mono ?_); rintro e w8 ⟨rfl, hb8⟩; have H8 := Lib.hid (below_then H7.out.2 hb8); clear hb8))
  have HV8 := Lib.hid (below_then H8.out (below_drew1 w8))
  have hx8 := (H8.out.block _ (lt_of_heap ((H6.out.2.2.2.block _ (lt_of_heap HX1.out)).trans HX1.out))).trans ((H6.out.2.2.2.block _ (lt_of_heap HX1.out)).trans HX1.out)
  obtain ⟨y0, y1⟩ := cells2 hx8
  clear hx8
  go_region_law (first
    | (go_simp; go_at_call 34; (with_reducible refine (HADD.out _ HV8.out).mono ?_); rintro e w9 ⟨rfl, cs', V1, G1, has⟩; have HS := Lib.hid has; clear has)
    | go_simp)
  all_goals
    obtain ⟨q1, q2⟩ := ((HX.out.1.below H6.out.2.2.1).below HV8.out).added (k, l) HS.out
    have HQ := Lib.hid (And.intro q1 q2)
    have hns : Nh hb V G V' G' = Nh hb V G V' G' := rfl
    clear q1 q2 y0 y1
    go_wp2_with fail
    go_returns
    have hsz8 : w6.heap.size ≤ w8.drew.heap.size := HV8.out.size
    have hkl : ∀ (S : Nat) (x : Value) (m : Nat) (xs : List Value), w6.ownsRow S WTy 2 x m xs → w.heap.size ≤ S → (w9.ownsRow B WTy 2 x m xs ∧ ∀ g, x.ownBlock = some g → Nh hb V1 G1 V' G' g ∧ w.heap.size ≤ g) := fun S x m xs ho hS => by
      have ho8 := own_below ho HV8.out
      have hfr : ∀ g, x.ownBlock = some g → Nh hb V G V' G' g ∧ w.heap.size ≤ g := fun g hg => ⟨HX.out.1.fresh (Nat.le_trans hS (ho.lt g hg).1), Nat.le_trans hS (ho.lt g hg).1⟩
      exact ⟨own_mono (own_keep ho8 (fun g hg hl => (HQ.out.2 g (hfr g hg).1 hl).2)) (Nat.le_trans HX.out.2.1 hS), fun g hg => ⟨(HQ.out.2 g (hfr g hg).1 (ho8.lt g hg).2).1, (hfr g hg).2⟩⟩
    obtain ⟨u1, u2⟩ := hkl _ _ _ _ H6.out.1 HB4.out.1.size
    obtain ⟨u3, u4⟩ := hkl _ _ _ _ H6.out.2.1 H5.out.2.1.size
    exact ⟨_, vr, rfl, V1, G1, HQ.out.1, ⟨u1, u3⟩, fun g hg => hg.elim (u2 g) (u4 g), (Tr.below H6.out.2.2.1).trans H6.out.2.2.1.size ((Tr.below HV8.out).trans HV8.out.size HQ.out.2), (H6.out.2.2.1.mono HX.out.2.1).trans ((HV8.out.mono (Nat.le_trans HX.out.2.1 H6.out.2.2.1.size)).trans HS.out.bl)⟩
end
end Go.Proofs.Ythblcfhflkapmaa
