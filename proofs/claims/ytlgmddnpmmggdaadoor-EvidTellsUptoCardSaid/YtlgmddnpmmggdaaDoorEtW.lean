/-
  The law, walked: whatever its arguments hold.
-/
import Derived.Test.YtlgmddnpmmggdaaDoorEtB
import Derived.Test.YtlgmddnpmmggdaaDoorEvC
import Derived.Test.YtlgmddnpmmggdaaDoorTyE
namespace Go.Proofs.YtlgmddnpmmggdaaDoor
open Go.ChangeShapes Go.WideShapes Go.ChangeAt Go.RowKit Go.Sort Go.Maps
set_option linter.unusedVariables false
set_option linter.unusedSimpArgs false
attribute [local irreducible] Go.wpQuiet

set_option maxRecDepth 100000 in
theorem few_any (w0 : World) (t : Ty) (hIn : t.In w0) (w : World) (hb : Below w0.heap.size w0 w) :
    Calls Tryd.prog 6 #[.agg t.d.arr] w fun e w' => (∃ v : Int, e = .returned (.int .i64 v)) ∧ Below w.heap.size w w' := by
  have hb1 : Below w.heap.size w (w.alloc (.cells t.d.arr 25)) := (Below.refl _ _).alloc (Nat.le_refl _) _
  have HC := Lib.hid (count_any w0 t hIn 5000 _ (below_then hb hb1))
  have HB := Lib.hid hb1
  clear hb1 hIn hb
  go_enter Tryd.func6, Tryd.ntmps6
  go_wp2_with fail
  refine HC.out.mono ?_
  rintro e w2 ⟨⟨v, rfl⟩, hb2⟩
  have H2 := Lib.hid (below_then HB.out hb2)
  clear hb2 HC
  go_wp2_with fail
  go_returns
  exact ⟨⟨v, rfl⟩, H2.out⟩

theorem eb_start (w : World) (d : TyD) (n row : Int) (lab : Str) (LA : Option Addr) (ll lc : Nat) :
    let W := ((w.alloc (.cells d.arr 25)).alloc (.cells #[.int .i64 n, .int .i64 row, .string (bstr lab)] 27)).alloc (.cells #[.slice LA ll lc] 30)
    Below w.heap.size w W ∧ EB W w.heap.size d n row lab LA ll lc := by
  intro W
  have h1 : ∀ (i : Nat) (v : Value), (#[Value.int .i64 n, .int .i64 row, .string (bstr lab)] : Array Value)[i]? = some v → W.cell? ⟨w.heap.size + 1, i, none⟩ = some v := fun i v hv => by
    refine cell_alloc ?_
    have := cell_new (w.alloc (.cells d.arr 25)) #[.int .i64 n, .int .i64 row, .string (bstr lab)] 27 i hv (fr := (0, 0))
    rwa [World.size_alloc] at this
  have h2 : W.cell? ⟨w.heap.size + 1 + 1, 0, none⟩ = some (.slice LA ll lc) := by
    have := cell_new ((w.alloc (.cells d.arr 25)).alloc (.cells #[.int .i64 n, .int .i64 row, .string (bstr lab)] 27)) #[.slice LA ll lc] 30 0 (v := .slice LA ll lc) rfl (fr := (0, 0))
    rwa [World.size_alloc, World.size_alloc] at this
  exact ⟨(((Below.refl _ _).alloc (Nat.le_refl _) _).alloc (by simp) _).alloc (by simp; omega) _, (box_at w d).lower (((Below.refl _ _).alloc (Nat.le_refl _) _).alloc (by simp) _), h1 0 _ rfl, h1 1 _ rfl, h1 2 _ rfl, h2⟩

set_option maxRecDepth 100000 in
set_option maxHeartbeats 1000000 in
theorem evidTells_any (t : Ty) (s lab : Str) (n row : Int) (KA VA LA : Option Addr) (kc vc lc : Nat) (ks : List (Int × Str)) (vs : List Int) (L : List Lk) (w : World) (hI : t.In w) (hG : t.Rg) (hnod : t.nodes ≤ 4000000)
    (hKA : Rd w 2 KA ks.length (nds ks)) (hVA : Rd w 1 VA vs.length (i64s vs)) (hr : Rd w 1 LA L.length (L.map Lk.val)) (hL : L.length ≤ 4000000) (hLI : ∀ k ∈ L, k.In w)
    (hks : ∀ x ∈ ks, (Lit.int .i64 x.1).wf = true ∧ x.2.length ≤ maxLen) (hvs : ∀ v ∈ vs, (Lit.int .i64 v).wf = true) (hrw : (Lit.int .i64 row).wf = true) (hsl : s.length ≤ 4000000) (hll : lab.length ≤ 4000000) (hkl : ks.length ≤ 4000000) (hvl : vs.length ≤ 4000000) (hL2 : Lay w) :
    Calls Tryd.prog 3 #[.agg t.d.arr, .string (bstr s), .agg #[.int .i64 n, .int .i64 row, .string (bstr lab)], .slice KA ks.length kc, .slice VA vs.length vc, .slice LA L.length lc] w fun e w' => e = .returned (.bool true) ∧ Below w.heap.size w w' := by
  have HS := Lib.hid (eb_start w t.d n row lab LA L.length lc)
  have HT := Lib.hid (And.intro hI (And.intro hG (And.intro hnod hL2)))
  have HK := Lib.hid (And.intro hKA (And.intro hVA (And.intro hks (And.intro hvs hrw))))
  have HLL := Lib.hid (And.intro hr (And.intro hL hLI))
  clear hI hG hnod hKA hVA hks hvs hrw hr hL hLI hL2
  go_enter Tryd.func3, Tryd.ntmps3
  go_wp2_with fail
  obtain ⟨hb1, hE1⟩ := HS.out
  generalize ((w.alloc (.cells t.d.arr 25)).alloc (.cells #[.int .i64 n, .int .i64 row, .string (bstr lab)] 27)).alloc (.cells #[.slice LA L.length lc] 30) = w1 at *
  have HB1 := Lib.hid hb1
  have HE1 := Lib.hid hE1
  clear hb1 hE1 HS
  refine (up_any w1).mono ?_
  rintro e w2 ⟨rfl, hb2⟩
  have HE2 := Lib.hid (HE1.out.below hb2)
  have HB2 := Lib.hid (below_then HB1.out hb2)
  clear hb2 HE1 HB1
  obtain ⟨a0, a1, a2, a3, a4⟩ := HE2.out.ty
  have e2 := HE2.out.e2
  go_wp2_with fail
  refine (few_any w t HT.out.1 w2 HB2.out).mono ?_
  rintro e w3 ⟨⟨v, rfl⟩, hb3⟩
  have HE3 := Lib.hid (HE2.out.below hb3)
  have HB3 := Lib.hid (below_then HB2.out hb3)
  clear hb3 HE2 HB2 a0 a1 a2 a3 a4 e2
  have e2 := HE3.out.e2
  have hs1 : (bstr s).size = s.length := bstr_size s
  have hs2 : (bstr lab).size = lab.length := bstr_size lab
  by_cases c1 : v < 0
  · go_wp2_with fail
    all_goals (go_returns; exact ⟨rfl, HB3.out⟩)
  have d1 : decide (v < 0) = false := decide_eq_false c1
  by_cases c2 : 100 < (s.length : Int)
  · go_wp2_with fail
    all_goals (go_returns; exact ⟨rfl, HB3.out⟩)
  have d2 : decide (100 < (s.length : Int)) = false := decide_eq_false c2
  by_cases c3 : 100 < (lab.length : Int)
  · go_wp2_with fail
    all_goals (go_returns; exact ⟨rfl, HB3.out⟩)
  have d3 : decide (100 < (lab.length : Int)) = false := decide_eq_false c3
  by_cases c4 : 50 < (ks.length : Int)
  · go_wp2_with fail
    all_goals (go_returns; exact ⟨rfl, HB3.out⟩)
  have d4 : decide (50 < (ks.length : Int)) = false := decide_eq_false c4
  by_cases c5 : vs.length < ks.length
  · go_wp2_with fail
    all_goals (go_returns; exact ⟨rfl, HB3.out⟩)
  have d5 : decide (vs.length < ks.length) = false := decide_eq_false c5
  have hb3 := HB3.out
  have HL9 := Lib.hid (And.intro (HLL.out.1.below hb3) (fun k hk => (HLL.out.2.2 k hk).below hb3))
  have HK9 := Lib.hid (And.intro (HK.out.1.below hb3) (HK.out.2.1.below hb3))
  have HLY9 := Lib.hid (HT.out.2.2.2.below hb3)
  have HLN := Lib.hid (show ks.length ≤ vs.length ∧ ks.length ≤ 50 ∧ lab.length ≤ maxLen ∧ lab.length ≤ 1000000 by unfold maxLen; omega)
  clear hb3
  go_upto_region 4 with fail
  exact et_of w.heap.size s n row lab t LA lc L w w3 HT.out.1 HT.out.2.1 HB3.out HE3.out HL9.out.1 HLL.out.2.1 HL9.out.2 rfl KA VA kc vc ks vs HK9.out.1 HK9.out.2 HLN.out.1 HLN.out.2.1 HK.out.2.2.1 HK.out.2.2.2.1 HK.out.2.2.2.2 HLN.out.2.2.1 HLN.out.2.2.2 HLY9.out HT.out.2.2.1 (by assumption)
end Go.Proofs.YtlgmddnpmmggdaaDoor
