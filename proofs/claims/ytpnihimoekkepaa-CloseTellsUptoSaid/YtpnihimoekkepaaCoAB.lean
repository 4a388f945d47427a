/-
  The law's example, by the code.
-/
import Derived.Test.YtpnihimoekkepaaCoAA
namespace Go.Proofs.Ytpnihimoekkepaa
open Go.ChangeShapes Go.WideShapes Go.ChangeAt Go.RowKit Go.Sort Go.Maps
set_option linter.unusedVariables false
set_option linter.unusedSimpArgs false

theorem bstr97 : bstr [97] = ⟨#[97]⟩ := by rfl
theorem bstr98 : bstr [98] = ⟨#[98]⟩ := by rfl
theorem bstr0 : bstr [] = ⟨#[]⟩ := by rfl
set_option maxRecDepth 100000 in
set_option maxHeartbeats 1000000 in
theorem up_any (w : World) : Calls Try.prog 5 #[] w fun e w' => e = .returned (.bool true) ∧ Below w.heap.size w w' := by
  have hb1 : Below w.heap.size w (w.alloc (.cells #[.int .i64 3, .int .i64 0, .string ⟨#[97]⟩, .string ⟨#[]⟩, .slice none 0 0, .slice none 0 0] 25)) := (Below.refl _ _).alloc (Nat.le_refl _) _
  have hs1 : (w.alloc (.cells #[.int .i64 3, .int .i64 0, .string ⟨#[97]⟩, .string ⟨#[]⟩, .slice none 0 0, .slice none 0 0] 25)).heap.size = w.heap.size + 1 := World.size_alloc _ _
  have hb2 : Below (w.alloc (.cells #[.int .i64 3, .int .i64 0, .string ⟨#[97]⟩, .string ⟨#[]⟩, .slice none 0 0, .slice none 0 0] 25)).heap.size (w.alloc (.cells #[.int .i64 3, .int .i64 0, .string ⟨#[97]⟩, .string ⟨#[]⟩, .slice none 0 0, .slice none 0 0] 25)) ((w.alloc (.cells #[.int .i64 3, .int .i64 0, .string ⟨#[97]⟩, .string ⟨#[]⟩, .slice none 0 0, .slice none 0 0] 25)).alloc (.cells #[.int .i64 3, .int .i64 0, .string ⟨#[97]⟩, .string ⟨#[]⟩, .slice none 0 0, .slice none 0 0] 25)) := (Below.refl _ _).alloc (Nat.le_refl _) _
  have hs2 : ((w.alloc (.cells #[.int .i64 3, .int .i64 0, .string ⟨#[97]⟩, .string ⟨#[]⟩, .slice none 0 0, .slice none 0 0] 25)).alloc (.cells #[.int .i64 3, .int .i64 0, .string ⟨#[97]⟩, .string ⟨#[]⟩, .slice none 0 0, .slice none 0 0] 25)).heap.size = w.heap.size + 2 := by simp
  have hb3 : Below ((w.alloc (.cells #[.int .i64 3, .int .i64 0, .string ⟨#[97]⟩, .string ⟨#[]⟩, .slice none 0 0, .slice none 0 0] 25)).alloc (.cells #[.int .i64 3, .int .i64 0, .string ⟨#[97]⟩, .string ⟨#[]⟩, .slice none 0 0, .slice none 0 0] 25)).heap.size ((w.alloc (.cells #[.int .i64 3, .int .i64 0, .string ⟨#[97]⟩, .string ⟨#[]⟩, .slice none 0 0, .slice none 0 0] 25)).alloc (.cells #[.int .i64 3, .int .i64 0, .string ⟨#[97]⟩, .string ⟨#[]⟩, .slice none 0 0, .slice none 0 0] 25)) (((w.alloc (.cells #[.int .i64 3, .int .i64 0, .string ⟨#[97]⟩, .string ⟨#[]⟩, .slice none 0 0, .slice none 0 0] 25)).alloc (.cells #[.int .i64 3, .int .i64 0, .string ⟨#[97]⟩, .string ⟨#[]⟩, .slice none 0 0, .slice none 0 0] 25)).alloc (.cells #[.int .i64 4, .int .i64 0, .string ⟨#[98]⟩, .string ⟨#[]⟩, .slice none 0 0, .slice (some ⟨w.heap.size + 1, 0, none⟩) 1 1] 25)) := (Below.refl _ _).alloc (Nat.le_refl _) _
  have HB3 := Lib.hid (below_then (below_then hb1 hb2) hb3)
  have HR2 := Lib.hid (show Rd (((w.alloc (.cells #[.int .i64 3, .int .i64 0, .string ⟨#[97]⟩, .string ⟨#[]⟩, .slice none 0 0, .slice none 0 0] 25)).alloc (.cells #[.int .i64 3, .int .i64 0, .string ⟨#[97]⟩, .string ⟨#[]⟩, .slice none 0 0, .slice none 0 0] 25)).alloc (.cells #[.int .i64 4, .int .i64 0, .string ⟨#[98]⟩, .string ⟨#[]⟩, .slice none 0 0, .slice (some ⟨w.heap.size + 1, 0, none⟩) 1 1] 25)) 6 (some ⟨w.heap.size + 1, 0, none⟩) 1 x2E.cells from by
    have h := Rd.lit (size := 6) (n := 1) (w.alloc (.cells #[.int .i64 3, .int .i64 0, .string ⟨#[97]⟩, .string ⟨#[]⟩, .slice none 0 0, .slice none 0 0] 25)) #[.int .i64 3, .int .i64 0, .string ⟨#[97]⟩, .string ⟨#[]⟩, .slice none 0 0, .slice none 0 0] 25 rfl (fr := (0, 0))
    rw [hs1] at h
    exact h.below hb3)
  have HR1 := Lib.hid (show Rd (((w.alloc (.cells #[.int .i64 3, .int .i64 0, .string ⟨#[97]⟩, .string ⟨#[]⟩, .slice none 0 0, .slice none 0 0] 25)).alloc (.cells #[.int .i64 3, .int .i64 0, .string ⟨#[97]⟩, .string ⟨#[]⟩, .slice none 0 0, .slice none 0 0] 25)).alloc (.cells #[.int .i64 4, .int .i64 0, .string ⟨#[98]⟩, .string ⟨#[]⟩, .slice none 0 0, .slice (some ⟨w.heap.size + 1, 0, none⟩) 1 1] 25)) 6 (some ⟨w.heap.size + 2, 0, none⟩) 1 (x1E (w.heap.size + 1)).cells from by
    have h := Rd.lit (size := 6) (n := 1) ((w.alloc (.cells #[.int .i64 3, .int .i64 0, .string ⟨#[97]⟩, .string ⟨#[]⟩, .slice none 0 0, .slice none 0 0] 25)).alloc (.cells #[.int .i64 3, .int .i64 0, .string ⟨#[97]⟩, .string ⟨#[]⟩, .slice none 0 0, .slice none 0 0] 25)) #[.int .i64 4, .int .i64 0, .string ⟨#[98]⟩, .string ⟨#[]⟩, .slice none 0 0, .slice (some ⟨w.heap.size + 1, 0, none⟩) 1 1] 25 rfl (fr := (0, 0))
    rw [hs2] at h
    exact h)
  have HCL := Lib.hid (show Calls Try.prog 7 #[.agg #[.int .i64 4, .int .i64 0, .string ⟨#[97]⟩, .string ⟨#[]⟩, .slice none 0 0, .slice (some ⟨w.heap.size + 2, 0, none⟩) 1 1]] (((w.alloc (.cells #[.int .i64 3, .int .i64 0, .string ⟨#[97]⟩, .string ⟨#[]⟩, .slice none 0 0, .slice none 0 0] 25)).alloc (.cells #[.int .i64 3, .int .i64 0, .string ⟨#[97]⟩, .string ⟨#[]⟩, .slice none 0 0, .slice none 0 0] 25)).alloc (.cells #[.int .i64 4, .int .i64 0, .string ⟨#[98]⟩, .string ⟨#[]⟩, .slice none 0 0, .slice (some ⟨w.heap.size + 1, 0, none⟩) 1 1] 25)) (ClR (x0E (w.heap.size + 1) (w.heap.size + 2)) (((w.alloc (.cells #[.int .i64 3, .int .i64 0, .string ⟨#[97]⟩, .string ⟨#[]⟩, .slice none 0 0, .slice none 0 0] 25)).alloc (.cells #[.int .i64 3, .int .i64 0, .string ⟨#[97]⟩, .string ⟨#[]⟩, .slice none 0 0, .slice none 0 0] 25)).alloc (.cells #[.int .i64 4, .int .i64 0, .string ⟨#[98]⟩, .string ⟨#[]⟩, .slice none 0 0, .slice (some ⟨w.heap.size + 1, 0, none⟩) 1 1] 25))) from Close_any (x0E (w.heap.size + 1) (w.heap.size + 2)) (((w.alloc (.cells #[.int .i64 3, .int .i64 0, .string ⟨#[97]⟩, .string ⟨#[]⟩, .slice none 0 0, .slice none 0 0] 25)).alloc (.cells #[.int .i64 3, .int .i64 0, .string ⟨#[97]⟩, .string ⟨#[]⟩, .slice none 0 0, .slice none 0 0] 25)).alloc (.cells #[.int .i64 4, .int .i64 0, .string ⟨#[98]⟩, .string ⟨#[]⟩, .slice none 0 0, .slice (some ⟨w.heap.size + 1, 0, none⟩) 1 1] 25)) (x0_in HR2.out HR1.out) (show (3 : Nat) ≤ 4000000 by decide))
  have HV := Lib.hid (show ∀ V, Below (((w.alloc (.cells #[.int .i64 3, .int .i64 0, .string ⟨#[97]⟩, .string ⟨#[]⟩, .slice none 0 0, .slice none 0 0] 25)).alloc (.cells #[.int .i64 3, .int .i64 0, .string ⟨#[97]⟩, .string ⟨#[]⟩, .slice none 0 0, .slice none 0 0] 25)).alloc (.cells #[.int .i64 4, .int .i64 0, .string ⟨#[98]⟩, .string ⟨#[]⟩, .slice none 0 0, .slice (some ⟨w.heap.size + 1, 0, none⟩) 1 1] 25)).heap.size (((w.alloc (.cells #[.int .i64 3, .int .i64 0, .string ⟨#[97]⟩, .string ⟨#[]⟩, .slice none 0 0, .slice none 0 0] 25)).alloc (.cells #[.int .i64 3, .int .i64 0, .string ⟨#[97]⟩, .string ⟨#[]⟩, .slice none 0 0, .slice none 0 0] 25)).alloc (.cells #[.int .i64 4, .int .i64 0, .string ⟨#[98]⟩, .string ⟨#[]⟩, .slice none 0 0, .slice (some ⟨w.heap.size + 1, 0, none⟩) 1 1] 25)) V → V.cell? ⟨w.heap.size, 0, none⟩ = some (.int .i64 3) ∧ V.cell? ⟨w.heap.size, 1, none⟩ = some (.int .i64 0) ∧ V.cell? ⟨w.heap.size, 2, none⟩ = some (.string ⟨#[97]⟩) ∧ V.cell? ⟨w.heap.size, 3, none⟩ = some (.string ⟨#[]⟩) ∧ V.cell? ⟨w.heap.size, 4, none⟩ = some (.slice none 0 0) ∧ V.cell? ⟨w.heap.size, 5, none⟩ = some (.slice none 0 0) from fun V h => cells6 (((below_then (below_then hb2 hb3) h).block _ (by rw [hs1]; omega)).trans (heap_alloc_new w _)))
  have HCV := Lib.hid (show ∀ V, Calls Try.prog 7 #[.agg #[.int .i64 3, .int .i64 0, .string ⟨#[97]⟩, .string ⟨#[]⟩, .slice none 0 0, .slice none 0 0]] V (ClR x2E V) from fun V => Close_any x2E V (x2_in V) (by decide))
  clear hb1 hb2 hb3 hs1 hs2
  go_enter Try.func5, Try.ntmps5
  go_wp2_with fail
  generalize (((w.alloc (.cells #[.int .i64 3, .int .i64 0, .string ⟨#[97]⟩, .string ⟨#[]⟩, .slice none 0 0, .slice none 0 0] 25)).alloc (.cells #[.int .i64 3, .int .i64 0, .string ⟨#[97]⟩, .string ⟨#[]⟩, .slice none 0 0, .slice none 0 0] 25)).alloc (.cells #[.int .i64 4, .int .i64 0, .string ⟨#[98]⟩, .string ⟨#[]⟩, .slice none 0 0, .slice (some ⟨w.heap.size + 1, 0, none⟩) 1 1] 25)) = w3 at *
  refine HCL.out.mono ?_
  rintro e J ⟨hbj, hcase⟩
  have HJ := Lib.hid hbj
  clear hbj HCL
  rcases hcase with ⟨rfl, h⟩ | ⟨rfl, h, _⟩ | ⟨f0, fs, zs, A, c, rfl, hrd, hfi, _, _, _, _, _, hz, hl, hnm, hfp, _, _, _⟩
  · exfalso
    rcases h with ⟨x, hx⟩ | hn
    · rw [x0_free] at hx; cases hx
    · rw [x0_nl] at hn; cases hn
  · exfalso
    rw [x0_cnt] at h
    omega
  · obtain ⟨f1, f2, rfl, hcaps⟩ := x0_caps hz hl hfp hnm
    have hn2 : f2.n = 1 := by have h := rd_len (hfi f2 (by simp)).caps; rw [hcaps] at h; exact h.symm
    have HRD := Lib.hid hrd
    have HF2 := Lib.hid (hfi f2 (by simp))
    obtain ⟨v0, v1, v2, v3, v4, v5⟩ := HV.out J HJ.out
    clear hz hl hfp hnm hrd hfi HV
    go_wp2_with fail
    refine (HCV.out _).mono ?_
    rintro e K ⟨hbk, hcase⟩
    have HK := Lib.hid (below_then HJ.out hbk)
    obtain ⟨fb, fo, hfA, _, hfc⟩ := (HRD.out.below hbk).base (by simp [Fu.cells])
    obtain ⟨cb, co, hcA, hcc⟩ := (HF2.out.caps.below hbk).str (k := 0) (by rw [hcaps]; decide)
    have hc0 : K.cell? ⟨cb, co, none⟩ = some (.string ⟨#[97]⟩) := by
      have h := hcc 0 (by rw [hcaps]; decide)
      simp only [hcaps] at h
      exact h
    have hf2 : K.cell? ⟨fb, fo + 20, none⟩ = some (.slice f2.A f2.n f2.c) := hfc 20 _ (by simp [Fu.cells])
    rw [hcA, hn2] at hf2
    subst hfA
    clear hbk hfc hcc HCV v0 v1 v2 v3 v4 v5 HRD
    rcases hcase with ⟨rfl, _⟩ | ⟨rfl, h, _⟩ | ⟨_, _, _, _, _, _, _, _, _, _, _, _, _, _, _, _, _, hnf, _, _⟩
    · go_wp2_with fail
      go_returns
      exact ⟨rfl, below_then HB3.out HK.out⟩
    · exfalso
      have h : 2000 < 1 + 0 := h
      omega
    · exfalso
      have h := hnf [97] (by simp [maxLen])
      rw [x2_free] at h
      simp at h
end Go.Proofs.Ytpnihimoekkepaa
