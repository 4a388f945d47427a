/-
  The law's example: what is free in it, how many functions it has.
-/
import Derived.Test.YtpnihimoekkepaaCoX
import Derived.Test.YtpnihimoekkepaaCodes
namespace Go.Proofs.Ytpnihimoekkepaa
open Go.ChangeShapes Go.WideShapes Go.ChangeAt Go.RowKit Go.Sort Go.Maps
set_option linter.unusedVariables false
set_option linter.unusedSimpArgs false

abbrev x2E : Ex := .mk ⟨3, 0, [97], [], none, 0, 0, [], none, 0, 0⟩ []
abbrev x1E (m : Nat) : Ex := .mk ⟨4, 0, [98], [], none, 0, 0, [], some ⟨m, 0, none⟩, 1, 1⟩ [x2E]
abbrev x0E (m k : Nat) : Ex := .mk ⟨4, 0, [97], [], none, 0, 0, [], some ⟨k, 0, none⟩, 1, 1⟩ [x1E m]
theorem x2_free (x : Str) : x2E.freeB x = decide (x = [97]) := by simp [Ex.freeB, freeLB]
theorem x1_free (m : Nat) (x : Str) : (x1E m).freeB x = decide (x = [97]) := by
  unfold x1E Ex.freeB freeLB freeLB
  rw [x2_free]
  by_cases h : x = [97]
  · subst h; rfl
  · simp [h]
theorem x0_free (m k : Nat) (x : Str) : (x0E m k).freeB x = false := by
  unfold x0E Ex.freeB freeLB freeLB
  rw [x1_free]
  by_cases h : x = [97]
  · subst h; rfl
  · simp [h]
theorem x0_nl (m k : Nat) : (x0E m k).nlB = false := by rfl
theorem x0_cnt (m k : Nat) : (x0E m k).cnt = 2 := by rfl
theorem x2_in (w : World) : x2E.In w := .mk _ _ (Rd.nil _ _ _) (Rd.nil _ _ _) ⟨⟨Nat.le_refl _, Nat.zero_le _, Nat.zero_le _⟩, ⟨Nat.le_refl _, Nat.zero_le _, Nat.zero_le _⟩, by decide, Nat.zero_le _, (fun s hs => by cases hs)⟩ (fun x hx => by cases hx)
theorem x1_in {w : World} {m : Nat} (h : Rd w 6 (some ⟨m, 0, none⟩) 1 x2E.cells) : (x1E m).In w := .mk _ _ (Rd.nil _ _ _) (by simpa using h) ⟨⟨Nat.le_refl _, Nat.zero_le _, Nat.zero_le _⟩, ⟨Nat.le_refl _, by simp [maxLen], (show (1 : Nat) ≤ 4000000 by decide)⟩, (show (1 : Nat) ≤ 4000000 by decide), Nat.zero_le _, (fun s hs => by cases hs)⟩ (fun x hx => by rw [List.mem_singleton] at hx; subst hx; exact x2_in w)
theorem x0_in {w : World} {m k : Nat} (h : Rd w 6 (some ⟨m, 0, none⟩) 1 x2E.cells) (h2 : Rd w 6 (some ⟨k, 0, none⟩) 1 (x1E m).cells) : (x0E m k).In w := .mk _ _ (Rd.nil _ _ _) (by simpa using h2) ⟨⟨Nat.le_refl _, Nat.zero_le _, Nat.zero_le _⟩, ⟨Nat.le_refl _, by simp [maxLen], (show (1 : Nat) ≤ 4000000 by decide)⟩, (show (1 : Nat) ≤ 4000000 by decide), Nat.zero_le _, (fun s hs => by cases hs)⟩ (fun x hx => by rw [List.mem_singleton] at hx; subst hx; exact x1_in h)
/-- The third function takes one name along. -/
theorem x0_caps {m k : Nat} {zs : List Ex} {fs : List Fu} (hz : exL zs (fnsE (x0E m k) 0)) (hl : zs.length = fs.length) (hp : ∀ (i : Nat) (z : Ex) (f : Fu), zs[i]? = some z → fs[i]? = some f → FunP z f) (hw : ∀ z ∈ zs, z.Nm) : ∃ f1 f2 : Fu, fs = [f1, f2] ∧ f2.caps = [[97]] := by
  have h1 := exL_len hz
  rw [fnsE_len, x0_cnt] at h1
  match zs, fs, hz, hl, hp, hw, h1 with
  | [z1, z2], [f1, f2], hz, hl, hp, hw, h1 =>
    refine ⟨f1, f2, rfl, ?_⟩
    have hf := hp 1 z2 f2 rfl rfl
    have he : z2.eqv (numE (x1E m) 1) := hz.2.1
    have hnm : (numE (x1E m) 1).Nm := .mk _ _ rfl (fun x hx => by have hx : x ∈ [x2E] := hx; rw [List.mem_singleton] at hx; subst hx; exact .mk _ _ rfl (fun x hx => by cases hx))
    have hfr : ∀ x, z2.freeB x = decide (x = [97]) := fun x => by
      rw [freeB_eqv (hw z2 (by simp)) hnm he]
      exact x1_free m x
    have hk : z2.d.kind = 4 := by
      obtain ⟨d2, l2⟩ := z2
      unfold numE Ex.eqv at he
      exact he.1
    have hc : ∀ x, capB z2 x = decide (x = [97]) := fun x => by unfold capB; rw [if_pos hk]; exact hfr x
    have hin : [97] ∈ f2.caps := hf.caps.h2 _ (by simp [maxLen]) (by rw [hc]; simp)
    have hall : ∀ x ∈ f2.caps, x = [97] := fun x hx => by
      have := (hf.caps.h1 x hx).1
      rw [hc] at this
      simpa using this
    have hnd := hf.caps.nd
    match h9 : f2.caps, hin, hall, hnd with
    | [a], _, hall, _ => rw [hall a (by simp)]
    | a :: b :: r, _, hall, hnd =>
      have e1 := hall a (by simp)
      have e2 := hall b (by simp)
      rw [e1, e2] at hnd
      simp at hnd
end Go.Proofs.Ytpnihimoekkepaa
