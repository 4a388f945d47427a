/-
  WordPacks holds: for every input the law returns true, and each argument reads afterwards as it read before. No condition.
-/
import Derived.Test.YtjhkblaplfhfcaaWordK
import Derived.Test.YtjhkblaplfhfcaaStr
import Derived.Test.YtjhkblaplfhfcaaShell
import Derived.Test.YtjhkblaplfhfcaaWordOpen
namespace Go.Proofs.Ytjhkblaplfhfcaa
open Go.ChangeShapes Go.WideShapes Go.ChangeAt Go.RowKit
set_option linter.unusedVariables false

theorem packs_big (A B : Option Addr) (b : List UInt8) (ws : List Wd) (n c m d : Nat) (hn : n = b.length) (hm : m = ws.length) (w : World) (hbig : 2000 < n ∨ 300 < m) (hn64 : n ≤ maxLen) (hm64 : m ≤ maxLen) :
    Calls Try.prog 4 #[.slice A n c, .slice B m d] w fun e w' => e = .returned (.bool true) ∧ Below w.heap.size w w' := by
  unfold maxLen at hn64 hm64
  rcases Nat.lt_or_ge 2000 n with h | h
  · clear hbig hn hm
    go_enter Try.func4, Try.ntmps4
    go_wp2_with fail
    refine (up_any _).mono ?_
    rintro e w1 ⟨rfl, hb1⟩
    go_wp2_with fail
    go_returns
    exact ⟨rfl, hb1⟩
  · have h2 : 300 < m := by omega
    clear hbig hn hm
    go_enter Try.func4, Try.ntmps4
    go_wp2_with fail
    refine (up_any _).mono ?_
    rintro e w1 ⟨rfl, hb1⟩
    go_wp2_with fail
    go_returns
    exact ⟨rfl, hb1⟩

theorem packs_small (A B : Option Addr) (b : List UInt8) (ws : List Wd) (n c m d : Nat) (hn : n = b.length) (hm : m = ws.length) (hnc : n ≤ c) (hmd : m ≤ d) (w : World) (hs : n ≤ 2000) (ht : m ≤ 300) (hw : wfWs ws)
    (hrb : Rd w 1 A n (u8s b)) (hrw : Rd w 2 B m (wcells ws)) :
    Calls Try.prog 4 #[.slice A n c, .slice B m d] w fun e w' => e = .returned (.bool true) ∧ Below w.heap.size w w' := by
  have HN := Lib.hid hn
  have HM := Lib.hid hm
  have hbl : b.length ≤ 2000 := by omega
  have hwl : ws.length ≤ 300 := by omega
  clear hn hm
  go_enter Try.func4, Try.ntmps4
  go_wp2_with fail
  refine (up_any _).mono ?_
  rintro e w1 ⟨rfl, hb1⟩
  go_wp2_with fail
  cases hp : arePackedB ws with
  | false =>
    have HR : Hid (refOkB ws = false) := (ref_iff ws hw).trans hp
    refine (unpack_no B ws m d HM.out _ (hrw.below hb1) (by omega) hp).mono ?_
    rintro e w2 ⟨rfl, hb2⟩
    clear hp
    go_wp2_with fail
    refine (all_any B ws m d HM.out _ ((hrw.below hb1).below hb2) (by omega)).mono ?_
    rintro e w3 ⟨v3, rfl, hown3, hb3⟩
    obtain ⟨B3, c3, rfl, hle3, _, _⟩ := own_cap hown3
    have hrd3 := Rd.of_own hown3
    clear hown3
    go_wp2_with fail
    refine (refUnpack_any B3 ws _ c3 rfl hle3 _ hrd3 (by omega)).mono ?_
    rintro e w4 ⟨B4, m4, d4, rfl, _, _, hb4⟩
    rw [HR.out]
    go_wp2_with fail
    refine (pack_any A b n c HN.out hnc _ ((((hrb.below hb1).below hb2).below hb3).below hb4) (by omega)).mono ?_
    rintro e w5 ⟨v5, rfl, hown5, hb5⟩
    obtain ⟨B5, c5, rfl, hle5, _, _⟩ := own_cap hown5
    have hrd5 := Rd.of_own hown5
    go_wp2_with fail
    refine (all_any B5 (pw b) _ c5 (by rw [pw_length]; rfl) _ hrd5 (by rw [pw_length]; unfold packN; omega)).mono ?_
    rintro e w6 ⟨v6, rfl, hown6, hb6⟩
    obtain ⟨B6, c6, rfl, hle6, _, _⟩ := own_cap hown6
    have hrd6 := Rd.of_own hown6
    clear hown6 hown5
    go_wp2_with fail
    refine (refPack_any A b n c HN.out hnc _ (((((((hrb.below hb1).below hb2).below hb3).below hb4).below hb5).below hb6)) (by omega)).mono ?_
    rintro e w7 ⟨v7, rfl, hown7, hb7⟩
    obtain ⟨B7, c7, rfl, hle7, _, _⟩ := own_cap hown7
    have hrd7 := Rd.of_own hown7
    go_wp2_with fail
    refine (same_any B6 B7 (pw b) (pw b) _ _ _ _ rfl (by rw [pw_length]; rfl) _ (hrd6.below hb7) hrd7 (by rw [pw_length]; unfold packN; omega)).mono ?_
    rintro e w8 ⟨rfl, hb8⟩
    have hself : decide (pw b = pw b) = true := by simp
    rw [hself]
    go_wp2_with fail
    go_returns
    exact ⟨rfl, below_then hb1 (below_then hb2 (below_then hb3 (below_then hb4 (below_then hb5 (below_then hb6 (below_then hb7 hb8))))))⟩
  | true =>
    have HR : Hid (refOkB ws = true) := (ref_iff ws hw).trans hp
    have kc := fun (W : World) (A : Option Addr) (n c : Nat) (l : List UInt8) (h : Rd W 1 A n (u8s l)) => run_bytes_string (P := Try.prog) Try.underlying42 Try.underlying5 Try.underlying9 h c
    have KC := Lib.hid kc
    clear kc
    refine (unpack_yes B ws m d HM.out _ (hrw.below hb1) (by omega) hp).mono ?_
    rintro e w2 ⟨v2, rfl, hown2, hb2⟩
    obtain ⟨B2, c2, rfl, hle2, _, _⟩ := own_cap hown2
    have hrd2 := Rd.of_own hown2
    clear hp hown2
    go_wp2_with fail
    refine (all_any B ws m d HM.out _ ((hrw.below hb1).below hb2) (by omega)).mono ?_
    rintro e w3 ⟨v3, rfl, hown3, hb3⟩
    obtain ⟨B3, c3, rfl, hle3, _, _⟩ := own_cap hown3
    have hrd3 := Rd.of_own hown3
    clear hown3
    go_wp2_with fail
    refine (refUnpack_any B3 ws _ c3 rfl hle3 _ hrd3 (by omega)).mono ?_
    rintro e w4 ⟨B4, m4, d4, rfl, _, h4, hb4⟩
    obtain ⟨rfl, hrd4⟩ := h4 HR.out
    rw [HR.out]
    have hs1 := KC.out w4 B2 _ c2 _ ((hrd2.below hb3).below hb4)
    have hs2 := KC.out w4 B4 _ d4 _ hrd4
    clear h4
    go_wp2_with fail
    refine (pack_any A b n c HN.out hnc _ ((((hrb.below hb1).below hb2).below hb3).below hb4) (by omega)).mono ?_
    rintro e w5 ⟨v5, rfl, hown5, hb5⟩
    obtain ⟨B5, c5, rfl, hle5, _, _⟩ := own_cap hown5
    have hrd5 := Rd.of_own hown5
    go_wp2_with fail
    refine (all_any B5 (pw b) _ c5 (by rw [pw_length]; rfl) _ hrd5 (by rw [pw_length]; unfold packN; omega)).mono ?_
    rintro e w6 ⟨v6, rfl, hown6, hb6⟩
    obtain ⟨B6, c6, rfl, hle6, _, _⟩ := own_cap hown6
    have hrd6 := Rd.of_own hown6
    clear hown6 hown5
    go_wp2_with fail
    refine (refPack_any A b n c HN.out hnc _ (((((((hrb.below hb1).below hb2).below hb3).below hb4).below hb5).below hb6)) (by omega)).mono ?_
    rintro e w7 ⟨v7, rfl, hown7, hb7⟩
    obtain ⟨B7, c7, rfl, hle7, _, _⟩ := own_cap hown7
    have hrd7 := Rd.of_own hown7
    go_wp2_with fail
    refine (same_any B6 B7 (pw b) (pw b) _ _ _ _ rfl (by rw [pw_length]; rfl) _ (hrd6.below hb7) hrd7 (by rw [pw_length]; unfold packN; omega)).mono ?_
    rintro e w8 ⟨rfl, hb8⟩
    have hself : decide (pw b = pw b) = true := by simp
    rw [hself]
    go_wp2_with fail
    go_returns
    exact ⟨rfl, below_then hb1 (below_then hb2 (below_then hb3 (below_then hb4 (below_then hb5 (below_then hb6 (below_then hb7 hb8))))))⟩

theorem wordPacks_walk : LawWalk 4 [42, 43] := by
  intro H enc W base args ds p hval hA hlt
  obtain ⟨v0, vs0, d0, ds0, p0, q0, hargs, rfl, rfl, h0, r0⟩ := trodAll_cons hA
  obtain ⟨v1, vs1, d1, ds1, p1, q1, rfl, rfl, rfl, h1, r1⟩ := trodAll_cons r0
  obtain ⟨rfl, rfl, rfl⟩ := trodAll_nil r1
  obtain rfl : args = #[v0, v1] := by cases args; simp_all
  obtain ⟨A, n, c, b, rfl, hnc, hc, hn, hrb⟩ := open_u8s (hval 0 _ v0 rfl rfl) h0
  obtain ⟨B, m, e, ws, rfl, hme, he, hm, hrw, hw⟩ := open_words (hval 1 _ v1 rfl rfl) h1
  by_cases hbig : 2000 < n ∨ 300 < m
  · exact packs_big A B b ws n c m e hn hm W hbig (by omega) (by omega)
  · exact packs_small A B b ws n c m e hn hm hnc hme W (by omega) (by omega) hw hrb hrw

theorem wordPacks_holds : Rows.WordPacksSaid :=
  OpenClaim.holds_of_wide 4 Try.f4 rfl rfl rfl rfl rfl rfl rfl ⟨rfl, rfl, rfl, rfl, rfl⟩ rfl rfl rfl rfl rfl (by kernel_rfl) Try.func4 (by kernel_rfl)
    (of_decide_eq_true (by kernel_rfl)) (by unfold Func.isWrapper; first | (rw [if_pos (by decide +kernel)]; kernel_rfl) | (rw [if_neg (by decide +kernel)]; exact ⟨rfl, rfl⟩))
    (fun os started H enc _ => law_lifted (f := Try.f4) (s := Rows.wordPacksSpec) started Try.func4 (by kernel_rfl) (by rw [Try.params4]) rfl rfl
      (fun H ds h => by match ds, h with | [_, _], _ => rfl) (by kernel_rfl)
      (ChangeSpec.witness6 (enc := enc) (C := Try.checked) false ⟨#[], #[.slice none 0 0, .slice none 0 0], []⟩ 8 (by kernel_rfl) (by kernel_rfl) (by kernel_rfl) (by kernel_rfl)) wordPacks_walk)
#print axioms wordPacks_holds
end Go.Proofs.Ytjhkblaplfhfcaa
