/-
  The term that an evidence is, by the code: where a row tells.
-/
import Derived.Test.YtlgmddnpmmggdaaDoorTmA
import Derived.Deep.CutRange
namespace Go.Proofs.YtlgmddnpmmggdaaDoor
open Go.ChangeShapes Go.WideShapes Go.ChangeAt Go.RowKit Go.Sort
set_option linter.unusedVariables false
set_option linter.unusedSimpArgs false

set_option maxRecDepth 100000 in
set_option maxHeartbeats 1000000 in
theorem term_zero (row : Int) (s : Str) (w : World) (hr : ¬ row < 0) (hr2 : row ≤ 9223372036854775807) (hs : s.length ≤ 1000000) (hL : Lay w) :
    Calls Tryd.prog 12 #[.agg #[.int .i64 0, .int .i64 row, .string (bstr s)]] w fun e w' => e = .returned (.agg (core3 (nameT row s)).toArray) ∧ Below w.heap.size w w' := by
  have q : decide (row < 0) = false := decide_eq_false hr
  have HS := Lib.hid (term_start 0 row (bstr s) w)
  have hN := fun W (hb : Below w.heap.size w W) => name_any row s W (by omega) hs (hL.below hb)
  obtain ⟨nm, hnm⟩ : ∃ nm, nameT row s = nm := ⟨_, rfl⟩
  rw [hnm] at hN
  rw [hnm]
  have HN := Lib.hid hN
  unfold core3
  clear hL hs hN hnm hr
  go_enter Tryd.func12, Tryd.ntmps12
  go_wp2_with fail
  obtain ⟨hb, k0, k1, k2, s1, s2⟩ := HS.out
  generalize ((w.alloc (.cells #[.int .i64 0, .int .i64 row, .string (bstr s)] 27)).alloc (.cells #[.int .i64 0, .int .i64 0, .string ⟨#[]⟩, .string ⟨#[]⟩, .slice none 0 0, .slice none 0 0] 46)).alloc (.cells #[.int .i64 1, .int .i64 0, .string ⟨#[]⟩, .string ⟨#[]⟩, .slice none 0 0, .slice none 0 0] 46) = w1 at *
  refine (HN.out w1 hb).mono ?_
  rintro e w2 ⟨rfl, hb2⟩
  have H2 := Lib.hid (below_then hb hb2)
  have k0' := cell_below hb2 k0
  obtain ⟨B, hB⟩ : ∃ B, w.heap.size + 1 = B := ⟨_, rfl⟩
  rw [hB] at s1 ⊢
  have HB := Lib.hid hB
  have s3 := s1.below hb2
  have HS3 := Lib.hid s3
  have hlw : w.heap.size < w2.heap.size := World.block_lt_of_cell? w2 _ k0'
  clear HS hb k0 k1 k2 s1 s2 hb2 hB s3
  go_upto_if 21 with fail
  have hb5 : Below w2.heap.size w2 (w2.alloc (.cells #[.int .i64 3, .int .i64 0, .string (bstr nm), .string ⟨#[]⟩, .slice none 0 0, .slice none 0 0] 46)) := (Below.refl _ _).alloc (Nat.le_refl _) _
  have hn5 := Six.of (heap_alloc_new w2 (.cells #[.int .i64 3, .int .i64 0, .string (bstr nm), .string ⟨#[]⟩, .slice none 0 0, .slice none 0 0] 46))
  have hB5 := HS3.out.below hb5
  have H5 := Lib.hid (below_then H2.out hb5)
  clear hb5 HS3 H2 HN hlw
  generalize w2.alloc (.cells #[.int .i64 3, .int .i64 0, .string (bstr nm), .string ⟨#[]⟩, .slice none 0 0, .slice none 0 0] 46) = w5 at *
  generalize w2.heap.size = g at *
  obtain ⟨n0, n1, n2, n3, n4, n5, _⟩ := hn5
  obtain ⟨r0, r1, r2, r3, r4, r5, fr⟩ := hB5
  have f0 := fr 0
  have f1 := fr 1
  have f2 := fr 2
  have f3 := fr 3
  have f4 := fr 4
  have f5 := fr 5
  have HQ := Lib.hid (set6 (.int .i64 3) (.int .i64 0) (.string (bstr nm)) (.string ⟨#[]⟩) (.slice none 0 0) (.slice none 0 0) r0 r1 r2 r3 r4 r5 rfl)
  clear fr k0'
  go_wp2_with fail
  obtain ⟨q0, q1, q2, q3, q4, q5⟩ := HQ.out
  refine bodyPost_ret (v := .agg #[.int .i64 3, .int .i64 0, .string (bstr nm), .string ⟨#[]⟩, .slice none 0 0, .slice none 0 0]) (by simp [results, Tryd.results12, go_sem, q0, q1, q2, q3, q4, q5]) rfl ?_
  have hle : w.heap.size ≤ B := by have := HB.out; omega
  exact ⟨rfl, (((((H5.out.setCell hle _).setCell hle _).setCell hle _).setCell hle _).setCell hle _).setCell hle _⟩
end Go.Proofs.YtlgmddnpmmggdaaDoor
