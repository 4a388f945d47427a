/-
  The term that an evidence is, by the code: where a row tells, and a number comes to it.
-/
import Derived.Test.YtlgmddnpmmggdaaDoorTmB
namespace Go.Proofs.YtlgmddnpmmggdaaDoor
open Go.ChangeShapes Go.WideShapes Go.ChangeAt Go.RowKit Go.Sort
set_option linter.unusedVariables false
set_option linter.unusedSimpArgs false

/-- Two cores as cells. -/
def two12 (n : Int) (s : Str) : List Value := core3 s ++ core1 n
theorem build_two (n : Int) (s : Str) (w : World) : (Instr.buildSlice 44 2 #[(0, .agg #[.int .i64 3, .int .i64 0, .string (bstr s), .string ⟨#[]⟩, .slice none 0 0, .slice none 0 0]), (1, .agg #[.int .i64 1, .int .i64 n, .string ⟨#[]⟩, .string ⟨#[]⟩, .slice none 0 0, .slice none 0 0])]).run Tryd.prog w
    = .ok (.slice (some ⟨w.heap.size, 0, none⟩) 2 2) (w.alloc (.cells (two12 n s).toArray 46)) := by kernel_rfl
theorem rd_set {w : World} {size n B G i : Nat} {cs : List Value} {v : Value} (h : Rd w size (some ⟨G, 0, none⟩) n cs) (hne : B ≠ G) : Rd (w.setCell ⟨B, i, none⟩ v) size (some ⟨G, 0, none⟩) n cs := by
  refine ⟨h.1, fun hn => ?_⟩
  obtain ⟨a, ha, hh⟩ := h.2 hn
  cases ha
  refine ⟨_, rfl, fun j u hu => ?_⟩
  rw [World.cell?_setCell_other _ _ _ _ (fun e => hne (by have := congrArg Addr.block e; rw [add_block] at this; exact this))]
  exact hh j u hu
/-- A slice of two parts, made in a walk: the world that follows under a name of one's own. -/
theorem wpList_buildTwo {P : Program} {w : World} {ops : Array Oper} {rest : List Oper} {o : Oper} {a : Act} {Q : Exit → Act → World → Prop} (hg : o.guard = none) (t : TypeId) (n i0 i1 : Nat) {x0 x1 : Operand} (hop : o.op = Op.buildSlice t n #[(i0, x0), (i1, x1)])
    (v0 v1 v : Value) (h0 : a.eval x0 = v0) (h1 : a.eval x1 = v1) (w' : World) (hrun : (Instr.buildSlice t n #[(i0, v0), (i1, v1)]).run P w = .ok v w') (hK : wpList P ops Q rest (a.put o.dst v) w') : wpList P ops Q (o :: rest) a w := by
  refine wpList_plain hg fun K' hK' => ?_
  unfold Oper.wp
  simp [execOp, hop, h0, h1, hrun, Result.andThen]
  exact hK' _ _ hK

set_option maxRecDepth 100000 in
set_option maxHeartbeats 1000000 in
theorem term_two (n row : Int) (s : Str) (w : World) (hn : ¬ n = 0) (hr : ¬ row < 0) (hr2 : row ≤ 9223372036854775807) (hs : s.length ≤ 1000000) (hL : Lay w) :
    Calls Tryd.prog 12 #[.agg #[.int .i64 n, .int .i64 row, .string (bstr s)]] w fun e w' => ∃ p, e = .returned (.agg #[.int .i64 16, .int .i64 0, .string ⟨#[43]⟩, .string ⟨#[]⟩, .slice none 0 0, .slice (some ⟨p, 0, none⟩) 2 2]) ∧ Rd w' 6 (some ⟨p, 0, none⟩) 2 (two12 n (nameT row s)) ∧ w.heap.size ≤ p ∧ Below w.heap.size w w' := by
  have q : decide (row < 0) = false := decide_eq_false hr
  have q2 : (n == 0) = false := by simpa using hn
  have HS := Lib.hid (term_start n row (bstr s) w)
  have hN := fun W (hb : Below w.heap.size w W) => name_any row s W (by omega) hs (hL.below hb)
  obtain ⟨nm, hnm⟩ : ∃ nm, nameT row s = nm := ⟨_, rfl⟩
  rw [hnm] at hN
  rw [hnm]
  have HN := Lib.hid hN
  clear hL hs hN hnm hr hn
  go_enter Tryd.func12, Tryd.ntmps12
  go_wp2_with fail
  obtain ⟨hb, k0, k1, k2, s1, s2⟩ := HS.out
  generalize ((w.alloc (.cells #[.int .i64 n, .int .i64 row, .string (bstr s)] 27)).alloc (.cells #[.int .i64 0, .int .i64 0, .string ⟨#[]⟩, .string ⟨#[]⟩, .slice none 0 0, .slice none 0 0] 46)).alloc (.cells #[.int .i64 1, .int .i64 n, .string ⟨#[]⟩, .string ⟨#[]⟩, .slice none 0 0, .slice none 0 0] 46) = w1 at *
  refine (HN.out w1 hb).mono ?_
  rintro e w2 ⟨rfl, hb2⟩
  have H2 := Lib.hid (below_then hb hb2)
  have k0' := cell_below hb2 k0
  obtain ⟨B, hB⟩ : ∃ B, w.heap.size + 1 = B := ⟨_, rfl⟩
  obtain ⟨C, hC⟩ : ∃ C, w.heap.size + 1 + 1 = C := ⟨_, rfl⟩
  rw [hC] at s2 ⊢
  rw [hB] at s1 ⊢
  have HB := Lib.hid (And.intro hB hC)
  have s3 := s1.below hb2
  have HS3 := Lib.hid s3
  have HS4 := Lib.hid (s2.below hb2)
  have hlw : w.heap.size < w2.heap.size := World.block_lt_of_cell? w2 _ k0'
  clear HS hb k0 k1 k2 s1 s2 hb2 hB hC s3
  go_upto_if 21 with fail
  have hb5 : Below w2.heap.size w2 (w2.alloc (.cells #[.int .i64 3, .int .i64 0, .string (bstr nm), .string ⟨#[]⟩, .slice none 0 0, .slice none 0 0] 46)) := (Below.refl _ _).alloc (Nat.le_refl _) _
  have hn5 := Six.of (heap_alloc_new w2 (.cells #[.int .i64 3, .int .i64 0, .string (bstr nm), .string ⟨#[]⟩, .slice none 0 0, .slice none 0 0] 46))
  have hB5 := HS3.out.below hb5
  have hC5 := HS4.out.below hb5
  have H5 := Lib.hid (below_then H2.out hb5)
  clear hb5 HS3 HS4 H2 HN hlw
  generalize w2.alloc (.cells #[.int .i64 3, .int .i64 0, .string (bstr nm), .string ⟨#[]⟩, .slice none 0 0, .slice none 0 0] 46) = w5 at *
  generalize w2.heap.size = g at *
  obtain ⟨n0, n1, n2, n3, n4, n5, _⟩ := hn5
  obtain ⟨m0, m1, m2, m3, m4, m5, _⟩ := hC5
  have hb6 : Below w5.heap.size w5 (w5.alloc (.cells (two12 n nm).toArray 46)) := (Below.refl _ _).alloc (Nat.le_refl _) _
  have hB6 := hB5.below hb6
  have H6 := Lib.hid (below_then H5.out hb6)
  have HZ := Lib.hid (show w.heap.size ≤ w5.heap.size from H5.out.size)
  have HRD := Lib.hid (Rd.lit (size := 6) (n := 2) w5 (two12 n nm).toArray 46 rfl (fr := (0, 0)))
  have hbt := build_two n nm w5
  generalize w5.alloc (.cells (two12 n nm).toArray 46) = w6 at *
  have HBG := Lib.hid (show B ≠ w5.heap.size from Nat.ne_of_lt hB5.lt)
  generalize hG : w5.heap.size = G at *
  obtain ⟨r0, r1, r2, r3, r4, r5, fr⟩ := hB6
  have f0 := fr 0
  have f1 := fr 1
  have f2 := fr 2
  have f3 := fr 3
  have f4 := fr 4
  have f5 := fr 5
  have HQ := Lib.hid (set6 (.int .i64 16) (.int .i64 0) (.string ⟨#[43]⟩) (.string ⟨#[]⟩) (.slice none 0 0) (.slice (some ⟨G, 0, none⟩) 2 2) r0 r1 r2 r3 r4 r5 rfl)
  clear fr k0' hB5 hb6
  have HT := Lib.hid hbt
  clear hbt
  go_wp2_with ((with_reducible refine wpList_buildTwo (x0 := .tmp 23) (x1 := .tmp 24) ?g _ _ _ _ ?h _ _ _ ?e0 ?e1 w6 HT.out ?_); (case g => rfl); (case h => rfl); (case e0 => rfl); (case e1 => rfl))
  obtain ⟨q0, q1, q2, q3, q4, q5⟩ := HQ.out
  refine bodyPost_ret (v := .agg #[.int .i64 16, .int .i64 0, .string ⟨#[43]⟩, .string ⟨#[]⟩, .slice none 0 0, .slice (some ⟨G, 0, none⟩) 2 2]) (by simp [results, Tryd.results12, go_sem, q0, q1, q2, q3, q4, q5]) rfl ?_
  have hle : w.heap.size ≤ B := by have := HB.out.1; omega
  exact ⟨G, rfl, rd_set (rd_set (rd_set (rd_set (rd_set (rd_set HRD.out HBG.out) HBG.out) HBG.out) HBG.out) HBG.out) HBG.out, HZ.out, (((((H6.out.setCell hle _).setCell hle _).setCell hle _).setCell hle _).setCell hle _).setCell hle _⟩
end Go.Proofs.YtlgmddnpmmggdaaDoor
