/-
  The document's functions of an expression: what a function takes along.
-/
import Derived.Test.YtpnihimoekkepaaCoBJ
import Derived.Test.YtpnihimoekkepaaQuiet
import Derived.Deep.RegionLaw
namespace Go.Proofs.Ytpnihimoekkepaa
open Go.ChangeShapes Go.WideShapes Go.ChangeAt Go.RowKit Go.Sort Go.Maps
set_option linter.unusedVariables false
set_option linter.unusedSimpArgs false
attribute [local irreducible] Go.wpQuiet

/-- What stands as the names are gathered. -/
structure CpS (W : World) (g : Nat) (d e : ExD) (s1 t1 : Str) (FA : Option Addr) (ss : List Str) (cv : Value) (cl : List Str) (wr : World) : Prop where
  b : Below W.heap.size W wr
  hd : wr.heap[g]? = some (.cells #[.int .i64 e.kind, .int .i64 e.n, .string (bstr e.s), .string (bstr e.t), .slice e.nA e.nn e.nc, .slice none 0 0] 25)
  rs : wr.heap[W.heap.size + 1]? = some (.cells #[.int .i64 0, .int .i64 0, .string ⟨#[]⟩, .string ⟨#[]⟩, .slice none 0 0, .slice none 0 0] 25)
  bx : wr.heap[W.heap.size]? = some (.cells #[.int .i64 d.kind, .int .i64 d.n, .string (bstr d.s), .string (bstr d.t), .slice d.nA d.nn d.nc, .slice d.pA d.pn d.pc] 25)
  fb : wr.heap[g + 1]? = some (.cells #[.string (bstr s1), .string (bstr t1), cv, .int .i64 0, .int .i64 0, .string ⟨#[]⟩, .string ⟨#[]⟩, .slice none 0 0, .slice none 0 0] 37)
  own : wr.ownsRow (g + 2) 9 1 cv cl.length (strs cl)
  o : OtL wr cv FA ss
  ne : 0 < ss.length → ∀ a, FA = some a → a.block ≠ g + 1
  hg : g = W.heap.size + 2
section
variable {W : World} {g : Nat} {d e : ExD} {s1 t1 : Str} {FA : Option Addr} {ss : List Str} {cv : Value} {cl : List Str} {wr wy w4 : World} {v4 : Value} {x : Str}
theorem CpS.below (h : CpS W g d e s1 t1 FA ss cv cl wr) (hb : Below wr.heap.size wr wy) : CpS W g d e s1 t1 FA ss cv cl wy :=
  ⟨below_then h.b hb, (hb.block _ (lt_of_heap h.hd)).trans h.hd, (hb.block _ (lt_of_heap h.rs)).trans h.rs, (hb.block _ (lt_of_heap h.bx)).trans h.bx, (hb.block _ (lt_of_heap h.fb)).trans h.fb, own_below h.own hb, h.o.below hb, h.ne, h.hg⟩
theorem CpS.put (h0 : CpS W g d e s1 t1 FA ss cv cl wr) (hy : Below wr.heap.size wr wy) (hown : w4.ownsRow (g + 2) 9 1 v4 (cl.length + 1) (strs cl ++ strs [x])) (hg4 : wy.grownBy w4 cv.ownBlock) (ho : v4.ownBlock = cv.ownBlock ∨ v4.ownBlock = some wy.heap.size) :
    CpS W g d e s1 t1 FA ss v4 (cl ++ [x]) (w4.setCell ⟨g + 1, 2, none⟩ v4) := by
  have h := h0.below hy
  have hg := h.hg
  have hbl : ∀ b, b < g + 2 → b < wy.heap.size → w4.heap[b]? = wy.heap[b]? := fun b h1 h2 => hg4.block b h2 (fun e => by have := (h.own.lt b e.symm).1; omega)
  have hgl := lt_of_heap h.fb
  have hset : ∀ b, b ≠ g + 1 → (w4.setCell ⟨g + 1, 2, none⟩ v4).heap[b]? = w4.heap[b]? := fun b hb => Below.heap_setCell w4 ⟨g + 1, 2, none⟩ v4 b hb
  have hk : ∀ b, b < g + 1 → (w4.setCell ⟨g + 1, 2, none⟩ v4).heap[b]? = wy.heap[b]? := fun b hb => (hset b (by omega)).trans (hbl b (by omega) (by omega))
  have hW : W.heap.size ≤ wy.heap.size := h.b.size
  have hown' : w4.ownsRow (g + 2) 9 1 v4 (cl ++ [x]).length (strs (cl ++ [x])) := by
    rw [List.length_append, strs_append]
    exact hown
  refine ⟨⟨hg4.os.trans h.b.os, hg4.tape.trans h.b.tape, hg4.output.trans h.b.output, by rw [World.size_setCell]; exact Nat.le_trans hW hg4.size, fun b hb => (hk b (by omega)).trans (h.b.block b hb)⟩, (hk g (by omega)).trans h.hd, (hk _ (by omega)).trans h.rs, (hk _ (by omega)).trans h.bx, ?_, ownsRow_setCell_below hown' (by show g + 1 < g + 2; omega) v4, ?_, h.ne, hg⟩
  · have hh := (hbl (g + 1) (by omega) hgl).trans h.fb
    simp [World.setCell, Array.getElem?_modify, hh]
  · have ho' := h.o.app hg4 ho
    exact ⟨rd_keepP (P := fun b => b ≠ g + 1) ho'.rd (fun hn a ha => h.ne hn a ha) (fun b hb _ => hset b hb), ho'.sep⟩
end

set_option maxRecDepth 100000 in
set_option maxHeartbeats 4000000 in
theorem walk_caps {u2 u10 u11 u12 u13 u14 u15 u16 u17 u18 u19 u20 u21 u22 u23 u24 u25 u26 u27 u28 u29 u30 u31 u32 u33 u34 u35 u36 u37 u38 u39 u40 u41 u42 u43 u44 u45 u46 u47 u48 u49 u50 u51 u52 u53 u54 u55 u56 u57 u58 u59 u60 u61 u62 u63 u64 u65 u66 u67 u68 u69 u70 u71 u72 u73 u74 u75 u76 u77 u78 u79 u80 u81 u82 u83 u84 u85 u86 u87 u88 u89 u90 u91 u92 u93 u94 u95 u96 u97 u98 u99 u100 u101 u102 u103 u104 u105 u106 u107 u108 u109 u110 u111 u112 u113 u114 u115 u116 u117 u118 u119 u120 u121 u122 u123 u124 u125 u126 u127 u128 u129 u130 u131 u132 u133 u134 u135 u136 : Value} (W w5 : World) (p g n0 : Nat) (d e : ExD) (s1 t1 : Str) (FA : Option Addr) (fc : Nat) (ss : List Str) (hss : ss.length ≤ 4000000)
    (hs : CpS W g d e s1 t1 FA ss (.slice none 0 0) [] w5)
    {K K9 : Act → World → Prop} {R : Ending → World → Prop} (hK : ∀ a w, Code.wp Try.prog (tlA 7) (Exit.then K9 (bodyPost Try.prog Try.f22 R)) a w → K a w)
    (hend : ∀ (u2 u10 u11 u12 u13 u14 u15 u16 u17 u18 u19 u20 u21 u22 u23 u24 u25 u26 u27 u28 u29 u30 u31 u32 u33 u34 u35 u36 u37 u38 u39 u40 u41 u42 u43 u44 u45 u46 u47 u48 u49 u50 u51 u52 u53 u54 u55 u56 u57 u58 u59 u60 u61 u62 u63 u64 u65 u66 u67 u68 u69 u70 u71 u72 u73 u74 u75 u76 u77 u78 u79 u80 u81 u82 u83 u84 u85 u86 u87 u88 u89 u90 u91 u92 u93 u94 u95 u96 u97 u98 u99 u100 u101 u102 u103 u104 u105 u106 u107 u108 u109 u110 u111 u112 u113 u114 u115 u116 u117 u118 u119 u120 u121 u122 u123 u124 u125 u126 u127 u128 u129 u130 u131 u132 u133 u134 u135 u136 : Value) (CA : Option Addr) (cc : Nat) (wr : World), CpS W g d e s1 t1 FA ss (.slice CA (capsF d ss).length cc) (capsF d ss) wr → Code.wp Try.prog (tlA 7) (Exit.then K9 (bodyPost Try.prog Try.f22 R)) ⟨#[.pointer (some ⟨p, 0, none⟩), .agg #[.int .i64 d.kind, .int .i64 d.n, .string (bstr d.s), .string (bstr d.t), .slice d.nA d.nn d.nc, .slice d.pA d.pn d.pc], u2, .pointer (some ⟨W.heap.size, 0, none⟩), .pointer (some ⟨W.heap.size + 1, 0, none⟩), .pointer (some ⟨g, 0, none⟩), .int .i64 (n0 : Int), .pointer (some ⟨g + 1, 0, none⟩), .pointer (some ⟨g + 2, 0, none⟩), .slice FA ss.length fc, u10, u11, u12, u13, u14, u15, u16, u17, u18, u19, u20, u21, u22, u23, u24, u25, u26, u27, u28, u29, u30, u31, u32, u33, u34, u35, u36, u37, u38, u39, u40, u41, u42, u43, u44, u45, u46, u47, u48, u49, u50, u51, u52, u53, u54, u55, u56, u57, u58, u59, u60, u61, u62, u63, u64, u65, u66, u67, u68, u69, u70, u71, u72, u73, u74, u75, u76, u77, u78, u79, u80, u81, u82, u83, u84, u85, u86, u87, u88, u89, u90, u91, u92, u93, u94, u95, u96, u97, u98, u99, u100, u101, u102, u103, u104, u105, u106, u107, u108, u109, u110, u111, u112, u113, u114, u115, u116, u117, u118, u119, u120, u121, u122, u123, u124, u125, u126, u127, u128, u129, u130, u131, u132, u133, u134, u135, u136], []⟩ wr) :
    Code.wp Try.prog (hdA 6) (Exit.then K (Exit.then K9 (bodyPost Try.prog Try.f22 R))) ⟨#[.pointer (some ⟨p, 0, none⟩), .agg #[.int .i64 d.kind, .int .i64 d.n, .string (bstr d.s), .string (bstr d.t), .slice d.nA d.nn d.nc, .slice d.pA d.pn d.pc], u2, .pointer (some ⟨W.heap.size, 0, none⟩), .pointer (some ⟨W.heap.size + 1, 0, none⟩), .pointer (some ⟨g, 0, none⟩), .int .i64 (n0 : Int), .pointer (some ⟨g + 1, 0, none⟩), .pointer (some ⟨g + 2, 0, none⟩), .slice FA ss.length fc, u10, u11, u12, u13, u14, u15, u16, u17, u18, u19, u20, u21, u22, u23, u24, u25, u26, u27, u28, u29, u30, u31, u32, u33, u34, u35, u36, u37, u38, u39, u40, u41, u42, u43, u44, u45, u46, u47, u48, u49, u50, u51, u52, u53, u54, u55, u56, u57, u58, u59, u60, u61, u62, u63, u64, u65, u66, u67, u68, u69, u70, u71, u72, u73, u74, u75, u76, u77, u78, u79, u80, u81, u82, u83, u84, u85, u86, u87, u88, u89, u90, u91, u92, u93, u94, u95, u96, u97, u98, u99, u100, u101, u102, u103, u104, u105, u106, u107, u108, u109, u110, u111, u112, u113, u114, u115, u116, u117, u118, u119, u120, u121, u122, u123, u124, u125, u126, u127, u128, u129, u130, u131, u132, u133, u134, u135, u136], []⟩ w5 := by
  have HS0 := Lib.hid hs
  have HK := Lib.hid hK
  have HEND := Lib.hid hend
  have HSS := Lib.hid hss
  clear hs hK hend hss
  conv => arg 2; whnf
  go_wp2_with fail
  go_loopw [10] (fun i wr => ∃ (j : Nat) (CA : Option Addr) (cc : Nat), i = .int .i64 j ∧ j ≤ ss.length ∧ CpS W g d e s1 t1 FA ss (.slice CA (capsF d (ss.take j)).length cc) (capsF d (ss.take j)) wr) (fun i _ => ss.length - (intOf i).toNat)
  case atStart => exact ⟨0, none, 0, rfl, Nat.zero_le _, HS0.out⟩
  case round =>
    obtain ⟨j, CA, cc, rfl, hj, hS⟩ := hrel
    have HS := Lib.hid hS
    by_cases hjl : j < ss.length
    · have HJL := Lib.hid hjl
      obtain ⟨sb, so, hFA, hsc⟩ := hS.o.rd.str hjl
      have HTJ := Lib.hid (show ss.take (j + 1) = ss.take j ++ [ss[j]] from List.take_succ_eq_append_getElem hjl)
      obtain ⟨x, hx⟩ : ∃ x, ss[j] = x := ⟨_, rfl⟩
      have h1 : wr.cell? ⟨sb, so + j, none⟩ = some (.string (bstr x)) := by rw [← hx]; exact hsc j hjl
      rw [hx] at HTJ
      have H1 := Lib.hid h1
      have hji : (j : Int) < (ss.length : Int) := by omega
      have hj0 : (0 : Int) ≤ (j : Int) := by omega
      have hj4 : (j : Int) ≤ 4000000 := by have := HSS.out; omega
      obtain ⟨q0, q1, q2, q3, q4, q5⟩ := cells6 hS.bx
      have HYL := Lib.hid (show (capsF d (ss.take j)).length + 1 ≤ 4000001 from by have := capsF_len d (ss.take j); have := HSS.out; rw [List.length_take] at *; omega)
      obtain ⟨cl, hcl⟩ : ∃ cl, capsF d (ss.take j) = cl := ⟨_, rfl⟩
      rw [hcl] at HS HYL
      have HCL := Lib.hid hcl
      have HNX := Lib.hid (show capsF d (ss.take (j + 1)) = cl ++ (if d.kind = 4 ∨ x ≠ d.s then [x] else []) from by rw [HTJ.out, capsF_snoc, hcl])
      have hFA' := Lib.hid hFA
      clear hcl hsc hx hjl hS
      subst hFA
      have r0 := cell_regrown q0
      have r2 := cell_regrown q2
      have r6 := cell_regrown h1
      clear q0 q1 q2 q3 q4 q5 h1
      go_upto_region 19 with fail
      by_cases hkeep : d.kind = 4 ∨ x ≠ d.s
      · have HNK := Lib.hid (show capsF d (ss.take (j + 1)) = cl ++ [x] from by rw [HNX.out, if_pos hkeep])
        have hcs : (d.kind == 4) = true ∨ ((d.kind == 4) = false ∧ ((bstr x).toList == (bstr d.s).toList) = false) := by
          by_cases h4 : d.kind = 4
          · left; simpa using h4
          · right; exact ⟨by simpa using h4, by rw [beq_bstr]; simpa using hkeep.resolve_left h4⟩
        clear hkeep
        rcases hcs with g1 | ⟨g1, g2⟩
        all_goals
          refine wp_region_quiet_below (by kernel_rfl) (by kernel_rfl) ?_
          iterate 12 (quiet_step (fail))
          refine wpQuiet_nil ?_
          intro _ hw
          obtain ⟨⟨dq, osq⟩, hw2⟩ := hw
          subst hw2
          have HV := Lib.hid (below_regrown wr dq osq)
          clear r0 r2 r6
          generalize grow (redrawn wr dq) osq = V2 at *
          have h2 := cell_below HV.out H1.out
          have HS2 := Lib.hid (HS.out.below HV.out)
          obtain ⟨k0, k1, k2, k3, k4, k5, k6, k7, k8⟩ := cells9 HS2.out.fb
          have hba : Below V2.heap.size V2 (V2.alloc (.cells #[.string (bstr x)] 9)) := (Below.refl _ _).alloc (Nat.le_refl _) _
          have HBA := Lib.hid (show Below V2.heap.size V2 ((V2.alloc (.cells #[.string (bstr x)] 9)).drew) from below_then hba (below_drew1 _))
          have k2a := cell_below hba k2
          have h2a := cell_below hba h2
          have HOA := Lib.hid (HS2.out.below HBA.out).own
          have HRD := Lib.hid (show Rd ((V2.alloc (.cells #[.string (bstr x)] 9)).drew) 1 (some ⟨V2.heap.size, 0, none⟩) 1 (strs [x]) from (Rd.lit (size := 1) (n := 1) V2 (#[.string (bstr x)] : Array Value) 9 rfl (fr := (0, 0))).below (below_drew1 _))
          have HFB := Lib.hid (HS2.out.below HBA.out).fb
          have HBY := Lib.hid (show (cl.length + 1) * 16 ≤ 140737488355328 by have := HYL.out; omega)
          have HSZ := Lib.hid (show g + 2 ≤ ((V2.alloc (.cells #[.string (bstr x)] 9)).drew).heap.size by have := lt_of_heap HS2.out.fb; have := HBA.out.size; omega)
          clear k0 k1 k3 k4 k5 k6 k7 k8 hba
          go_upto_region 20 with fail
          go_region_law ((refine step_app elStr ((V2.alloc (.cells #[.string (bstr x)] 9)).drew) (by rfl) (.tmp 79) (.tmp 84) (by rfl) (g + 2) (.slice CA cl.length cc) cl.length _ (by rfl) HOA.out (some ⟨V2.heap.size, 0, none⟩) 1 1 _ (by rfl) HRD.out (strs_one [x]) HBY.out HSZ.out ?_; intro v4 w4 hown4 hg4 ho4; obtain ⟨q6, c6, rfl⟩ := own_some hown4; have hf4 := (hg4.block (g + 1) (lt_of_heap HFB.out) (fun e => by have := (HOA.out.lt _ e.symm).1; omega)).trans HFB.out; have e2 := (cells9 hf4).2.2.1; have f2 := frozen9 hf4 2; have H4 := Lib.hid (And.intro hown4 (And.intro hg4 ho4)); clear hown4 hg4 ho4 hf4))
          all_goals
            go_wp2_with fail
            go_roundw
            case rel => exact ⟨j + 1, some ⟨q6, 0, none⟩, c6, by go_num, HJL.out, by
              rw [HNK.out]
              have h9 := HS2.out.put (x := x) HBA.out H4.out.1 H4.out.2.1 H4.out.2.2
              rw [List.length_append]
              exact h9⟩
            case measure => have := HJL.out; simp [intOf] <;> omega
      · have HNK := Lib.hid (show capsF d (ss.take (j + 1)) = cl from by rw [HNX.out, if_neg hkeep, List.append_nil])
        have g1 : (d.kind == 4) = false := by
          by_cases h4 : d.kind = 4
          · exact absurd (Or.inl h4) hkeep
          · simpa using h4
        have g2 : ((bstr x).toList == (bstr d.s).toList) = true := by
          by_cases h4 : x = d.s
          · rw [beq_bstr]; simpa using h4
          · exact absurd (Or.inr h4) hkeep
        clear hkeep
        refine wp_region_quiet_below (by kernel_rfl) (by kernel_rfl) ?_
        iterate 12 (quiet_step (fail))
        refine wpQuiet_nil ?_
        intro _ hw
        obtain ⟨⟨dq, osq⟩, hw2⟩ := hw
        subst hw2
        have HV := Lib.hid (below_regrown wr dq osq)
        clear r0 r2 r6
        generalize grow (redrawn wr dq) osq = V2 at *
        go_wp2_with fail
        go_roundw
        case rel => exact ⟨j + 1, CA, cc, by go_num, HJL.out, by rw [HNK.out]; exact HS.out.below HV.out⟩
        case measure => have := HJL.out; simp [intOf] <;> omega
    · have hji : ¬ (j : Int) < (ss.length : Int) := by omega
      obtain rfl : j = ss.length := by omega
      rw [List.take_length] at HS
      clear hS hjl hj
      go_wp2_with fail
      refine HK.out _ _ ?_
      exact HEND.out _ _ _ _ _ _ _ _ _ _ _ _ _ _ _ _ _ _ _ _ _ _ _ _ _ _ _ _ _ _ _ _ _ _ _ _ _ _ _ _ _ _ _ _ _ _ _ _ _ _ _ _ _ _ _ _ _ _ _ _ _ _ _ _ _ _ _ _ _ _ _ _ _ _ _ _ _ _ _ _ _ _ _ _ _ _ _ _ _ _ _ _ _ _ _ _ _ _ _ _ _ _ _ _ _ _ _ _ _ _ _ _ _ _ _ _ _ _ _ _ _ _ _ _ _ _ _ _ CA cc wr HS.out
end Go.Proofs.Ytpnihimoekkepaa
