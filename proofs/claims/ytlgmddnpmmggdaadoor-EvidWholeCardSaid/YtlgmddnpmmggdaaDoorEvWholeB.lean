/-
  EvidWhole: the law's walk.
-/
import Derived.Test.YtlgmddnpmmggdaaDoorEvC
import Derived.Test.YtlgmddnpmmggdaaDoorSetE
namespace Go.Proofs.YtlgmddnpmmggdaaDoor
open Go.ChangeShapes Go.WideShapes Go.ChangeAt Go.RowKit Go.Sort Go.Maps
set_option linter.unusedVariables false
set_option linter.unusedSimpArgs false

/-- Offsets in a join are the sums of those in its parts. -/
theorem offs_join (a b : List Str) (s : Str) (ha : inOrder a) (hb : inOrder b) : offs (setOf (a ++ lessL b a)) s = offs a s + offs (lessL b a) s := by
  have hl : inOrder (lessL b a) := inOrder_filter hb _
  have hp : (setOf (a ++ lessL b a)).Perm (a ++ lessL b a) := by
    refine (List.perm_ext_iff_of_nodup (inOrder_nodup (setOf_order _)) ?_).2 (fun x => setOf_mem _ x)
    refine List.nodup_append.2 ⟨inOrder_nodup ha, inOrder_nodup hl, fun x hx y hy e => ?_⟩
    subst e
    unfold lessL at hy
    have := (List.mem_filter.1 hy).2
    simp [hx] at this
  unfold offs
  rw [hp.countP_eq, List.countP_append]

theorem elType : ElemTy Tryd.prog 22 25 (.agg #[.int .i64 0, .int .i64 0, .slice none 0 0, .slice none 0 0, .int .i64 0]) 5 72 :=
  ⟨Tryd.underlying22, by kernel_rfl, rfl, by omega, by omega⟩

/-- The row under way: its cells at block T, its parts a row of the call's own. -/
structure RowAt (w5 : World) (lA : Option Addr) (n lc : Nat) (tail : Int) (wr : World) (pA : Option Addr) (k pc : Nat) : Prop where
  c0 : wr.cell? ⟨w5.heap.size, 0, none⟩ = some (.int .i64 4)
  c1 : wr.cell? ⟨w5.heap.size, 1, none⟩ = some (.int .i64 0)
  c2 : wr.cell? ⟨w5.heap.size, 2, none⟩ = some (.slice pA k pc)
  c3 : wr.cell? ⟨w5.heap.size, 3, none⟩ = some (.slice lA n lc)
  c4 : wr.cell? ⟨w5.heap.size, 4, none⟩ = some (.int .i64 tail)
  f2 : wr.frozen? ⟨w5.heap.size, 2, none⟩ = false
  own : wr.ownsRow (w5.heap.size + 1) 25 5 (.slice pA k pc) k (intCells k)
  b : Below w5.heap.size w5 wr
theorem RowAt.lt {w5 wr : World} {lA pA : Option Addr} {n lc k pc : Nat} {tail : Int} (h : RowAt w5 lA n lc tail wr pA k pc) : w5.heap.size < wr.heap.size := World.block_lt_of_cell? wr _ h.c0
theorem RowAt.start (w5 : World) (lA : Option Addr) (n lc : Nat) (tail : Int) : RowAt w5 lA n lc tail (w5.alloc (.cells #[.int .i64 4, .int .i64 0, .slice none 0 0, .slice lA n lc, .int .i64 tail] 25)) none 0 0 :=
  ⟨cell_new w5 _ _ 0 rfl, cell_new w5 _ _ 1 rfl, cell_new w5 _ _ 2 rfl, cell_new w5 _ _ 3 rfl, cell_new w5 _ _ 4 rfl, by simp, World.ownsRow_nil _ _ _ _, (Below.refl _ _).alloc (Nat.le_refl _) _⟩
theorem RowAt.lower {w5 wr w' : World} {lA pA : Option Addr} {n lc k pc : Nat} {tail : Int} (h : RowAt w5 lA n lc tail wr pA k pc) (hb : Below wr.heap.size wr w') : RowAt w5 lA n lc tail w' pA k pc :=
  ⟨cell_below hb h.c0, cell_below hb h.c1, cell_below hb h.c2, cell_below hb h.c3, cell_below hb h.c4, (hb.frozen h.lt).trans h.f2, own_below h.own hb, h.b.trans (hb.mono h.b.size)⟩
theorem RowAt.step {w5 wr w6 : World} {lA pA pA2 : Option Addr} {n lc k pc pc2 : Nat} {tail : Int} (h : RowAt w5 lA n lc tail wr pA k pc) (hb : Below (w5.heap.size + 1) wr w6)
    (hown : w6.ownsRow (w5.heap.size + 1) 25 5 (.slice pA2 (k + 1) pc2) (k + 1) (intCells (k + 1))) : RowAt w5 lA n lc tail (w6.setCell ⟨w5.heap.size, 2, none⟩ (.slice pA2 (k + 1) pc2)) pA2 (k + 1) pc2 := by
  have hc : ∀ (j : Nat) (v : Value), wr.cell? ⟨w5.heap.size, j, none⟩ = some v → w6.cell? ⟨w5.heap.size, j, none⟩ = some v := fun j v hv => (hb.cell (p := ⟨w5.heap.size, j, none⟩) (Nat.lt_succ_self w5.heap.size)).trans hv
  refine ⟨?_, ?_, ?_, ?_, ?_, ?_, ownsRow_setCell_below hown (Nat.lt_succ_self w5.heap.size) _, (h.b.trans (hb.mono (Nat.le_succ _))).setCell (Nat.le_refl _) _⟩
  · rw [World.cell?_setCell_other _ _ _ _ (by simp)]; exact hc _ _ h.c0
  · rw [World.cell?_setCell_other _ _ _ _ (by simp)]; exact hc _ _ h.c1
  · exact World.cell?_setCell_same _ _ _ (hc _ _ h.c2)
  · rw [World.cell?_setCell_other _ _ _ _ (by simp)]; exact hc _ _ h.c3
  · rw [World.cell?_setCell_other _ _ _ _ (by simp)]; exact hc _ _ h.c4
  · rw [World.frozen?_setCell]; exact (hb.frozen (p := ⟨w5.heap.size, 2, none⟩) (Nat.lt_succ_self w5.heap.size)).trans h.f2

set_option maxRecDepth 100000 in
set_option maxHeartbeats 2000000 in
theorem whole_any (a b : List Str) (s : Str) (tail : Int) (A B : Option Addr) (n c m d : Nat) (w : World) (hra : Rd w 1 A n (strs a)) (hrb : Rd w 1 B m (strs b)) (hnc : n ≤ c) (hc : c ≤ maxLen) (hmd : m ≤ d) (hd : d ≤ maxLen) (hs : s.length ≤ maxLen) (htw : (Lit.int .i64 tail).wf = true) :
    Calls Tryd.prog 4 #[.slice A n c, .slice B m d, .string (bstr s), .int .i64 tail] w fun e w' => e = .returned (.bool true) ∧ Below w.heap.size w w' := by
  have hla := rd_len hra
  have hlb := rd_len hrb
  subst hla
  subst hlb
  have HR := Lib.hid (And.intro hra (And.intro hrb (And.intro htw hs)))
  clear hra hrb htw hs
  have hsz := bstr_size s
  go_enter Tryd.func4, Tryd.ntmps4
  go_wp2_with fail
  refine (up_any w).mono ?_
  rintro e w1 ⟨rfl, hb1⟩
  go_wp2_with fail
  all_goals first | (go_returns; exact ⟨rfl, hb1⟩) | skip
  rename_i g1 g2 g3 g4 g5 K1 K2
  have ha50 : a.length ≤ 50 := by omega
  have hb50 : b.length ≤ 50 := by omega
  have hs0 : s ≠ [] := by intro e; subst e; exact g4 (bstr_toList [])
  have ht0 : 0 ≤ tail := g5.2
  have HG := Lib.hid (And.intro ha50 (And.intro hb50 (And.intro hs0 ht0)))
  have HB1 := Lib.hid hb1
  clear g1 g2 g3 g4 g5 ha50 hb50 hs0 ht0 hb1 hsz
  go_loopw [10] (fun i wr => ∃ k : Nat, i = .int .i64 k ∧ k ≤ a.length ∧ (([] : Str) ∉ a.take k) ∧ Below w.heap.size w wr) (fun i _ => a.length - (intOf i).toNat)
  case atStart => exact ⟨0, rfl, Nat.zero_le _, by simp, HB1.out⟩
  case round =>
    clear HB1
    obtain ⟨k, rfl, hk, hne, hb⟩ := hrel
    have HK := Lib.hid (And.intro hne hb)
    clear hne hb
    by_cases hlt : k < a.length
    · obtain ⟨bb, oo, rfl, hcel⟩ := (HR.out.1.below HK.out.2).str (k := k) hlt
      have h1 := hcel k hlt
      obtain ⟨x, hx⟩ : ∃ x, a[k] = x := ⟨_, rfl⟩
      rw [hx] at h1
      have htk : a.take (k + 1) = a.take k ++ [x] := by rw [List.take_succ_eq_append_getElem hlt, hx]
      have HT := Lib.hid htk
      have hki : (k : Int) < (a.length : Int) := by omega
      have hk5 : (k : Int) ≤ 50 := by have := HG.out.1; omega
      have hxs := bstr_size x
      clear hcel hx htk
      go_wp2_with fail
      all_goals first | (go_returns; exact ⟨rfl, HK.out.2⟩) | skip
      rename_i q1 q2
      have hx0 : x ≠ [] := by intro e; subst e; have := q2.2; rw [bstr_toList] at this; cases this
      exact ⟨⟨k + 1, by go_num, hlt, by rw [HT.out]; intro hm; rcases List.mem_append.1 hm with h | h; exact HK.out.1 h; exact hx0 (List.mem_singleton.1 h).symm, HK.out.2⟩, by simp [intOf] <;> omega⟩
    · have hki : ¬ (k : Int) < (a.length : Int) := by omega
      obtain rfl : k = a.length := by omega
      have hna : ([] : Str) ∉ a := by have := HK.out.1; rwa [List.take_length] at this
      have HA := Lib.hid (And.intro hna HK.out.2)
      clear HK hna hki hlt hk
      go_wp2_with fail
      go_loopw [11] (fun i wr => ∃ k : Nat, i = .int .i64 k ∧ k ≤ b.length ∧ Below w.heap.size w wr) (fun i _ => b.length - (intOf i).toNat)
      case atStart => exact ⟨0, rfl, Nat.zero_le _, HA.out.2⟩
      case round =>
        have HN := Lib.hid HA.out.1
        clear HA
        obtain ⟨k, rfl, hk, hb⟩ := hrel
        have HK := Lib.hid hb
        clear hb
        by_cases hlt : k < b.length
        · obtain ⟨bb, oo, rfl, hcel⟩ := (HR.out.2.1.below HK.out).str (k := k) hlt
          have h1 := hcel k hlt
          obtain ⟨x, hx⟩ : ∃ x, b[k] = x := ⟨_, rfl⟩
          rw [hx] at h1
          have hki : (k : Int) < (b.length : Int) := by omega
          have hk5 : (k : Int) ≤ 50 := by have := HG.out.2.1; omega
          have hxs := bstr_size x
          clear hcel hx
          go_wp2_with fail
          all_goals first | (go_returns; exact ⟨rfl, HK.out⟩) | skip
          exact ⟨⟨k + 1, by go_num, hlt, HK.out⟩, by simp [intOf] <;> omega⟩
        · have hki : ¬ (k : Int) < (b.length : Int) := by omega
          obtain rfl : k = b.length := by omega
          clear hki hlt hk
          go_wp2_with fail
          refine (refOf_any A a a.length c _ (HR.out.1.below HK.out) (by have := HG.out.1; omega)).mono ?_
          rintro e w3 ⟨v3, rfl, hown3, hb3⟩
          obtain ⟨A3, c3, rfl, hn3, hm3, _⟩ := own_cap hown3
          have hlen3 : (setOf a).length ≤ 50 := Nat.le_trans (setOf_length_le a) HG.out.1
          have H3 := Lib.hid (And.intro (Rd.of_own hown3) (And.intro (below_then HK.out hb3) (And.intro hn3 (And.intro hm3 hlen3))))
          clear hown3 hb3 hn3 hm3 hlen3 HK
          go_wp2_with fail
          refine (refOf_any B b b.length d w3 (HR.out.2.1.below H3.out.2.1) (by have := HG.out.2.1; omega)).mono ?_
          rintro e w4 ⟨v4, rfl, hown4, hb4⟩
          obtain ⟨A4, c4, rfl, hn4, hm4, _⟩ := own_cap hown4
          have hlen4 : (setOf b).length ≤ 50 := Nat.le_trans (setOf_length_le b) HG.out.2.1
          have H4 := Lib.hid (And.intro (Rd.of_own hown4) (And.intro (H3.out.1.below hb4) (And.intro (below_then H3.out.2.1 hb4) (And.intro hn4 (And.intro hm4 hlen4)))))
          clear hown4 hb4 hn4 hm4 hlen4
          go_wp2_with fail
          refine (refLess_any A4 A3 (setOf b) (setOf a) _ c4 _ c3 w4 H4.out.1 H4.out.2.1 (by have := H4.out.2.2.2.2.2; omega) (by have := H3.out.2.2.2.2; omega)).mono ?_
          rintro e w5 ⟨v5, rfl, hown5, hb5⟩
          obtain ⟨A5, c5, rfl, hn5, hm5, _⟩ := own_cap hown5
          have hlen5 : (lessL (setOf b) (setOf a)).length ≤ 50 := Nat.le_trans (List.length_filter_le _ _) H4.out.2.2.2.2.2
          have H5 := Lib.hid (And.intro (Rd.of_own hown5) (And.intro (H4.out.2.1.below hb5) (And.intro (below_then H4.out.2.2.1 hb5) (And.intro hn5 (And.intro hm5 hlen5)))))
          have HD := Lib.hid (And.intro H3.out.2.2.1 (And.intro H3.out.2.2.2.1 H3.out.2.2.2.2))
          clear hown5 hb5 hn5 hm5 hlen5 H3 H4
          go_wp2_with fail
          have hna : ([] : Str) ∉ setOf a := fun h => HN.out ((setOf_mem a []).1 h)
          have HO := Lib.hid (And.intro (setOf_order a) (And.intro (setOf_order b) (And.intro hna (offs_join (setOf a) (setOf b) s (setOf_order a) (setOf_order b)))))
          obtain ⟨aa, haa⟩ : ∃ aa, setOf a = aa := ⟨_, rfl⟩
          obtain ⟨bb, hbb⟩ : ∃ bb, lessL (setOf b) aa = bb := ⟨_, rfl⟩
          rw [haa] at HO HD H5 ⊢
          rw [hbb] at HO H5 ⊢
          clear haa hbb hna HN
          go_loopw [15] (fun i wr => ∃ (k : Nat) (pA : Option Addr) (pc : Nat), i = .int .i64 k ∧ k ≤ aa.length ∧ RowAt w5 A3 aa.length c3 tail wr pA k pc) (fun i _ => aa.length - (intOf i).toNat)
          case atStart => exact ⟨0, none, 0, rfl, Nat.zero_le _, RowAt.start _ _ _ _ _⟩
          case round =>
            obtain ⟨k, pA, pc, rfl, hk, hrow⟩ := hrel
            have HK := Lib.hid hrow
            obtain ⟨c0, c1, c2, c3', c4, f2, hown, hb⟩ := hrow
            have hlw := HK.out.lt
            by_cases hlt : k < aa.length
            · have hki : (k : Int) < (aa.length : Int) := by omega
              have hk5 : (k : Int) ≤ 50 := by have := HD.out.2.2; omega
              clear hb c0 c1 c3' c4
              have HKA := Lib.hid (HK.out.lower (w' := wr.alloc (.cells #[.int .i64 1, .int .i64 0, .slice none 0 0, .slice none 0 0, .int .i64 (-1)] 25)) ((Below.refl _ _).alloc (Nat.le_refl _) _))
              go_wp2_with (at_builtin; refine wpList_app elType _ rfl _ _ rfl (w5.heap.size + 1) (.slice pA k pc) k _ rfl (hown.alloc _) (some ⟨wr.heap.size, 0, none⟩) 1 1 _ rfl (Rd.lit wr _ _ rfl) (by intro u hu; simp at hu; rcases hu with rfl | rfl | rfl | rfl | rfl <;> rfl) (by omega) (by simp; omega) ?_; intro v' w6 hown6 hb6 _ _; obtain ⟨A6, c6, rfl, _, _, _⟩ := own_cap hown6; have c2' : w6.cell? ⟨w5.heap.size, 2, none⟩ = some (.slice pA k pc) := (hb6.cell (p := ⟨w5.heap.size, 2, none⟩) (Nat.lt_succ_self w5.heap.size)).trans HKA.out.c2; have f2' : w6.frozen? ⟨w5.heap.size, 2, none⟩ = false := (hb6.frozen (p := ⟨w5.heap.size, 2, none⟩) (Nat.lt_succ_self w5.heap.size)).trans HKA.out.f2)
              exact ⟨⟨k + 1, A6, c6, by go_num, hlt, HKA.out.step hb6 (by rw [intCells_succ]; exact hown6)⟩, by simp [intOf] <;> omega⟩
            · have hki : ¬ (k : Int) < (aa.length : Int) := by omega
              obtain rfl : k = aa.length := by omega
              clear hki hlt hk hb hown f2
              go_wp2_with fail
              obtain ⟨_, _, he, hpc1, hpc2, _⟩ := own_cap HK.out.own
              cases he
              have hI : (recTy pA pc A3 c3 aa tail).In wr := recTy_in (by have := HD.out.2.2; omega) (H5.out.2.1.below HK.out.b) (Rd.of_own HK.out.own) HD.out.1 HD.out.2.1 hpc1 hpc2
              have hOf : Calls Tryd.prog 7 #[.agg #[.int .i64 4, .int .i64 0, .slice pA aa.length pc, .slice A3 aa.length c3, .int .i64 tail], .string (bstr s)] wr fun e w' => e = .returned (.tuple #[.agg #[.int .i64 (offs aa s : Nat), .int .i64 tail, .string (bstr s)], .nilIface]) ∧ Below wr.heap.size wr w' :=
                of_row _ s wr hI rfl HG.out.2.2.1 (recTy_may (by have := HD.out.2.2; omega) HO.out.1 HO.out.2.2.1 (by have := HG.out.2.2.2; omega)) HG.out.2.2.2
              have HOf := Lib.hid hOf
              have HB6 := Lib.hid (below_then H5.out.2.2.1 HK.out.b)
              have HH := Lib.hid (And.intro (H5.out.1.below HK.out.b) (And.intro (H5.out.2.1.below HK.out.b) (And.intro H5.out.2.2.2 HD.out)))
              clear hOf hI c0 c1 c2 c3' c4 hlw hpc1 hpc2 HK H5 HD
              refine HOf.out.mono ?_
              rintro e w7 ⟨rfl, hb7⟩
              have HB7 := Lib.hid (below_then HB6.out hb7)
              have HH7 := Lib.hid (And.intro (HH.out.1.below hb7) (And.intro (HH.out.2.1.below hb7) HH.out.2.2))
              clear HB6 HH HOf hb7
              obtain ⟨kl, hkey⟩ := keyNeed tail s HR.out.2.2.1 HR.out.2.2.2
              have HKEY := Lib.hid hkey
              clear hkey
              have hmm := @run_makeMap Tryd.prog
              go_wp2_with fail
              clear hmm
              obtain ⟨W8, hW8⟩ : ∃ W8, w7.alloc (.cells #[.int .i64 (offs aa s : Nat), .int .i64 tail, .string (bstr s)] 27) = W8 := ⟨_, rfl⟩
              have hb8 : Below w7.heap.size w7 W8 := by rw [← hW8]; exact (Below.refl _ _).alloc (Nat.le_refl _) _
              have hs8 : W8.heap.size = w7.heap.size + 1 := by rw [← hW8]; simp
              have e0 : W8.cell? ⟨w7.heap.size, 0, none⟩ = some (.int .i64 (offs aa s : Nat)) := by rw [← hW8]; exact cell_new w7 _ _ 0 rfl
              have e1 : W8.cell? ⟨w7.heap.size, 1, none⟩ = some (.int .i64 tail) := by rw [← hW8]; exact cell_new w7 _ _ 1 rfl
              have e2 : W8.cell? ⟨w7.heap.size, 2, none⟩ = some (.string (bstr s)) := by rw [← hW8]; exact cell_new w7 _ _ 2 rfl
              rw [hW8]
              clear hW8
              obtain ⟨W9, hW9⟩ : ∃ W9, W8.alloc (.map #[] 0) = W9 := ⟨_, rfl⟩
              have hb9 : Below W8.heap.size W8 W9 := by rw [← hW9]; exact (Below.refl _ _).alloc (Nat.le_refl _) _
              have hown9 : W9.ownsMap (H := Unit) Tryd.prog 43 (plainElem Tryd.prog 3) (w7.heap.size + 1) 0 (.map []) := by rw [← hW9, ← hs8]; exact World.ownsMap_made _ _ _ _
              have hs9 : W9.heap.size = w7.heap.size + 2 := by rw [← hW9]; simp [hs8]
              rw [hW9]
              clear hW9
              have hb79 := below_then hb8 hb9
              have H9 := Lib.hid (And.intro (cell_below hb9 e0) (And.intro (cell_below hb9 e1) (And.intro (cell_below hb9 e2) (And.intro hown9 (And.intro hs9 (below_then HB7.out hb79))))))
              have HH9 := Lib.hid (And.intro (HH7.out.1.below hb79) (And.intro (HH7.out.2.1.below hb79) HH7.out.2.2))
              obtain ⟨E, hE⟩ : ∃ E, w7.heap.size = E := ⟨_, rfl⟩
              rw [hE] at H9
              try rw [hE]
              have HE := Lib.hid (And.intro hb79 hE)
              clear e0 e1 e2 hown9 hs9 hs8 hb8 hb9 hb79 hE
              refine (refOffset_any A5 bb s bb.length c5 W9 HH9.out.1 (by have := HH9.out.2.2.1.2.2; unfold maxLen; omega)).mono ?_
              rintro e w10 ⟨rfl, hb10⟩
              have hown10 := ownsMap_below H9.out.2.2.2.1 hb10
              have hle : offs bb s ≤ 50 := Nat.le_trans (offs_le _ _) HH9.out.2.2.1.2.2
              have hwf : (Lit.int .i64 ((offs bb s : Nat) : Int)).wf = true := by
                have h1 : ((offs bb s : Nat) : Int) ≤ 50 := by omega
                have h2 : (0 : Int) ≤ ((offs bb s : Nat) : Int) := by omega
                simp [Lit.wf, IntKind.min, IntKind.max, IntKind.signed, IntKind.bits]; omega
              obtain ⟨w11, hrun, hown11, hg11⟩ := hown10.update (t := 48) lawNeed Tryd.underlying48 (by decide) HKEY.out (plainElem_int Tryd.underlying3 hwf)
              have hlt10 : E + 1 < w10.heap.size := hown10.lt
              have hb11 : Below (E + 1) w10 w11 := (Below.refl _ _).grown hg11 (Nat.le_of_lt hlt10) (fun k hk => by cases hk; exact Nat.le_refl _)
              have e0 : w11.cell? ⟨E, 0, none⟩ = some (.int .i64 (offs aa s : Nat)) := (hb11.cell (p := ⟨E, 0, none⟩) (Nat.lt_succ_self E)).trans (cell_below hb10 H9.out.1)
              have e1 : w11.cell? ⟨E, 1, none⟩ = some (.int .i64 tail) := (hb11.cell (p := ⟨E, 1, none⟩) (Nat.lt_succ_self E)).trans (cell_below hb10 H9.out.2.1)
              have e2 : w11.cell? ⟨E, 2, none⟩ = some (.string (bstr s)) := (hb11.cell (p := ⟨E, 2, none⟩) (Nat.lt_succ_self E)).trans (cell_below hb10 H9.out.2.2.1)
              have hb710 : Below w7.heap.size w7 w10 := below_then HE.out.1 hb10
              have hb711 : Below w7.heap.size w7 w11 := hb710.trans (hb11.mono (by rw [HE.out.2]; exact Nat.le_succ E))
              have H11 := Lib.hid (And.intro (below_then HB7.out hb711) (And.intro (HH7.out.1.below hb711) (And.intro (HH7.out.2.1.below hb711) HH7.out.2.2)))
              have HOW := Lib.hid hown11
              have haa : offs aa s ≤ 50 := Nat.le_trans (offs_le _ _) HH7.out.2.2.2.2.2
              have HL := Lib.hid (And.intro hle haa)
              clear hown10 hle hwf hown11 hg11 hlt10 hb11 hb710 hb711 hb10 HE HH7 HB7 H9 HH9 haa
              go_wp2_with fail
              refine (value_any _ tail _ s (E + 1) kl w11 HG.out.2.2.2 HKEY.out HOW.out (by omega) (by have := HL.out.2; omega) (by omega) (by have := HL.out.1; omega)).mono ?_
              rintro e w12 ⟨rfl, hb12⟩
              have H12 := Lib.hid (And.intro (below_then H11.out.1 hb12) (And.intro (H11.out.2.1.below hb12) (And.intro (H11.out.2.2.1.below hb12) H11.out.2.2.2)))
              clear hb12 H11 HOW e0 e1 e2 hrun
              go_wp2_with fail
              refine (refJoin_any A3 A5 aa bb _ c3 _ c5 w12 H12.out.2.2.1 H12.out.2.1 (by have := H12.out.2.2.2.2.2.2; omega) (by have := H12.out.2.2.2.1.2.2; omega)).mono ?_
              rintro e w13 ⟨v13, rfl, hown13, hb13⟩
              obtain ⟨A13, c13, rfl, _, _, _⟩ := own_cap hown13
              have hjl : (setOf (aa ++ bb)).length ≤ 100 := Nat.le_trans (setOf_length_le _) (by rw [List.length_append]; have h1 := H12.out.2.2.2.2.2.2; have h2 := H12.out.2.2.2.1.2.2; omega)
              have H13 := Lib.hid (And.intro (Rd.of_own hown13) (And.intro (below_then H12.out.1 hb13) hjl))
              clear hown13 hb13 hjl H12
              go_wp2_with fail
              refine (refOffset_any A13 _ s _ c13 w13 H13.out.1 (by have := H13.out.2.2; unfold maxLen; omega)).mono ?_
              rintro e w14 ⟨rfl, hb14⟩
              have H14 := Lib.hid (below_then H13.out.2.1 hb14)
              have hq : (((offs aa s : Nat) : Int) + ((offs bb s : Nat) : Int) == ((offs (setOf (aa ++ bb)) s : Nat) : Int)) = true := by rw [HO.out.2.2.2]; simp
              clear hb14 H13
              go_wp2_with fail
              trace_state
              go_returns
              exact ⟨rfl, H14.out⟩
end Go.Proofs.YtlgmddnpmmggdaaDoor
