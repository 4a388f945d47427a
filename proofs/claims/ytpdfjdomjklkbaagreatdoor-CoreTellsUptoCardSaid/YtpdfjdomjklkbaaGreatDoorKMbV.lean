/-
  The document's example; the law.
  The law's small calls: the document's example, its nodes.
  core.Run: an expression is run, what it comes to handed out.
-/
import Derived.Test.YtpdfjdomjklkbaaGreatDoorK16
namespace Go.Proofs.YtpdfjdomjklkbaaGreatDoor
open Go.ChangeShapes Go.WideShapes Go.ChangeAt Go.RowKit Go.Sort
set_option linter.unusedVariables false
set_option linter.unusedSimpArgs false

abbrev zeroO : Obj := .cells #[.int .i64 0, .int .i64 0, .string ⟨#[]⟩, .slice none 0 0] 37
def St.mk1 (input : List Str) (fuel : Int) (e : Ex) : St := { St.mk0 input fuel with next := some (e, []) }
theorem inv_start {input : List Str} {fuel : Int} {e : Ex} (he : ExG e) (hi : input.length ≤ 90000000000) : Inv 0 (St.mk1 input fuel e) := by
  refine ⟨⟨(fun z hz => nomatch hz), (fun z hz => nomatch hz), (fun x hx => nomatch hx), fun e' env q => ?_, Nat.le_refl _, Nat.le_refl _, Nat.le_refl _, Nat.le_refl _, hi⟩, fun _ => rfl⟩
  have q' := Option.some.inj q
  injection q' with q1 q2
  subst q1 q2
  exact ⟨he, fun p hp => nomatch hp⟩
theorem mu_start (input : List Str) (fuel : Int) (e : Ex) : mu (St.mk1 input fuel e) = 3 * fuel.toNat + 2 := rfl
abbrev zeroTA : Value := .agg #[.int .i64 0, .int .i64 0, .string ⟨#[]⟩, .slice none 0 0]
/-- What core.Run tells. -/
def CoreRes (w : World) (input : List Str) (fuel : Int) (e : Ex) (e1 : Ending) (w' : World) : Prop := ∃ (n : Nat) (s' : St) (At : Option Addr) (ct : Nat) (v : Value), e1 = .returned (.tuple #[v, .agg #[.int .i64 s'.err, .int .i64 s'.fault, .string ⟨#[]⟩, .slice At s'.trace.length ct]]) ∧ s' = St.run n (St.mk1 input fuel e) ∧ s'.done ∧ Rd w' 1 At s'.trace.length (strs s'.trace) ∧ (s'.trace.length ≤ ct ∧ ct ≤ maxLen) ∧ s'.trace.length ≤ 100000 ∧ Below w.heap.size w w' ∧
  ((s'.err ≠ 0 ∧ v = zeroTA) ∨ (s'.err = 0 ∧ ∃ (z : Val) (A : Option Addr) (c : Nat), s'.vals = [z] ∧ (1 ≤ z.sort ∧ z.sort ≤ 6) ∧ v = .agg #[.int .i64 z.sort, .int .i64 z.n, .string (bstr z.s), .slice A z.l.length c]))
theorem inR_up {w w' : World} {l : List Str} {i : Value} (h : InR w w.heap.size l i) (hb : Below w.heap.size w w') : InR w' w'.heap.size l i := by
  obtain ⟨A, c, h1, h2, h3, h4⟩ := h
  exact ⟨A, c, h1, h2, h3.below hb, fun hn a ha => Nat.lt_of_lt_of_le (h4 hn a ha) hb.size⟩
theorem core_ret {R : Ending → World → Prop} {W : World} {gv go : Nat} {a0 a1 a2 a3 b0 b1 b2 b3 : Value} (h1 : W.heap[gv]? = some (.cells #[a0, a1, a2, a3] 34)) (h2 : W.heap[go]? = some (.cells #[b0, b1, b2, b3] 37)) (tm : Array Value) (h6 : tm[6]?.getD undef = .pointer (some ⟨gv, 0, none⟩)) (h7 : tm[7]?.getD undef = .pointer (some ⟨go, 0, none⟩)) (hR : R (.returned (.tuple #[.agg #[a0, a1, a2, a3], .agg #[b0, b1, b2, b3]])) W) :
    bodyPost Tryz.prog Tryz.f13 R Exit.ret ⟨tm, []⟩ W := by
  obtain ⟨x0, x1, x2, x3⟩ := cells4 h1
  obtain ⟨y0, y1, y2, y3⟩ := cells4 h2
  refine bodyPost_ret (by simp [results, Tryz.results13, go_sem, h6, h7, x0, x1, x2, x3, y0, y1, y2, y3]; try rfl) rfl ?_
  exact hR
set_option maxRecDepth 100000 in
set_option maxHeartbeats 16000000 in
theorem coreRun_any (w : World) (e : Ex) (heI : e.In w) (hG : ExG e) (input : List Str) (i : Value) (hi : InR w w.heap.size input i) (hin : input.length ≤ 90000000000) (fuel : Int) (hf : 0 ≤ fuel ∧ fuel ≤ 5000) (hT : Tab w) :
    Calls Tryz.prog 13 #[.agg e.d.arr, i, .int .i64 fuel] w fun e1 w' => CoreRes w input fuel e e1 w' := by
  obtain ⟨W0, hW0⟩ : ∃ W0, w.alloc (.cells e.d.arr 25) = W0 := ⟨_, rfl⟩
  have hb0 : Below w.heap.size w W0 := by rw [← hW0]; exact (Below.refl _ _).alloc (Nat.le_refl _) _
  have hs0 : W0.heap.size = w.heap.size + 1 := by rw [← hW0]; exact World.size_alloc _ _
  have hx0 : e.d.At W0 w.heap.size 0 := by rw [← hW0]; exact ex_box w e.d
  obtain ⟨hv0, ho0, hb1⟩ := two_boxes W0 zeroT zeroO
  have hb2 := below_then hb0 hb1
  have hs2 : ((W0.alloc zeroT).alloc zeroO).heap.size = w.heap.size + 3 := by rw [World.size_alloc, World.size_alloc, hs0]
  have HN := Lib.hid (new_any ((W0.alloc zeroT).alloc zeroO) input i fuel (inR_up hi hb2))
  have HE := Lib.hid (And.intro (show e.In ((W0.alloc zeroT).alloc zeroO) from (heI.lower hb0).lower hb1) (hx0.lower hb1))
  have HB := Lib.hid (And.intro hb2 (And.intro hs2 (And.intro hv0 ho0)))
  have HG := Lib.hid (And.intro hG (And.intro hin (And.intro hf (tab_below hT hb2))))
  rw [hs0] at HB
  obtain ⟨Ai, ci, rfl, _⟩ := hi
  have HW := Lib.hid hW0
  obtain ⟨W2, hW2⟩ : ∃ W2, (W0.alloc zeroT).alloc zeroO = W2 := ⟨_, rfl⟩
  rw [hW2] at HN HE HB HG
  have HW2 := Lib.hid hW2
  clear hb0 hs0 hx0 hv0 ho0 hb1 hb2 hs2 heI hG hin hf hT hW0 hW2
  go_enter Tryz.func13, Tryz.ntmps13
  go_upto_region 1 with fail
  rw [HW.out]
  rw [HW2.out]
  go_upto_region 2 with (go_at_call 25; (with_reducible refine HN.out.mono ?_); rintro e1 w4 ⟨rfl, hR, hb4⟩; have HR := Lib.hid hR; have HB4 := Lib.hid hb4; clear hR hb4)
  have hb5 : Below w4.heap.size w4 (w4.alloc (boxM W2.heap.size)) := (Below.refl _ _).alloc (Nat.le_refl _) _
  have hx5 := heap_new (w := w4) (o := boxM W2.heap.size) rfl
  have hRun := run_any (HR.out.below hb5) (below_then HB4.out hb5) HG.out.2.2.2 e w.heap.size 0 HE.out (St.mk1 input fuel e) rfl (inv_start HG.out.1 HG.out.2.1) (by rw [mu_start]; have := HG.out.2.2.1; omega) (by show -9000000000000 ≤ fuel; have := HG.out.2.2.1; omega)
  have c0 : (w4.alloc (boxM W2.heap.size)).cell? ⟨w4.heap.size, 0, none⟩ = some (.pointer (some ⟨W2.heap.size, 0, none⟩)) := by rw [Lib.cell_of_heap hx5]; rfl
  have HRUN := Lib.hid hRun
  have H5 := Lib.hid (And.intro hb5 hx5)
  clear hRun hb5 hx5
  generalize w4.alloc (boxM W2.heap.size) = w5 at *
  go_wp2_with fail
  refine HRUN.out.mono ?_
  rintro e1 w6 ⟨hkeep, n, T, s', t, i', r, v, f, nx, nm, hs, hdn, hiv, hTm, hhd, htr, hbw, hres⟩
  have hmvn : ∀ b, b ≠ W2.heap.size → (Mv W2.heap.size (.slice none 0 0) (.slice none 0 0) (.slice none 0 0) (.slice none 0 0)) b := fun b hb => ⟨hb, (fun q => nomatch q), (fun q => nomatch q), (fun q => nomatch q), (fun q => nomatch q)⟩
  have h25 : W2.heap.size < w4.heap.size := lt_of_heap HR.out.hd
  have h45 := lt_of_heap H5.out.2
  have hbm := (hkeep w4.heap.size (hmvn _ (Nat.ne_of_gt h25)) h45).trans H5.out.2
  have hs2 := HB.out.2.1
  have hb25 : Below W2.heap.size W2 w5 := HB4.out.trans (H5.out.1.mono HB4.out.size)
  have hbv := (hkeep (w.heap.size + 1) (hmvn _ (by omega)) (by omega)).trans ((hb25.block (w.heap.size + 1) (by omega)).trans HB.out.2.2.1)
  have hbo := (hkeep (w.heap.size + 2) (hmvn _ (by omega)) (by omega)).trans ((hb25.block (w.heap.size + 2) (by omega)).trans HB.out.2.2.2)
  have hbW : Below w.heap.size w w6 := (HB.out.1.trans (hb25.mono (by omega))).trans (hbw.mono (by omega))
  have hnt : s'.trace.length ≤ 100000 := by have := hiv.dat.nt; have := HG.out.2.2.1; rw [mu_start] at hTm; omega
  obtain ⟨At, ct, hte, hc1, hc2, _⟩ := own_cap htr
  subst hte
  have hrd := Rd.of_own htr
  have HTB := Lib.hid (show 0 < s'.trace.length → ∀ a, At = some a → a.block ≠ w.heap.size + 1 ∧ a.block ≠ w.heap.size + 1 + 1 from fun hn a ha => by
    subst ha
    have := (htr.lt a.block rfl).1
    exact ⟨by omega, by omega⟩)
  rcases hres with ⟨he, rfl⟩ | ⟨he, z, A, c, p, P', hz, rfl, hvr⟩
  · have H6 := Lib.hid (And.intro hbm (And.intro hbv (And.intro hbo (And.intro hhd (And.intro hrd (And.intro hbW (And.intro hc1 hc2)))))))
    have HS := Lib.hid (And.intro hs (And.intro hdn (And.intro hnt he)))
    have HNE := Lib.hid (show (w4.heap.size ≠ w.heap.size + 1 ∧ W2.heap.size ≠ w.heap.size + 1) ∧ (w4.heap.size ≠ w.heap.size + 1 + 1 ∧ W2.heap.size ≠ w.heap.size + 1 + 1) from ⟨⟨by omega, by omega⟩, by omega, by omega⟩) |> fun k => Lib.hid (And.intro k.out.1.1 (And.intro k.out.1.2 k.out.2))
    clear hkeep hs hdn hiv hTm hhd htr hbw hmvn h25 h45 hbm hs2 hb25 hbv hbo hbW hnt hc1 hc2 hrd c0
    go_upto_region 3 with fail
    have hb7 : Below w6.heap.size w6 (w6.alloc zeroV) := (Below.refl _ _).alloc (Nat.le_refl _) _
    have HB7 := Lib.hid hb7
    obtain ⟨c0⟩ : Nonempty ((w6.alloc zeroV).cell? ⟨w4.heap.size, 0, none⟩ = some (.pointer (some ⟨W2.heap.size, 0, none⟩))) := ⟨cell_below hb7 (by rw [Lib.cell_of_heap H6.out.1]; rfl)⟩
    have hm := (hb7.block _ (lt_of_heap H6.out.2.2.2.1)).trans H6.out.2.2.2.1
    obtain ⟨m0, m1, m2, m3, _⟩ := cells11 hm
    have hv7 := (hb7.block _ (lt_of_heap H6.out.2.1)).trans H6.out.2.1
    have ho7 := (hb7.block _ (lt_of_heap H6.out.2.2.1)).trans H6.out.2.2.1
    have HRD8 := Lib.hid (fun (WZ : World) (hk : ∀ b, b ≠ w.heap.size + 1 → b ≠ w.heap.size + 1 + 1 → WZ.heap[b]? = (w6.alloc zeroV).heap[b]?) => (show Rd WZ 1 At s'.trace.length (strs s'.trace) from rd_keepP (P := fun b => b ≠ w.heap.size + 1 ∧ b ≠ w.heap.size + 1 + 1) (H6.out.2.2.2.2.1.below hb7) HTB.out (fun b hb _ => hk b hb.1 hb.2)))
    generalize w6.alloc zeroV = w7 at *
    obtain ⟨x0, x1, x2, x3⟩ := cells4 hv7
    obtain ⟨y0, y1, y2, y3⟩ := cells4 ho7
    have zv0 := frozenN hv7 0
    have zv1 := frozenN hv7 1
    have zv2 := frozenN hv7 2
    have zv3 := frozenN hv7 3
    have zo0 := frozenN ho7 0
    have zo1 := frozenN ho7 1
    have zo2 := frozenN ho7 2
    have zo3 := frozenN ho7 3
    have e1 : (s'.err == 0) = false := by simpa using HS.out.2.2.2
    have e2 : (s'.err != 0) = true := by simpa using HS.out.2.2.2
    have HVO := Lib.hid (And.intro hv7 ho7)
    clear hb7 hm hv7 ho7
    go_upto_region 4 with fail
    have ne1 : ¬ W2.heap.size = w.heap.size + 1 := HNE.out.2.1
    have ne1' : ¬ w.heap.size + 1 = W2.heap.size := Ne.symm HNE.out.2.1
    have ne2 : ¬ W2.heap.size = w.heap.size + 1 + 1 := HNE.out.2.2.2
    have ne2' : ¬ w.heap.size + 1 + 1 = W2.heap.size := Ne.symm HNE.out.2.2.2
    have ne3 : ¬ w4.heap.size = w.heap.size + 1 := HNE.out.1
    have ne3' : ¬ w.heap.size + 1 = w4.heap.size := Ne.symm HNE.out.1
    have ne4 : ¬ w4.heap.size = w.heap.size + 1 + 1 := HNE.out.2.2.1
    have ne4' : ¬ w.heap.size + 1 + 1 = w4.heap.size := Ne.symm HNE.out.2.2.1
    have hdr : ∀ (W : World) (b : Nat), W.drew.heap[b]? = W.heap[b]? := fun _ _ => rfl
    have hgv : w.heap.size ≤ w.heap.size + 1 := Nat.le_succ _
    have hgo : w.heap.size ≤ w.heap.size + 1 + 1 := Nat.le_succ_of_le (Nat.le_succ _)
    have hvo : w.heap.size + 1 ≠ w.heap.size + 1 + 1 := by omega
    have hbv8 : (((((((((w7.setCell ⟨w.heap.size + 1, 0, none⟩ (.int .i64 0)).setCell ⟨w.heap.size + 1, 1, none⟩ (.int .i64 0)).setCell ⟨w.heap.size + 1, 2, none⟩ (.string ⟨#[]⟩)).setCell ⟨w.heap.size + 1, 3, none⟩ (.slice none 0 0)).setCell ⟨w.heap.size + 1 + 1, 0, none⟩ (.int .i64 s'.err)).setCell ⟨w.heap.size + 1 + 1, 1, none⟩ (.int .i64 s'.fault)).setCell ⟨w.heap.size + 1 + 1, 2, none⟩ (.string ⟨#[]⟩)).setCell ⟨w.heap.size + 1 + 1, 3, none⟩ (.slice At s'.trace.length ct)).drew).heap[w.heap.size + 1]? = some (.cells #[.int .i64 0, .int .i64 0, .string ⟨#[]⟩, .slice none 0 0] 34) := by
      rw [hdr, set_other _ _ _ _ hvo, set_other _ _ _ _ hvo, set_other _ _ _ _ hvo, set_other _ _ _ _ hvo]
      exact set_cells (set_cells (set_cells (set_cells HVO.out.1 0 _) 1 _) 2 _) 3 _
    have hbo8 : (((((((((w7.setCell ⟨w.heap.size + 1, 0, none⟩ (.int .i64 0)).setCell ⟨w.heap.size + 1, 1, none⟩ (.int .i64 0)).setCell ⟨w.heap.size + 1, 2, none⟩ (.string ⟨#[]⟩)).setCell ⟨w.heap.size + 1, 3, none⟩ (.slice none 0 0)).setCell ⟨w.heap.size + 1 + 1, 0, none⟩ (.int .i64 s'.err)).setCell ⟨w.heap.size + 1 + 1, 1, none⟩ (.int .i64 s'.fault)).setCell ⟨w.heap.size + 1 + 1, 2, none⟩ (.string ⟨#[]⟩)).setCell ⟨w.heap.size + 1 + 1, 3, none⟩ (.slice At s'.trace.length ct)).drew).heap[w.heap.size + 1 + 1]? = some (.cells #[.int .i64 s'.err, .int .i64 s'.fault, .string ⟨#[]⟩, .slice At s'.trace.length ct] 37) := by
      rw [hdr]
      exact set_cells (set_cells (set_cells (set_cells (show _ = some zeroO from by rw [set_other _ _ _ _ (Ne.symm hvo), set_other _ _ _ _ (Ne.symm hvo), set_other _ _ _ _ (Ne.symm hvo), set_other _ _ _ _ (Ne.symm hvo)]; exact HVO.out.2) 0 _) 1 _) 2 _) 3 _
    have hbe8 : Below w.heap.size w7 (((((((((w7.setCell ⟨w.heap.size + 1, 0, none⟩ (.int .i64 0)).setCell ⟨w.heap.size + 1, 1, none⟩ (.int .i64 0)).setCell ⟨w.heap.size + 1, 2, none⟩ (.string ⟨#[]⟩)).setCell ⟨w.heap.size + 1, 3, none⟩ (.slice none 0 0)).setCell ⟨w.heap.size + 1 + 1, 0, none⟩ (.int .i64 s'.err)).setCell ⟨w.heap.size + 1 + 1, 1, none⟩ (.int .i64 s'.fault)).setCell ⟨w.heap.size + 1 + 1, 2, none⟩ (.string ⟨#[]⟩)).setCell ⟨w.heap.size + 1 + 1, 3, none⟩ (.slice At s'.trace.length ct)).drew) := (((((((((Below.refl _ w7).setCell (p := ⟨w.heap.size + 1, 0, none⟩) hgv _).setCell (p := ⟨w.heap.size + 1, 1, none⟩) hgv _).setCell (p := ⟨w.heap.size + 1, 2, none⟩) hgv _).setCell (p := ⟨w.heap.size + 1, 3, none⟩) hgv _).setCell (p := ⟨w.heap.size + 1 + 1, 0, none⟩) hgo _).setCell (p := ⟨w.heap.size + 1 + 1, 1, none⟩) hgo _).setCell (p := ⟨w.heap.size + 1 + 1, 2, none⟩) hgo _).setCell (p := ⟨w.heap.size + 1 + 1, 3, none⟩) hgo _).drew
    have hkeep8 : ∀ b, b ≠ w.heap.size + 1 → b ≠ w.heap.size + 1 + 1 → (((((((((w7.setCell ⟨w.heap.size + 1, 0, none⟩ (.int .i64 0)).setCell ⟨w.heap.size + 1, 1, none⟩ (.int .i64 0)).setCell ⟨w.heap.size + 1, 2, none⟩ (.string ⟨#[]⟩)).setCell ⟨w.heap.size + 1, 3, none⟩ (.slice none 0 0)).setCell ⟨w.heap.size + 1 + 1, 0, none⟩ (.int .i64 s'.err)).setCell ⟨w.heap.size + 1 + 1, 1, none⟩ (.int .i64 s'.fault)).setCell ⟨w.heap.size + 1 + 1, 2, none⟩ (.string ⟨#[]⟩)).setCell ⟨w.heap.size + 1 + 1, 3, none⟩ (.slice At s'.trace.length ct)).drew).heap[b]? = w7.heap[b]? := fun b h1 h2 => by
      rw [hdr, set_other _ _ _ _ h2, set_other _ _ _ _ h2, set_other _ _ _ _ h2, set_other _ _ _ _ h2, set_other _ _ _ _ h1, set_other _ _ _ _ h1, set_other _ _ _ _ h1, set_other _ _ _ _ h1]
    have hrd8 : Rd (((((((((w7.setCell ⟨w.heap.size + 1, 0, none⟩ (.int .i64 0)).setCell ⟨w.heap.size + 1, 1, none⟩ (.int .i64 0)).setCell ⟨w.heap.size + 1, 2, none⟩ (.string ⟨#[]⟩)).setCell ⟨w.heap.size + 1, 3, none⟩ (.slice none 0 0)).setCell ⟨w.heap.size + 1 + 1, 0, none⟩ (.int .i64 s'.err)).setCell ⟨w.heap.size + 1 + 1, 1, none⟩ (.int .i64 s'.fault)).setCell ⟨w.heap.size + 1 + 1, 2, none⟩ (.string ⟨#[]⟩)).setCell ⟨w.heap.size + 1 + 1, 3, none⟩ (.slice At s'.trace.length ct)).drew) 1 At s'.trace.length (strs s'.trace) := HRD8.out _ hkeep8
    have HND := Lib.hid (And.intro hbv8 (And.intro hbo8 (And.intro hbe8 hrd8)))
    clear hbv8 hbo8 hbe8 hkeep8 hrd8 hdr hgv hgo hvo
    go_region_law fail
    all_goals
      generalize ((((((((w7.setCell ⟨w.heap.size + 1, 0, none⟩ (.int .i64 0)).setCell ⟨w.heap.size + 1, 1, none⟩ (.int .i64 0)).setCell ⟨w.heap.size + 1, 2, none⟩ (.string ⟨#[]⟩)).setCell ⟨w.heap.size + 1, 3, none⟩ (.slice none 0 0)).setCell ⟨w.heap.size + 1 + 1, 0, none⟩ (.int .i64 s'.err)).setCell ⟨w.heap.size + 1 + 1, 1, none⟩ (.int .i64 s'.fault)).setCell ⟨w.heap.size + 1 + 1, 2, none⟩ (.string ⟨#[]⟩)).setCell ⟨w.heap.size + 1 + 1, 3, none⟩ (.slice At s'.trace.length ct)).drew = WF at *
      clear c0 m0 m1 m2 m3 x0 x1 x2 x3 y0 y1 y2 y3 zv0 zv1 zv2 zv3 zo0 zo1 zo2 zo3
      go_wp2_with fail
      exact core_ret HND.out.1 HND.out.2.1 _ rfl rfl ⟨n, s', At, ct, _, rfl, HS.out.1, HS.out.2.1, HND.out.2.2.2, H6.out.2.2.2.2.2.2, HS.out.2.2.1, H6.out.2.2.2.2.2.1.trans ((HB7.out.mono H6.out.2.2.2.2.2.1.size).trans HND.out.2.2.1), .inl ⟨HS.out.2.2.2, rfl⟩⟩
  · have H6 := Lib.hid (And.intro hbm (And.intro hbv (And.intro hbo (And.intro hhd (And.intro hrd (And.intro hbW (And.intro hc1 hc2)))))))
    have hvg := hiv.dat.vals z (by rw [hz]; exact List.mem_singleton_self z)
    have HS := Lib.hid (And.intro hs (And.intro hdn (And.intro hnt (And.intro he (And.intro hz hvg.sort_)))))
    have hTT : T ≤ 16000 := by have := HG.out.2.2.1; rw [mu_start] at hTm; omega
    have HNE := Lib.hid (show (w4.heap.size ≠ w.heap.size + 1 ∧ W2.heap.size ≠ w.heap.size + 1) ∧ (w4.heap.size ≠ w.heap.size + 1 + 1 ∧ W2.heap.size ≠ w.heap.size + 1 + 1) from ⟨⟨by omega, by omega⟩, by omega, by omega⟩) |> fun k => Lib.hid (And.intro k.out.1.1 (And.intro k.out.1.2 k.out.2))
    have hMD : (4000000 + T) * (T + 1) ≤ 1000000000000 := Nat.le_trans (Nat.mul_le_mul (show 4000000 + T ≤ 4016000 by omega) (show T + 1 ≤ 16001 by omega)) (by decide)
    have HVR := Lib.hid (And.intro hvr (And.intro hvg (And.intro (show 4000000 + T ≤ 100000000 by omega) hMD)))
    clear hkeep hs hdn hiv hTm hhd htr hbw hmvn h25 h45 hbm hs2 hb25 hbv hbo hbW hnt hc1 hc2 hrd c0 hvr hvg hz hTT hMD
    go_upto_region 3 with fail
    have hb7 : Below w6.heap.size w6 (w6.alloc (boxV z A c p)) := (Below.refl _ _).alloc (Nat.le_refl _) _
    have HB7 := Lib.hid hb7
    obtain ⟨c0⟩ : Nonempty ((w6.alloc (boxV z A c p)).cell? ⟨w4.heap.size, 0, none⟩ = some (.pointer (some ⟨W2.heap.size, 0, none⟩))) := ⟨cell_below hb7 (by rw [Lib.cell_of_heap H6.out.1]; rfl)⟩
    have hm := (hb7.block _ (lt_of_heap H6.out.2.2.2.1)).trans H6.out.2.2.2.1
    obtain ⟨m0, m1, m2, m3, _⟩ := cells11 hm
    have hv7 := (hb7.block _ (lt_of_heap H6.out.2.1)).trans H6.out.2.1
    have ho7 := (hb7.block _ (lt_of_heap H6.out.2.2.1)).trans H6.out.2.2.1
    have HTOLD := Lib.hid (fun (V : World) (hV : Below (w6.alloc (boxV z A c p)).heap.size (w6.alloc (boxV z A c p)) V) => told_any (w := V) (vb := w6.heap.size) ((hV.block _ (lt_of_heap (heap_new (w := w6) (o := boxV z A c p) rfl))).trans (heap_new (w := w6) (o := boxV z A c p) rfl)) (HVR.out.1.keep (Tr.below (below_then hb7 hV))) HVR.out.2.1 HVR.out.2.2.1 HVR.out.2.2.2)
    generalize w6.alloc (boxV z A c p) = w7 at *
    obtain ⟨x0, x1, x2, x3⟩ := cells4 hv7
    obtain ⟨y0, y1, y2, y3⟩ := cells4 ho7
    have zv0 := frozenN hv7 0
    have zv1 := frozenN hv7 1
    have zv2 := frozenN hv7 2
    have zv3 := frozenN hv7 3
    have zo0 := frozenN ho7 0
    have zo1 := frozenN ho7 1
    have zo2 := frozenN ho7 2
    have zo3 := frozenN ho7 3
    rw [HS.out.2.2.2.1] at m0
    have HVO := Lib.hid (And.intro hv7 ho7)
    clear hb7 hm hv7 ho7
    go_upto_region 5 with fail
    have ne1 : ¬ W2.heap.size = w.heap.size + 1 := HNE.out.2.1
    have ne1' : ¬ w.heap.size + 1 = W2.heap.size := Ne.symm HNE.out.2.1
    have ne2 : ¬ W2.heap.size = w.heap.size + 1 + 1 := HNE.out.2.2.2
    have ne2' : ¬ w.heap.size + 1 + 1 = W2.heap.size := Ne.symm HNE.out.2.2.2
    have ne3 : ¬ w4.heap.size = w.heap.size + 1 := HNE.out.1
    have ne3' : ¬ w.heap.size + 1 = w4.heap.size := Ne.symm HNE.out.1
    have ne4 : ¬ w4.heap.size = w.heap.size + 1 + 1 := HNE.out.2.2.1
    have ne4' : ¬ w.heap.size + 1 + 1 = w4.heap.size := Ne.symm HNE.out.2.2.1
    go_region_law (go_simp; go_at_call 29; (with_reducible refine (HTOLD.out _ (below_drew1 w7)).mono ?_); rintro e1 w8 ⟨⟨A9, c9, rfl⟩, hb8⟩; have HB8 := Lib.hid (below_then (below_drew1 w7) hb8); have c0' := cell_below hb8 c0; have m0' := cell_below hb8 m0; have m1' := cell_below hb8 m1; have m2' := cell_below hb8 m2; have m3' := cell_below hb8 m3; have hv8 := (HB8.out.block _ (lt_of_heap HVO.out.1)).trans HVO.out.1; have ho8 := (HB8.out.block _ (lt_of_heap HVO.out.2)).trans HVO.out.2; obtain ⟨x0', x1', x2', x3'⟩ := cells4 hv8; obtain ⟨y0', y1', y2', y3'⟩ := cells4 ho8; have zv0' := frozenN hv8 0; have zv1' := frozenN hv8 1; have zv2' := frozenN hv8 2; have zv3' := frozenN hv8 3; have zo0' := frozenN ho8 0; have zo1' := frozenN ho8 1; have zo2' := frozenN ho8 2; have zo3' := frozenN ho8 3; have HVO8 := Lib.hid (And.intro hv8 ho8); clear hb8 hv8 ho8)
    all_goals
      have hgv : w.heap.size ≤ w.heap.size + 1 := Nat.le_succ _
      have hgo : w.heap.size ≤ w.heap.size + 1 + 1 := Nat.le_succ_of_le (Nat.le_succ _)
      have hvo : w.heap.size + 1 ≠ w.heap.size + 1 + 1 := by omega
      have hbv8 : (((((((((w8.setCell ⟨w.heap.size + 1, 0, none⟩ (.int .i64 z.sort)).setCell ⟨w.heap.size + 1, 1, none⟩ (.int .i64 z.n)).setCell ⟨w.heap.size + 1, 2, none⟩ (.string (bstr z.s))).setCell ⟨w.heap.size + 1, 3, none⟩ (.slice A9 z.l.length c9)).setCell ⟨w.heap.size + 1 + 1, 0, none⟩ (.int .i64 0)).setCell ⟨w.heap.size + 1 + 1, 1, none⟩ (.int .i64 s'.fault)).setCell ⟨w.heap.size + 1 + 1, 2, none⟩ (.string ⟨#[]⟩)).setCell ⟨w.heap.size + 1 + 1, 3, none⟩ (.slice At s'.trace.length ct))).heap[w.heap.size + 1]? = some (.cells #[.int .i64 z.sort, .int .i64 z.n, .string (bstr z.s), .slice A9 z.l.length c9] 34) := by
        rw [set_other _ _ _ _ hvo, set_other _ _ _ _ hvo, set_other _ _ _ _ hvo, set_other _ _ _ _ hvo]
        exact set_cells (set_cells (set_cells (set_cells HVO8.out.1 0 _) 1 _) 2 _) 3 _
      have hbo8 : (((((((((w8.setCell ⟨w.heap.size + 1, 0, none⟩ (.int .i64 z.sort)).setCell ⟨w.heap.size + 1, 1, none⟩ (.int .i64 z.n)).setCell ⟨w.heap.size + 1, 2, none⟩ (.string (bstr z.s))).setCell ⟨w.heap.size + 1, 3, none⟩ (.slice A9 z.l.length c9)).setCell ⟨w.heap.size + 1 + 1, 0, none⟩ (.int .i64 0)).setCell ⟨w.heap.size + 1 + 1, 1, none⟩ (.int .i64 s'.fault)).setCell ⟨w.heap.size + 1 + 1, 2, none⟩ (.string ⟨#[]⟩)).setCell ⟨w.heap.size + 1 + 1, 3, none⟩ (.slice At s'.trace.length ct))).heap[w.heap.size + 1 + 1]? = some (.cells #[.int .i64 0, .int .i64 s'.fault, .string ⟨#[]⟩, .slice At s'.trace.length ct] 37) := set_cells (set_cells (set_cells (set_cells (show _ = some zeroO from by rw [set_other _ _ _ _ (Ne.symm hvo), set_other _ _ _ _ (Ne.symm hvo), set_other _ _ _ _ (Ne.symm hvo), set_other _ _ _ _ (Ne.symm hvo)]; exact HVO8.out.2) 0 _) 1 _) 2 _) 3 _
      have hbe8 : Below w.heap.size w8 (((((((((w8.setCell ⟨w.heap.size + 1, 0, none⟩ (.int .i64 z.sort)).setCell ⟨w.heap.size + 1, 1, none⟩ (.int .i64 z.n)).setCell ⟨w.heap.size + 1, 2, none⟩ (.string (bstr z.s))).setCell ⟨w.heap.size + 1, 3, none⟩ (.slice A9 z.l.length c9)).setCell ⟨w.heap.size + 1 + 1, 0, none⟩ (.int .i64 0)).setCell ⟨w.heap.size + 1 + 1, 1, none⟩ (.int .i64 s'.fault)).setCell ⟨w.heap.size + 1 + 1, 2, none⟩ (.string ⟨#[]⟩)).setCell ⟨w.heap.size + 1 + 1, 3, none⟩ (.slice At s'.trace.length ct))) := ((((((((Below.refl _ w8).setCell (p := ⟨w.heap.size + 1, 0, none⟩) hgv _).setCell (p := ⟨w.heap.size + 1, 1, none⟩) hgv _).setCell (p := ⟨w.heap.size + 1, 2, none⟩) hgv _).setCell (p := ⟨w.heap.size + 1, 3, none⟩) hgv _).setCell (p := ⟨w.heap.size + 1 + 1, 0, none⟩) hgo _).setCell (p := ⟨w.heap.size + 1 + 1, 1, none⟩) hgo _).setCell (p := ⟨w.heap.size + 1 + 1, 2, none⟩) hgo _).setCell (p := ⟨w.heap.size + 1 + 1, 3, none⟩) hgo _
      have hkeep8 : ∀ b, b ≠ w.heap.size + 1 → b ≠ w.heap.size + 1 + 1 → (((((((((w8.setCell ⟨w.heap.size + 1, 0, none⟩ (.int .i64 z.sort)).setCell ⟨w.heap.size + 1, 1, none⟩ (.int .i64 z.n)).setCell ⟨w.heap.size + 1, 2, none⟩ (.string (bstr z.s))).setCell ⟨w.heap.size + 1, 3, none⟩ (.slice A9 z.l.length c9)).setCell ⟨w.heap.size + 1 + 1, 0, none⟩ (.int .i64 0)).setCell ⟨w.heap.size + 1 + 1, 1, none⟩ (.int .i64 s'.fault)).setCell ⟨w.heap.size + 1 + 1, 2, none⟩ (.string ⟨#[]⟩)).setCell ⟨w.heap.size + 1 + 1, 3, none⟩ (.slice At s'.trace.length ct))).heap[b]? = w8.heap[b]? := fun b h1 h2 => by
        rw [set_other _ _ _ _ h2, set_other _ _ _ _ h2, set_other _ _ _ _ h2, set_other _ _ _ _ h2, set_other _ _ _ _ h1, set_other _ _ _ _ h1, set_other _ _ _ _ h1, set_other _ _ _ _ h1]
      have hrd8 : Rd (((((((((w8.setCell ⟨w.heap.size + 1, 0, none⟩ (.int .i64 z.sort)).setCell ⟨w.heap.size + 1, 1, none⟩ (.int .i64 z.n)).setCell ⟨w.heap.size + 1, 2, none⟩ (.string (bstr z.s))).setCell ⟨w.heap.size + 1, 3, none⟩ (.slice A9 z.l.length c9)).setCell ⟨w.heap.size + 1 + 1, 0, none⟩ (.int .i64 0)).setCell ⟨w.heap.size + 1 + 1, 1, none⟩ (.int .i64 s'.fault)).setCell ⟨w.heap.size + 1 + 1, 2, none⟩ (.string ⟨#[]⟩)).setCell ⟨w.heap.size + 1 + 1, 3, none⟩ (.slice At s'.trace.length ct))) 1 At s'.trace.length (strs s'.trace) := rd_keepP (P := fun b => b ≠ w.heap.size + 1 ∧ b ≠ w.heap.size + 1 + 1) ((H6.out.2.2.2.2.1.below HB7.out).below HB8.out) HTB.out (fun b hb _ => hkeep8 b hb.1 hb.2)
      have HND := Lib.hid (And.intro hbv8 (And.intro hbo8 (And.intro hbe8 hrd8)))
      clear hbv8 hbo8 hbe8 hkeep8 hrd8 hgv hgo hvo
      clear c0 m0 m1 m2 m3 x0 x1 x2 x3 y0 y1 y2 y3 zv0 zv1 zv2 zv3 zo0 zo1 zo2 zo3 c0' m0' m1' m2' m3' x0' x1' x2' x3' y0' y1' y2' y3' zv0' zv1' zv2' zv3' zo0' zo1' zo2' zo3'
      go_wp2_with fail
      exact core_ret HND.out.1 HND.out.2.1 _ rfl rfl ⟨n, s', At, ct, _, by rw [HS.out.2.2.2.1], HS.out.1, HS.out.2.1, HND.out.2.2.2, H6.out.2.2.2.2.2.2, HS.out.2.2.1, H6.out.2.2.2.2.2.1.trans (((HB7.out.mono H6.out.2.2.2.2.2.1.size).trans (HB8.out.mono (Nat.le_trans H6.out.2.2.2.2.2.1.size HB7.out.size))).trans HND.out.2.2.1), .inr ⟨HS.out.2.2.2.1, z, A9, c9, HS.out.2.2.2.2.1, HS.out.2.2.2.2.2, rfl⟩⟩
end Go.Proofs.YtpdfjdomjklkbaaGreatDoor

namespace Go.Proofs.YtpdfjdomjklkbaaGreatDoor
open Go.ChangeShapes Go.WideShapes Go.ChangeAt Go.RowKit Go.Sort
set_option linter.unusedVariables false
set_option linter.unusedSimpArgs false

/-- The document's example. -/
def leafEx (n : Int) : Ex := .mk ⟨1, n, [], [], none, 0, 0, [], none, 0, 0⟩ []
def sumEx (g : Nat) : Ex := .mk ⟨16, 0, [43], [], none, 0, 0, [], some ⟨g, 0, none⟩, 2, 2⟩ [leafEx 2, leafEx 3]
theorem leaf_in (w : World) (n : Int) : (leafEx n).In w := .mk _ _ (Rd.nil w 1 none) (Rd.nil w 6 none) ⟨⟨Nat.le_refl _, Nat.zero_le _, Nat.zero_le _⟩, ⟨Nat.le_refl _, Nat.zero_le _, Nat.zero_le _⟩, Nat.zero_le _, Nat.zero_le _, fun s hs => nomatch hs⟩ (fun x hx => nomatch hx)
theorem leaf_g (n : Int) (h : -9223372036854775808 ≤ n ∧ n ≤ 9223372036854775807) : ExG (leafEx n) := .mk _ _ h (Nat.zero_le _) rfl (Nat.zero_le _) rfl (fun x hx => nomatch hx)
theorem sum_g (g : Nat) : ExG (sumEx g) := .mk _ _ (show (-9223372036854775808 : Int) ≤ 0 ∧ (0 : Int) ≤ 9223372036854775807 by decide) (show 1 ≤ 4000000 by decide) rfl (show 2 ≤ 4000000 by decide) rfl (fun x hx => by
  rcases List.mem_cons.1 hx with rfl | hx
  · exact leaf_g 2 (by decide)
  · rw [List.mem_singleton.1 hx]; exact leaf_g 3 (by decide))
set_option maxRecDepth 100000 in
theorem sum_any (w : World) :
    Calls Tryz.prog 14 #[] w fun e w' => ∃ g, e = .returned (.agg (sumEx g).d.arr) ∧ (sumEx g).In w' ∧ Below w.heap.size w w' := by
  go_enter Tryz.func14, Tryz.ntmps14
  go_wp2_with fail
  go_returns
  have hr := Rd.lit (size := 6) (n := 2) (w.alloc (.cells #[.int .i64 16, .int .i64 0, .string ⟨#[43]⟩, .string ⟨#[]⟩, .slice none 0 0, .slice (some ⟨w.heap.size + 1, 0, none⟩) 2 2] 25)) #[.int .i64 1, .int .i64 2, .string ⟨#[]⟩, .string ⟨#[]⟩, .slice none 0 0, .slice none 0 0, .int .i64 1, .int .i64 3, .string ⟨#[]⟩, .string ⟨#[]⟩, .slice none 0 0, .slice none 0 0] 25 rfl (fr := (0, 0))
  rw [World.size_alloc] at hr
  refine ⟨w.heap.size + 1, rfl, .mk _ _ (Rd.nil _ 1 none) hr ⟨⟨Nat.le_refl _, Nat.zero_le _, Nat.zero_le _⟩, ⟨Nat.le_refl _, by simp [maxLen], show 2 ≤ 4000000 by decide⟩, show 1 ≤ 4000000 by decide, Nat.zero_le _, fun s hs => nomatch hs⟩ (fun x hx => ?_), ((Below.refl _ _).alloc (Nat.le_refl _) _).alloc (by rw [World.size_alloc]; omega) _⟩
  rcases List.mem_cons.1 hx with rfl | hx
  · exact leaf_in _ 2
  · rw [List.mem_singleton.1 hx]; exact leaf_in _ 3
theorem enodes_take (l : List Ex) (k : Nat) (h : k < l.length) : enodesL (l.take (k + 1)) = enodesL (l.take k) + (l[k]).nodes := by
  rw [List.take_succ_eq_append_getElem h, enodesL_snoc]
theorem enodes_le (l : List Ex) (k : Nat) : enodesL (l.take k) ≤ enodesL l := by
  induction l generalizing k with
  | nil => simp
  | cons x l ih =>
    cases k with
    | zero => simp [enodesL]
    | succ k => have := ih k; simp only [List.take_succ_cons, enodesL]; omega
set_option maxRecDepth 100000 in
set_option maxHeartbeats 2000000 in
theorem nodes_any (w0 : World) (t : Ex) (hIn : t.In w0) : t.nodes ≤ 1000000 → ∀ (b o : Nat) (w : World), Below w0.heap.size w0 w → t.d.At w b o →
    Calls Tryz.prog 22 #[.pointer (some ⟨b, o, none⟩)] w fun e w' => e = .returned (.int .i64 t.nodes) ∧ Below w.heap.size w w' := by
  induction hIn with
  | mk d l nam par cap sub ih =>
  intro hnd b o w hb hAt
  have hII : (Ex.mk d l).In w0 := .mk d l nam par cap sub
  have hlen : l.length = d.pn := hII.len
  have hpn : d.pn ≤ 4000000 := cap.2.1.2.2
  have hnd' : 1 + enodesL l ≤ 1000000 := by simpa [Ex.nodes] using hnd
  have HI := Lib.hid (And.intro hII (And.intro hb (And.intro hAt hnd')))
  have HIH := Lib.hid ih
  have c5 : w.cell? ⟨b, o + 5, none⟩ = some (.slice d.pA d.pn d.pc) := hAt.c5
  rw [← hlen] at c5
  rw [show (Ex.mk d l).nodes = 1 + enodesL l by simp [Ex.nodes]]
  clear hII hnd hb hAt hnd' nam par cap sub ih
  go_enter Tryz.func22, Tryz.ntmps22
  go_wp2_with fail
  go_loopw [3, 4, 10] (fun n _ i wr => ∃ k : Nat, i = .int .i64 k ∧ k ≤ l.length ∧ n = .int .i64 ((1 + enodesL (l.take k) : Nat) : Int) ∧ Below w.heap.size w wr) (fun _ _ i _ => l.length - (intOf i).toNat)
  case atStart => exact ⟨0, rfl, Nat.zero_le _, by simp [enodesL], Below.refl _ _⟩
  case round =>
    obtain ⟨k, rfl, hk, rfl, hbr⟩ := hrel
    by_cases hlt : k < l.length
    · obtain ⟨pb, po, hpA, hat⟩ := HI.out.1.part (k := k) hlt
      have hak : (l[k]).d.At w0 pb (po + k * 6) := hat k hlt
      have ht := enodes_take l k hlt
      have hle := enodes_le l (k + 1)
      have hbW := below_then HI.out.2.1 hbr
      have hnk : (l[k]).nodes ≤ 1000000 := by have := HI.out.2.2.2; omega
      have HC := Lib.hid (HIH.out l[k] (List.getElem_mem hlt) hnk pb (po + k * 6) wr hbW (hak.lower hbW))
      have c5' := cell_below hbr c5
      have hpA' : d.pA = some ⟨pb, po, none⟩ := hpA
      rw [hpA'] at c5'
      obtain ⟨S, hS⟩ : ∃ S, enodesL (l.take k) = S := ⟨_, rfl⟩
      obtain ⟨Q, hQ⟩ : ∃ Q, (l[k]).nodes = Q := ⟨_, rfl⟩
      rw [hQ] at HC
      rw [hS, hQ] at ht
      have HT := Lib.hid ht
      have HB := Lib.hid hbr
      have n0 : (0 : Int) ≤ (k : Int) := by omega
      have n1 : (k : Int) < (l.length : Int) := by omega
      have n3 : (S : Int) + (Q : Int) ≤ 1000000 := by have := HI.out.2.2.2; omega
      have n2 : (l.length : Int) ≤ 4000000 := by omega
      rw [hS]
      clear ht hle hbW hnk hbr hat hak hpA hpA' hS hQ c5
      go_wp2_with (go_at_call 22; (with_reducible refine HC.out.mono ?_); rintro e w2 ⟨rfl, hb2⟩; have HB2 := Lib.hid (below_then HB.out hb2); clear hb2)
      go_roundw
      case rel => exact ⟨k + 1, by go_num, by omega, by rw [HT.out]; go_num, HB2.out⟩
      case measure => simp [intOf] <;> omega
    · have hkk : k = l.length := by omega
      subst hkk
      rw [List.take_length]
      have HB := Lib.hid hbr
      clear hbr hk
      go_wp2_with fail
      go_returns
      exact ⟨rfl, HB.out⟩
theorem Nodes_any (w : World) (t : Ex) (hIn : t.In w) (hn : t.nodes ≤ 1000000) :
    Calls Tryz.prog 9 #[.agg t.d.arr] w fun e w' => e = .returned (.int .i64 t.nodes) ∧ Below w.heap.size w w' := by
  have hb : Below w.heap.size w (w.alloc (.cells t.d.arr 25)) := (Below.refl _ _).alloc (Nat.le_refl _) _
  have HC := Lib.hid (nodes_any w t hIn hn w.heap.size 0 _ hb (ex_box w t.d))
  have HB := Lib.hid hb
  clear hb hIn hn
  go_enter Tryz.func9, Tryz.ntmps9
  go_wp2_with (go_at_call 22; (with_reducible refine HC.out.mono ?_); rintro e w2 ⟨rfl, hb2⟩; have HB2 := Lib.hid (below_then HB.out hb2); clear hb2)
  go_returns
  exact ⟨rfl, HB2.out⟩
end Go.Proofs.YtpdfjdomjklkbaaGreatDoor

namespace Go.Proofs.YtpdfjdomjklkbaaGreatDoor
open Go.ChangeShapes Go.WideShapes Go.ChangeAt Go.RowKit Go.Sort
set_option linter.unusedVariables false
set_option linter.unusedSimpArgs false

theorem run_add (m n : Nat) (s : St) : St.run (m + n) s = St.run n (St.run m s) := by
  induction m generalizing s with
  | zero => rw [Nat.zero_add]; rfl
  | succ m ih => rw [show m + 1 + n = (m + n) + 1 by omega]; exact ih s.step
theorem run_uniq {n m : Nat} {s : St} (h : (St.run n s).done) (h2 : (St.run m s).done) : St.run n s = St.run m s := by
  rcases Nat.le_total n m with q | q
  · obtain ⟨d, rfl⟩ := Nat.exists_eq_add_of_le q
    rw [run_add, run_done h]
  · obtain ⟨d, rfl⟩ := Nat.exists_eq_add_of_le q
    rw [run_add, run_done h2]
theorem sum3 (g : Nat) : St.run 6 (St.mk1 [] 3 (sumEx g)) = { err := 0, fault := 0, trace := [], input := [], fuel := 0, refs := [], vals := [.mk 1 5 [] [] none], frames := [], next := none } := by kernel_rfl
theorem sum2 (g : Nat) : (St.run 5 (St.mk1 [] 2 (sumEx g))).err = 8 := by kernel_rfl
/-- What core.Run tells, in one form. -/
structure Told (s' : St) (k n : Int) (t : Str) (len : Nat) : Prop where
  bad : s'.err ≠ 0 → k = 0
  same : s'.err ≠ 0 → k = 0 ∧ n = 0 ∧ t = [] ∧ len = 0
  good : s'.err = 0 → ∃ z, s'.vals = [z] ∧ 1 ≤ z.sort ∧ k = z.sort ∧ n = z.n ∧ t = z.s ∧ len = z.l.length
theorem coreRes_told {w : World} {input : List Str} {fuel : Int} {e : Ex} {e1 : Ending} {w' : World} (h : CoreRes w input fuel e e1 w') : ∃ (m : Nat) (s' : St) (At : Option Addr) (ct : Nat) (k n : Int) (t : Str) (A : Option Addr) (len c : Nat), e1 = .returned (.tuple #[.agg #[.int .i64 k, .int .i64 n, .string (bstr t), .slice A len c], .agg #[.int .i64 s'.err, .int .i64 s'.fault, .string ⟨#[]⟩, .slice At s'.trace.length ct]]) ∧ s' = St.run m (St.mk1 input fuel e) ∧ s'.done ∧ Rd w' 1 At s'.trace.length (strs s'.trace) ∧ (s'.trace.length ≤ ct ∧ ct ≤ maxLen) ∧ s'.trace.length ≤ 100000 ∧ Below w.heap.size w w' ∧ Told s' k n t len := by
  obtain ⟨m, s', At, ct, v, h1, h2, h3, h4, h5, h6, h7, h8⟩ := h
  rcases h8 with ⟨he, rfl⟩ | ⟨he, z, A, c, hz, hs, rfl⟩
  · exact ⟨m, s', At, ct, 0, 0, [], none, 0, 0, h1, h2, h3, h4, h5, h6, h7, ⟨fun _ => rfl, fun _ => ⟨rfl, rfl, rfl, rfl⟩, fun q => absurd q he⟩⟩
  · exact ⟨m, s', At, ct, z.sort, z.n, z.s, A, z.l.length, c, h1, h2, h3, h4, h5, h6, h7, ⟨fun q => absurd he q, fun q => absurd he q, fun _ => ⟨z, hz, hs.1, rfl, rfl, rfl, rfl⟩⟩⟩
abbrev boxT (k n : Int) (t : Str) (A : Option Addr) (len c : Nat) : Obj := .cells #[.int .i64 k, .int .i64 n, .string (bstr t), .slice A len c] 34
abbrev boxO (err fault : Int) (A : Option Addr) (len c : Nat) : Obj := .cells #[.int .i64 err, .int .i64 fault, .string ⟨#[]⟩, .slice A len c] 37
set_option maxRecDepth 100000 in
set_option maxHeartbeats 4000000 in
theorem up_any (w : World) (hT : Tab w) :
    Calls Tryz.prog 4 #[] w fun e w' => e = .returned (.bool true) ∧ Below w.heap.size w w' := by
  have HN := Lib.hid (fun (V : World) => (show InR V V.heap.size [] (.slice none 0 0) from ⟨none, 0, rfl, ⟨Nat.le_refl _, Nat.zero_le _⟩, Rd.nil V 1 none, fun h => absurd h (Nat.lt_irrefl 0)⟩))
  have HT := Lib.hid hT
  clear hT
  go_enter Tryz.func4, Tryz.ntmps4
  go_wp2_with fail
  refine (sum_any w).mono ?_
  rintro e w1 ⟨g, rfl, hI1, hb1⟩
  have hR1 := coreRun_any w1 (sumEx g) hI1 (sum_g g) [] (.slice none 0 0) (HN.out w1) (by simp) 3 (by decide) (tab_below HT.out hb1)
  have HR1 := Lib.hid hR1
  have HB1 := Lib.hid hb1
  clear hR1 hI1 hb1
  go_wp2_with fail
  refine HR1.out.mono ?_
  intro e w2 hres
  obtain ⟨m1, s1, At1, ct1, k1, n1, t1, A1, len1, c1, rfl, hs1, hd1, hr1, hc1, hn1, hb2, ht1⟩ := coreRes_told hres
  have he1 := run_uniq (n := m1) (m := 6) (by rw [← hs1]; exact hd1) (by rw [sum3]; exact .inr ⟨rfl, rfl⟩)
  rw [← hs1, sum3] at he1
  have hk1 : k1 = 1 ∧ n1 = 5 ∧ s1.err = 0 := by
    obtain ⟨z, hz, _, hk, hn, _⟩ := ht1.good (by rw [he1])
    rw [he1] at hz
    have hz' : z = .mk 1 5 [] [] none := (List.cons.inj hz).1.symm
    rw [hz'] at hk hn
    exact ⟨hk, hn, by rw [he1]⟩
  obtain ⟨rfl, rfl, hz1⟩ := hk1
  have HB2 := Lib.hid (below_then HB1.out hb2)
  rw [hz1]
  clear hres hs1 hd1 hr1 hc1 hn1 hb2 ht1 he1 hz1
  go_upto_region 2 with fail
  obtain ⟨hq1, hq2, hb3⟩ := two_boxes w2 (boxT 1 5 t1 A1 len1 c1) (boxO 0 s1.fault At1 s1.trace.length ct1)
  generalize (w2.alloc (boxT 1 5 t1 A1 len1 c1)).alloc (boxO 0 s1.fault At1 s1.trace.length ct1) = w3 at *
  have HB3 := Lib.hid (below_then HB2.out hb3)
  have HQ := Lib.hid (And.intro hq1 hq2)
  clear hq1 hq2 hb3
  go_wp2_with fail
  refine (sum_any w3).mono ?_
  rintro e w4 ⟨g4, rfl, hI4, hb4⟩
  have HB4 := Lib.hid hb4
  have HR4 := Lib.hid (coreRun_any w4 (sumEx g4) hI4 (sum_g g4) [] (.slice none 0 0) (HN.out w4) (by simp) 2 (by decide) (tab_below HT.out (below_then HB3.out hb4)))
  clear hI4 hb4
  go_wp2_with fail
  refine HR4.out.mono ?_
  intro e w5 hres
  obtain ⟨m2, s2, At2, ct2, k2, n2, t2, A2, len2, c2, rfl, hs2, hd2, hr2, hc2, hn2, hb5, ht2⟩ := coreRes_told hres
  have he2 : s2.err = 8 := by
    have hd5 : (St.run 5 (St.mk1 [] 2 (sumEx g4))).done := .inl (by rw [sum2]; decide)
    have := run_uniq (n := m2) (m := 5) (by rw [← hs2]; exact hd2) hd5
    rw [hs2, this, sum2]
  rw [he2]
  have hb35 := below_then HB4.out hb5
  have hq1 := (hb35.block _ (lt_of_heap HQ.out.1)).trans HQ.out.1
  have hq2 := (hb35.block _ (lt_of_heap HQ.out.2)).trans HQ.out.2
  have HB5 := Lib.hid (below_then HB3.out hb35)
  have HQ5 := Lib.hid (And.intro hq1 hq2)
  clear hres hs2 hd2 hr2 hc2 hn2 hb5 ht2 he2 hb35 hq1 hq2
  go_upto_region 3 with fail
  obtain ⟨hq3, hq4, hb6⟩ := two_boxes w5 (boxT k2 n2 t2 A2 len2 c2) (boxO 8 s2.fault At2 s2.trace.length ct2)
  have hq1 := (hb6.block _ (lt_of_heap HQ5.out.1)).trans HQ5.out.1
  have hq2 := (hb6.block _ (lt_of_heap HQ5.out.2)).trans HQ5.out.2
  generalize (w5.alloc (boxT k2 n2 t2 A2 len2 c2)).alloc (boxO 8 s2.fault At2 s2.trace.length ct2) = w6 at *
  obtain ⟨x0, x1, x2, x3⟩ := cells4 hq1
  obtain ⟨y0, y1, y2, y3⟩ := cells4 hq2
  obtain ⟨v0, v1, v2, v3⟩ := cells4 hq4
  have HB6 := Lib.hid (below_then HB5.out hb6)
  clear hq1 hq2 hq3 hq4 hb6
  go_wp2_with fail
  refine (sum_any w6).mono ?_
  rintro e w7 ⟨g7, rfl, hI7, hb7⟩
  have HB7 := Lib.hid (below_then HB6.out hb7)
  have HNN := Lib.hid (Nodes_any w7 (sumEx g7) hI7 (by show 3 ≤ 1000000; decide))
  clear hI7 hb7 x0 x1 x2 x3 y0 y1 y2 y3 v0 v1 v2 v3
  go_wp2_with fail
  refine HNN.out.mono ?_
  rintro e w8 ⟨rfl, hb8⟩
  have HB8 := Lib.hid (below_then HB7.out hb8)
  have hnn : (sumEx g7).nodes = 3 := rfl
  rw [hnn]
  clear hb8 hnn
  go_wp2_with fail
  go_returns
  exact ⟨rfl, HB8.out⟩
end Go.Proofs.YtpdfjdomjklkbaaGreatDoor
