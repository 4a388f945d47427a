/-
  A row with all put in, by the code: its parts' contracts given.
-/
import Derived.Test.YtklandpagieapaaDoorK08
namespace Go.Proofs.YtklandpagieapaaDoor
open Go.ChangeShapes Go.WideShapes Go.ChangeAt Go.RowKit Go.Sort Go.Maps
set_option linter.unusedVariables false
set_option linter.unusedSimpArgs false
attribute [local irreducible] Go.wpQuiet

theorem own_labels {J : World} {base n c : Nat} {A : Option Addr} {ls : List Str} (h : J.ownsRow base 9 1 (.slice A n c) n (strs ls)) : Rd J 1 A n (strs ls) ∧ (0 < n → ∀ a, A = some a → base ≤ a.block ∧ a.block < J.heap.size) ∧ n ≤ c ∧ c ≤ maxLen := by
  obtain ⟨A', c', e, h1, h2, _⟩ := own_cap h
  injection e with e1 _ e3
  subst e1 e3
  exact ⟨Rd.of_own h, fun _ a ha => h.lt a.block (by rw [ha]; rfl), h1, h2⟩
theorem rd_sets5 {w : World} {n g : Nat} {A : Option Addr} {cs : List Value} (h : Rd w 1 A n cs) (hne : 0 < n → ∀ a, A = some a → a.block ≠ g) (v0 v1 v2 v3 v4 : Value) :
    Rd (((((w.setCell ⟨g, 0, none⟩ v0).setCell ⟨g, 1, none⟩ v1).setCell ⟨g, 2, none⟩ v2).setCell ⟨g, 3, none⟩ v3).setCell ⟨g, 4, none⟩ v4) 1 A n cs :=
  rd_keepP (P := fun b => b ≠ g) h hne (fun b hb _ => (Below.heap_setCell _ ⟨g, 4, none⟩ _ b hb).trans ((Below.heap_setCell _ ⟨g, 3, none⟩ _ b hb).trans ((Below.heap_setCell _ ⟨g, 2, none⟩ _ b hb).trans ((Below.heap_setCell _ ⟨g, 1, none⟩ _ b hb).trans (Below.heap_setCell _ ⟨g, 0, none⟩ _ b hb)))))

set_option maxRecDepth 100000 in
set_option maxHeartbeats 4000000 in
theorem inRow_any {F G : Int → Option Lf} {n1 n2 : Nat} {m1 m2 : Value} {b1 b2 : Nat} (w0 : World) (p : Nat) (hP : PA F G n1 n2 m1 m2 b1 b2 w0 p) (d : TyD) (l : List Ty) (hI : (Ty.mk d l).In w0) (hf : d.fieldsB = true) (hk : d.kind = 4 ∨ d.kind = 5) (gt : (Lit.int .i64 d.tail).wf = true)
    (hX : ∀ x ∈ l, ∀ (b o : Nat) (W : World), x.d.At w0 b o → Below w0.heap.size w0 W → Calls Tryd.prog 20 #[.pointer (some ⟨p, 0, none⟩), .pointer (some ⟨b, o, none⟩)] W (CpR (subR F G x) W))
    (b o : Nat) (W : World) (hAt : d.At w0 b o) (hb : Below w0.heap.size w0 W) :
    Calls Tryd.prog 34 #[.pointer (some ⟨p, 0, none⟩), .pointer (some ⟨b, o, none⟩)] W (CpR (subR F G (.mk d l)) W) := by
  have HE := Lib.hid (fun V (h : Below w0.heap.size w0 V) => (show d.At w0 b o from hAt).lower h)
  have HB := Lib.hid hb
  have HI := Lib.hid hI
  have HX := Lib.hid hX
  have HL := Lib.hid (show l.length = d.pn from hI.len)
  have HLL := Lib.hid (show d.labels.length = d.ln from hI.labLen)
  have HCP := Lib.hid hI.cap
  have HGD := Lib.hid (row_good hk hf)
  have HLB := Lib.hid (show Rd w0 1 d.lA d.ln (strs d.labels) from hI.lab)
  have HK7 := Lib.hid (show ¬ d.kind = 7 by omega)
  have hb0 : Below W.heap.size W (W.alloc (.cells #[.int .i64 0, .int .i64 0, .slice none 0 0, .slice none 0 0, .int .i64 0] 25)) := (Below.refl _ _).alloc (Nat.le_refl _) _
  have HRO := Lib.hid (prow_any p d b o _ (hP.below (below_then hb hb0)) (HE.out _ (below_then hb hb0)) gt)
  have HR0 := Lib.hid (show (W.alloc (.cells #[.int .i64 0, .int .i64 0, .slice none 0 0, .slice none 0 0, .int .i64 0] 25)).heap[W.heap.size]? = some (.cells #[.int .i64 0, .int .i64 0, .slice none 0 0, .slice none 0 0, .int .i64 0] 25) from heap_alloc_new W _)
  have HS0 := Lib.hid (show (W.alloc (.cells #[.int .i64 0, .int .i64 0, .slice none 0 0, .slice none 0 0, .int .i64 0] 25)).heap.size = W.heap.size + 1 from World.size_alloc _ _)
  have HB0 := Lib.hid hb0
  obtain ⟨xr, hxr⟩ : ∃ xr, (rowF G d).getD Lf.zero = xr := ⟨_, rfl⟩
  obtain ⟨bs, hbs⟩ : ∃ bs, (rowF G d).isSome = bs := ⟨_, rfl⟩
  have HS := Lib.hid (show subR F G (.mk d l) = .mk { d with tail := if bs = true then xr.t else d.tail } (subRL F G l) by unfold subR; rw [if_neg (fun h => HK7.out h.1), hxr, hbs])
  rw [hxr, hbs] at HRO
  obtain ⟨tl, htl⟩ : ∃ tl, (if bs = true then xr.t else d.tail) = tl := ⟨_, rfl⟩
  rw [htl] at HS
  have HTL := Lib.hid htl
  clear htl
  clear hI hf hk gt hX hAt hb hP hb0 hxr hbs
  go_enter Tryd.func34, Tryd.ntmps34
  go_wp2_with fail
  refine HRO.out.mono ?_
  rintro e w2 ⟨rfl, hb2⟩
  have hb3 : Below w2.heap.size w2 (w2.alloc (.cells xr.arr 25)) := (Below.refl _ _).alloc (Nat.le_refl _) _
  have H3 := Lib.hid (below_then (below_then HB0.out hb2) hb3)
  have HR3 := Lib.hid (((below_then hb2 hb3).block _ (by rw [HS0.out]; omega)).trans HR0.out)
  have HBX := Lib.hid (heap_alloc_new w2 (.cells xr.arr 25))
  have HSX := Lib.hid (show W.heap.size < w2.heap.size by have := hb2.size; have := HS0.out; omega)
  clear hb2 hb3 HRO HR0 HS0 HB0
  go_upto_region 2 with fail
  generalize (w2.alloc (.cells xr.arr 25)) = w3 at *
  obtain ⟨r5, hr5⟩ : ∃ r, w2.heap.size = r := ⟨_, rfl⟩
  rw [hr5] at HBX HSX ⊢
  clear hr5
  have HW3 := Lib.hid (show ∀ V, Below w3.heap.size w3 V → Below w0.heap.size w0 V from fun V h => below_then (below_then HB.out H3.out) h)
  have CJ : RowKit.Hid (∀ V, Below w3.heap.size w3 V → Calls Tryd.prog 47 #[.slice d.lA d.ln d.lc, .slice xr.lA 0 xr.lc] V fun e w' => ∃ (A : Option Addr) (c : Nat), e = .returned (.slice A d.ln c) ∧ w'.ownsRow V.heap.size 9 1 (.slice A d.ln c) d.ln (strs d.labels) ∧ Below V.heap.size V w') := Lib.hid (fun V h => (join_any d.lA xr.lA d.labels [] d.ln d.lc 0 xr.lc V (HLB.out.below (HW3.out V h)) (Rd.nil _ _ _) HCP.out.2.2.2.2.1 (by omega)).mono (fun e w' hh => by
    obtain ⟨v, he, hown, hbb⟩ := hh
    rw [List.append_nil, setOf_self HGD.out.2.2.2] at hown
    rw [HLL.out] at hown
    obtain ⟨A, c, rfl, _⟩ := own_cap hown
    exact ⟨A, c, he, hown, hbb⟩))
  have HF3 := Lib.hid (show ∀ V, Below w3.heap.size w3 V → d.At V b o ∧ V.heap[r5]? = some (.cells xr.arr 25) from fun V h => ⟨HE.out V (HW3.out V h), (h.block _ (lt_of_heap HBX.out)).trans HBX.out⟩)
  have hbz : Below w3.heap.size w3 (w3.alloc (.cells #[.int .i64 0, .int .i64 0, .slice none 0 0, .slice none 0 0, .int .i64 0] 25)) := (Below.refl _ _).alloc (Nat.le_refl _) _
  have HBZ := Lib.hid hbz
  have HSC := Lib.hid (show ∀ V, Below w3.heap.size w3 V → (V.cell? ⟨b, o, none⟩ = some (.int .i64 d.kind) ∧ V.cell? ⟨b, o + 3, none⟩ = some (.slice d.lA d.ln d.lc) ∧ V.cell? ⟨b, o + 4, none⟩ = some (.int .i64 d.tail) ∧ V.cell? ⟨r5, 3, none⟩ = some (.slice xr.lA 0 xr.lc)) from fun V h => ⟨(HF3.out V h).1.c0, (HF3.out V h).1.c3, (HF3.out V h).1.c4, (cells5 (HF3.out V h).2).2.2.2.1⟩)
  have HD := Lib.hid (show Below w3.heap.size w3 w3.drew from below_drew1 _)
  have HDZ := Lib.hid (show Below w3.heap.size w3 (w3.alloc (.cells #[.int .i64 0, .int .i64 0, .slice none 0 0, .slice none 0 0, .int .i64 0] 25)).drew from below_then hbz (below_drew1 _))
  clear hbz
  go_cut [7] from 16 to 31 (fun v7 wx => ∃ (g : Nat) (A : Option Addr) (c : Nat), v7 = .pointer (some ⟨g, 0, none⟩) ∧ wx.heap[g]? = some (.cells #[.int .i64 d.kind, .int .i64 0, .slice none 0 0, .slice A d.ln c, .int .i64 d.tail] 25) ∧ Below w3.heap.size w3 wx ∧ w3.heap.size ≤ g ∧ Rd wx 1 A d.ln (strs d.labels) ∧ (0 < d.ln → ∀ a, A = some a → w3.heap.size ≤ a.block ∧ a.block ≠ g) ∧ d.ln ≤ c ∧ c ≤ maxLen)
  case first =>
    go_region_held3 (fun V => V.cell? ⟨b, o, none⟩ = some (.int .i64 d.kind) ∧ V.cell? ⟨b, o + 3, none⟩ = some (.slice d.lA d.ln d.lc) ∧ V.cell? ⟨b, o + 4, none⟩ = some (.int .i64 d.tail) ∧ V.cell? ⟨r5, 3, none⟩ = some (.slice xr.lA 0 xr.lc))
      (first | exact HSC.out _ HD.out | exact HSC.out _ HDZ.out | exact HSC.out _ HJ.out.1 | exact HSC.out _ (HJ.out.1.alloc HJ.out.1.size _) | exact HSC.out _ (Below.setCell (p := ⟨w3.heap.size, 4, none⟩) (Below.setCell (p := ⟨w3.heap.size, 3, none⟩) (Below.setCell (p := ⟨w3.heap.size, 2, none⟩) (Below.setCell (p := ⟨w3.heap.size, 1, none⟩) (Below.setCell (p := ⟨w3.heap.size, 0, none⟩) HJ.out.1 (Nat.le_refl _) _) (Nat.le_refl _) _) (Nat.le_refl _) _) (Nat.le_refl _) _) (Nat.le_refl _) _) | fail)
      (first
      | (go_at_call 47; (with_reducible refine (CJ.out _ ?hw).mono ?_); (case hw => exact HD.out); rintro e J ⟨A, c, rfl, hown, hbJ⟩; have HJ := Lib.hid (And.intro (below_then HD.out hbJ) (own_mono hown (show w3.heap.size ≤ w3.drew.heap.size from Nat.le_refl _))); clear hown hbJ)
      | (go_at_call 47; (with_reducible refine (CJ.out _ ?hw).mono ?_); (case hw => exact HDZ.out); rintro e J ⟨A, c, rfl, hown, hbJ⟩; have HJ := Lib.hid (And.intro (below_then HDZ.out hbJ) hown); have HJJ := Lib.hid ((hbJ.block w3.heap.size (by show w3.heap.size < (w3.alloc (.cells #[.int .i64 0, .int .i64 0, .slice none 0 0, .slice none 0 0, .int .i64 0] 25)).heap.size; rw [World.size_alloc]; omega)).trans (heap_alloc_new w3 (.cells #[.int .i64 0, .int .i64 0, .slice none 0 0, .slice none 0 0, .int .i64 0] 25))); obtain ⟨j0, j1, j2, j3, j4⟩ := cells5 HJJ.out; obtain ⟨z0, z1, z2, z3, z4⟩ := frozen5 HJJ.out; clear hown hbJ)
      | fail)
    · go_wp2_with fail
      go_meet
      have h := own_labels HJ.out.2
      exact ⟨J.heap.size, A, c, rfl, heap_alloc_new J _, HJ.out.1.alloc HJ.out.1.size _, HJ.out.1.size, h.1.alloc _, fun hn a ha => ⟨(h.2.1 hn a ha).1, by have := (h.2.1 hn a ha).2; omega⟩, h.2.2.1, h.2.2.2⟩
    · go_wp2_with fail
      go_meet
      have h := own_labels HJ.out.2
      have hsz : (w3.alloc (.cells #[.int .i64 0, .int .i64 0, .slice none 0 0, .slice none 0 0, .int .i64 0] 25)).drew.heap.size = w3.heap.size + 1 := World.size_alloc _ _
      rw [hsz] at h
      exact ⟨w3.heap.size, A, c, rfl, box5 J _ HJJ.out _ _ _ _ _, Below.setCell (p := ⟨w3.heap.size, 4, none⟩) (Below.setCell (p := ⟨w3.heap.size, 3, none⟩) (Below.setCell (p := ⟨w3.heap.size, 2, none⟩) (Below.setCell (p := ⟨w3.heap.size, 1, none⟩) (Below.setCell (p := ⟨w3.heap.size, 0, none⟩) HJ.out.1 (Nat.le_refl _) _) (Nat.le_refl _) _) (Nat.le_refl _) _) (Nat.le_refl _) _) (Nat.le_refl _) _, Nat.le_refl _, rd_sets5 h.1 (fun hn a ha => by have := (h.2.1 hn a ha).1; omega) _ _ _ _ _, fun hn a ha => by have := (h.2.1 hn a ha).1; exact ⟨by omega, by omega⟩, h.2.2.1, h.2.2.2⟩
  case rest =>
  obtain ⟨g, A, c, rfl, hd5, hb5, hg5, hlab, hla, hc1, hc2⟩ := hcut
  have H5 := Lib.hid (And.intro hd5 (And.intro hb5 (And.intro hg5 (And.intro hlab (And.intro hla (And.intro hc1 hc2))))))
  clear hd5 hb5 hg5 hlab hla hc1 hc2 CJ HSC HD HDZ
  have HZ : ∀ (t : Int) (w5 : World), t = tl → w5.heap[g]? = some (.cells #[.int .i64 d.kind, .int .i64 0, .slice none 0 0, .slice A d.ln c, .int .i64 t] 25) → Below w3.heap.size w3 w5 → Rd w5 1 A d.ln (strs d.labels) → PiR W g d.kind 0 A d.ln c d.labels tl (.slice none 0 0) 0 [] (subRL F G l) w5 := fun t w5 ht h1 h2 h3 => ⟨World.ownsRow_nil _ _ _ _, rfl, by rw [List.take_zero]; trivial, (fun y hy => by cases hy), (fun y hy => by cases hy), by rw [← ht]; exact h1, (h2.block _ (lt_of_heap HR3.out)).trans HR3.out, below_then H3.out h2, by have := H5.out.2.2.1; have := lt_of_heap HR3.out; omega, h3, fun hn a ha => ⟨by have := (H5.out.2.2.2.2.1 hn a ha).1; have := lt_of_heap HR3.out; omega, (H5.out.2.2.2.2.1 hn a ha).2, fun e => by cases e⟩⟩
  have HZZ := Lib.hid HZ
  clear HZ
  cases bs with
  | false =>
    have HPI := Lib.hid (HZZ.out d.tail wc (by simpa using HTL.out) H5.out.1 H5.out.2.1 H5.out.2.2.2.1)
    clear HZZ
    go_upto_region 5 with fail
    exact inRow_loop w0 W wc p b o g c A d l tl _ HS.out HI.out (HE.out _ (Below.refl _ _)) HB.out HX.out HGD.out HPI.out ⟨H5.out.2.2.2.2.2.1, H5.out.2.2.2.2.2.2⟩ (by assumption) (by assumption)
  | true =>
    have hbs : Below w3.heap.size w3 (wc.setCell ⟨g, 4, none⟩ (.int .i64 xr.t)) := H5.out.2.1.setCell (p := ⟨g, 4, none⟩) H5.out.2.2.1 _
    have HPI := Lib.hid (HZZ.out xr.t (wc.setCell ⟨g, 4, none⟩ (.int .i64 xr.t)) (by simpa using HTL.out) (by simp [World.setCell, Array.getElem?_modify, H5.out.1]) hbs (rd_keepP (P := fun b => b ≠ g) H5.out.2.2.2.1 (fun hn a ha => (H5.out.2.2.2.2.1 hn a ha).2) (fun b hb _ => Below.heap_setCell _ ⟨g, 4, none⟩ _ b hb)))
    obtain ⟨t0, t1, t2, t3, t4⟩ := cells5 (HF3.out _ H5.out.2.1).2
    obtain ⟨j0, j1, j2, j3, j4⟩ := cells5 H5.out.1
    obtain ⟨z0, z1, z2, z3, z4⟩ := frozen5 H5.out.1
    go_upto_region 5 with fail
    clear HZZ t0 t1 t2 t3 t4 j0 j1 j2 j3 j4 z0 z1 z2 z3 z4 hbs
    exact inRow_loop w0 W _ p b o g c A d l tl _ HS.out HI.out (HE.out _ (Below.refl _ _)) HB.out HX.out HGD.out HPI.out ⟨H5.out.2.2.2.2.2.1, H5.out.2.2.2.2.2.2⟩ (by assumption) (by assumption)
end Go.Proofs.YtklandpagieapaaDoor
