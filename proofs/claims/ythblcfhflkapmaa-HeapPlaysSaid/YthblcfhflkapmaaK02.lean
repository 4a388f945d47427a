/-
  The document's Make, behind a collection or none.
  The document's Make.
  The law HeapPlays: one of n, by a number; is a heap the document's?
-/
import Derived.Test.YthblcfhflkapmaaK01
import Derived.Test.YthblcfhflkapmaaHpAM
import Derived.Test.YthblcfhflkapmaaHpAR
import Derived.StillTailTactics
namespace Go.Proofs.Ythblcfhflkapmaa
open Go Go.ChangeShapes Go.WideShapes Go.ChangeAt Go.RowKit Go.Sort
set_option linter.unusedVariables false
set_option linter.unusedSimpArgs false

/-- The text of Make from its n-th statement on. -/
noncomputable def tlM (n : Nat) : Code := dropSeqR n (Try.f10.body.getD .skip)
/-- What a Make that was not refused comes to. -/
def RMK (w0 : World) (B mb : Nat) (half runs : Int) (x0 : Value) (xs0 : List RO) (L : List Ob) (k : Int) (l rs : List Wd) : Ending → World → Prop := fun e w' => ∃ A1 c1 A2 c2 x' xs', Rd w' 2 A1 l.length (wcells l) ∧ Rd w' 2 A2 rs.length (wcells rs) ∧ Tr w0 (Nr mb x0 xs0) w' (Nr mb x' xs') ∧ Below B w0 w' ∧
  (((l.length : Int) < half - sizes L ∧ e = .returned (.tuple #[.int .i64 (sizes L : Nat), .slice A1 l.length c1, .slice A2 rs.length c2, .int .i64 0]) ∧ RH w' B mb half runs (L ++ [(k, l)]) x' xs') ∨
   (¬ (l.length : Int) < half - sizes L ∧ e = .returned (.tuple #[.int .i64 0, .slice A1 l.length c1, .slice A2 rs.length c2, .int .i64 7]) ∧ RH w' B mb half runs L x' xs'))
section
variable {B mb : Nat} {half runs : Int} {L : List Ob} {l rs : List Wd} {x x0 : Value} {xs xs0 : List RO} {w0 w w' : World}
/-- An object came, in new rows. -/
theorem RH.more (h : RH w B mb half runs L x xs) (hB : B ≤ w.heap.size) {k : Int} {l : List Wd} {y : Value} {A : Option Addr} {c : Nat} (hd : w'.heap[mb]? = some (.cells #[.int .i64 half, y, .int .i64 runs] RTyp)) (hk : ∀ b, b ≠ mb → b < w.heap.size → w'.heap[b]? = w.heap[b]?)
    (hrow : w'.ownsRow w.heap.size OTyp 3 y (xs.length + 1) (xs.flatMap RO.cells ++ [.int .i64 (sizes L : Nat), .int .i64 k, .slice A l.length c])) (hw : w'.ownsRow w.heap.size DTy 2 (.slice A l.length c) l.length (wcells l)) (hne : ∀ a, A = some a → y.ownBlock ≠ some a.block) :
    RH w' B mb half runs (L ++ [(k, l)]) y (xs ++ [⟨(sizes L : Nat), (k, l), A, c⟩]) := by
  have hmb := lt_of_heap h.hd
  have hold : ∀ z ∈ xs, ∀ a, z.A = some a → a.block < w.heap.size := fun z hz a ha => ((h.ws z hz).lt a.block (by rw [ha]; rfl)).2
  have hys : ∀ g, y.ownBlock = some g → w.heap.size ≤ g := fun g hg => (hrow.lt g hg).1
  have hnew : ∀ a, A = some a → w.heap.size ≤ a.block := fun a ha => (hw.lt a.block (by rw [ha]; rfl)).1
  have key : ∀ (i : Nat) (u : RO), (xs ++ [(⟨(sizes L : Nat), (k, l), A, c⟩ : RO)])[i]? = some u → (xs[i]? = some u ∧ i < xs.length) ∨ (u = ⟨(sizes L : Nat), (k, l), A, c⟩ ∧ i = xs.length) := by
    intro i u hu
    rw [List.getElem?_append] at hu
    split at hu
    · rename_i hi; exact .inl ⟨hu, hi⟩
    · rename_i hi
      have hik : i = xs.length := by
        have := (List.getElem?_eq_some_iff.1 hu).1
        simp at this
        omega
      rw [hik, Nat.sub_self] at hu
      simp only [List.getElem?_cons_zero, Option.some.injEq] at hu
      exact .inr ⟨hu.symm, hik⟩
  refine ⟨hd, ?_, by rw [List.map_append, h.ob]; rfl, fun j z hz => ?_, fun z hz => ?_, fun i j u v a b hu hv hij ha hb => ?_, fun z hz a ha => ?_, fun e => by have := hys _ e; omega, h.ge⟩
  · rw [List.length_append, List.length_singleton, List.flatMap_append, List.flatMap_singleton]
    exact own_mono hrow hB
  · rcases key j z hz with ⟨h1, h2⟩ | ⟨rfl, h2⟩
    · rw [h.pl j z h1, place_app (by rw [← h.len]; omega)]
    · rw [h2, h.len, place_app (Nat.le_refl _), place_end]
  · rcases List.mem_append.1 hz with hz | hz
    · exact own_keep (h.ws z hz) (fun g hg hl => hk g (fun e => by obtain ⟨a, ha, e2⟩ := ro_own.1 hg; exact (h.nx z hz a ha).2 (e2.trans e)) hl)
    · rw [List.mem_singleton.1 hz]; exact own_mono hw hB
  · rcases key i u hu with ⟨h2, h3⟩ | ⟨rfl, h3⟩
    · rcases key j v hv with ⟨h4, h5⟩ | ⟨rfl, h5⟩
      · exact h.nd i j u v a b h2 h4 hij ha hb
      · have := hold u (List.mem_of_getElem? h2) a ha
        have := hnew b hb
        omega
    · rcases key j v hv with ⟨h4, h5⟩ | ⟨rfl, h5⟩
      · have := hold v (List.mem_of_getElem? h4) b hb
        have := hnew a ha
        omega
      · omega
  · rcases List.mem_append.1 hz with hz | hz
    · have h1 := hold z hz a ha
      exact ⟨fun e => by have := hys _ e; omega, (h.nx z hz a ha).2⟩
    · rw [List.mem_singleton.1 hz] at ha
      exact ⟨hne a ha, fun e => by have := hnew a ha; omega⟩
set_option maxRecDepth 100000 in
set_option maxHeartbeats 4000000 in
theorem make_end {u4 u5 u6 u7 u8 u9 u10 u11 u12 u13 u14 u15 u16 u17 u18 u19 u20 u21 u22 u23 u24 u25 u26 u27 u28 u29 u30 u31 u32 u33 u34 u35 u36 u37 u38 u39 u40 u41 u42 u43 u44 u45 u46 u47 u48 u49 u50 u51 u52 u53 u54 u55 u56 u57 u58 u59 u60 u61 u62 u63 u64 u65 u66 u67 u68 u69 u70 u71 u72 u73 u74 u75 u76 u77 u78 u79 u80 u81 u82 u83 u84 u85 u86 u87 u88 u89 u90 u91 u92 u93 u94 u95 u96 u97 u98 u99 u100 : Value} (k : Int) (A2 A3 : Option Addr) (c2 c3 : Nat) (h : RH w B mb half runs L x xs) (hB : B ≤ w.heap.size) (hm : L.length ≤ 4000000) (hs : sizes L ≤ 4000000) (hz : 0 ≤ half ∧ half ≤ 4000000) (hl : Rd w 2 A2 l.length (wcells l)) (hr : Rd w 2 A3 rs.length (wcells rs)) (hlm : l.length ≤ 4000)
    (hn1 : ∀ a, A2 = some a → a.block ≠ mb) (hn2 : ∀ a, A3 = some a → a.block ≠ mb) (ht : Tr w0 (Nr mb x0 xs0) w (Nr mb x xs)) (hb : Below B w0 w) {R : Ending → World → Prop} (hR : ∀ e w', RMK w0 B mb half runs x0 xs0 L k l rs e w' → R e w') :
    Code.wp Try.prog (tlM 6) (bodyPost Try.prog Try.f10 R) ⟨#[.pointer (some ⟨mb, 0, none⟩), .int .i64 k, .slice A2 l.length c2, .slice A3 rs.length c3, u4, u5, u6, u7, u8, u9, u10, u11, u12, u13, u14, u15, u16, u17, u18, u19, u20, u21, u22, u23, u24, u25, u26, u27, u28, u29, u30, u31, u32, u33, u34, u35, u36, u37, u38, u39, u40, u41, u42, u43, u44, u45, u46, u47, u48, u49, u50, u51, u52, u53, u54, u55, u56, u57, u58, u59, u60, u61, u62, u63, u64, u65, u66, u67, u68, u69, u70, u71, u72, u73, u74, u75, u76, u77, u78, u79, u80, u81, u82, u83, u84, u85, u86, u87, u88, u89, u90, u91, u92, u93, u94, u95, u96, u97, u98, u99, u100], []⟩ w := by
  obtain ⟨c0, cx1, cx2⟩ := cells3 h.hd
  have HU := Lib.hid (RUsed_any h hs hm)
  have HR := Lib.hid hR
  clear hR
  have H := Lib.hid h
  have HX := Lib.hid (And.intro hB (And.intro hm (And.intro hs (And.intro hl (And.intro hr (And.intro hn1 (And.intro hn2 (And.intro ht hb))))))))
  have p1 : (0 : Int) ≤ (sizes L : Nat) := by omega
  have p2 : ((sizes L : Nat) : Int) ≤ 4000000 := by omega
  have p3 : (l.length : Int) ≤ 4000 := by omega
  by_cases hroom : (l.length : Int) < half - sizes L
  · have hno : ¬ half < ((sizes L : Nat) : Int) + (l.length : Int) + 1 := by omega
    have HRM := Lib.hid hroom
    have hx1 : xs.length ≤ 4000000 := by rw [h.len]; exact hm
    have hz0 := frozenN h.hd 1
    have HHD := Lib.hid h.hd
    obtain ⟨A, c, rfl, _⟩ := own_cap h.row
    have HX1 := Lib.hid (show (0 + xs.length) * 40 ≤ 140737488355328 by omega)
    have HX2 := Lib.hid (show (xs.length + 1) * 40 ≤ 140737488355328 by omega)
    have HLM := Lib.hid (show (0 + l.length) * 16 ≤ 140737488355328 by omega)
    have HA0 := Lib.hid ((Below.refl w.heap.size w).alloc (Nat.le_refl _) (.cells #[] OTyp))
    have HO0 := Lib.hid (own_lit w (size := 3) OTyp (Nat.le_refl w.heap.size))
    have HR0 := Lib.hid ((Rd.of_own h.row).below HA0.out)
    have e1 := cell_below HA0.out cx1
    clear h hB hm hs hz hl hr hn1 hn2 ht hb hroom hx1
    conv => arg 2; whnf
    go_upto_region 13 with (go_at_call 36; (with_reducible refine HU.out.mono ?_); rintro e w2 ⟨rfl, rfl⟩)
    go_wp2_with (first
      | (at_builtin; refine wpList_app elObj _ rfl (.tmp 82) (.tmp 86) rfl _ _ 0 [] rfl HO0.out A xs.length c (xs.flatMap RO.cells) rfl HR0.out (ro_ones _) HX1.out HA0.out.size ?_; intro v1 w1 hown1 hb1 hg1 hat1; rw [Nat.zero_add, List.nil_append] at hown1; have H1 := Lib.hid (And.intro hown1 (HA0.out.trans hb1)); have HO1 := Lib.hid (own_lit w1 (size := 2) DTy (Nat.le_refl w1.heap.size)); have HA1 := Lib.hid ((Below.refl w1.heap.size w1).alloc (Nat.le_refl _) (.cells #[] DTy)); have HR1 := Lib.hid ((HX.out.2.2.2.1.below H1.out.2).below HA1.out); clear hown1 hb1 hg1 hat1)
      | (at_builtin; refine wpList_app elRef _ rfl (.tmp 90) (.tmp 91) rfl _ _ 0 [] rfl HO1.out A2 l.length c2 (wcells l) rfl HR1.out (wcells_ones _) HLM.out HA1.out.size ?_; intro v2 w2 hown2 hb2 hg2 hat2; rw [Nat.zero_add, List.nil_append] at hown2; obtain ⟨Av, cv, rfl, _⟩ := own_cap hown2; have H2 := Lib.hid (And.intro hown2 (HA1.out.trans hb2)); have HA2 := Lib.hid ((Below.refl w2.heap.size w2).alloc (Nat.le_refl _) (.cells #[.int .i64 (sizes L : Nat), .int .i64 k, .slice Av l.length cv] OTyp)); have HO2 := Lib.hid (own_below (own_below H1.out.1 H2.out.2) HA2.out); have HRD := Lib.hid (Rd.lit (size := 3) (n := 1) w2 #[.int .i64 (sizes L : Nat), .int .i64 k, .slice Av l.length cv] OTyp rfl (fr := (0, 0))); have HL2 := Lib.hid (Nat.le_trans H1.out.2.size (Nat.le_trans H2.out.2.size HA2.out.size)); clear hown2 hb2 hg2 hat2)
      | (at_builtin; refine wpList_app elObj _ rfl (.tmp 87) (.tmp 94) rfl _ _ xs.length (xs.flatMap RO.cells) rfl HO2.out (some ⟨w2.heap.size, 0, none⟩) 1 1 _ rfl HRD.out (ro_ones [⟨(sizes L : Nat), (k, l), Av, cv⟩]) HX2.out HL2.out ?_; intro v3 w3 hown3 hb3 hg3 hat3; obtain ⟨q3, c3', rfl⟩ := own_some hown3; have hh3 := (hb3.block _ (lt_of_heap HHD.out)).trans ((HA2.out.block _ (Nat.lt_of_lt_of_le (lt_of_heap HHD.out) (Nat.le_trans H1.out.2.size H2.out.2.size))).trans ((H2.out.2.block _ (Nat.lt_of_lt_of_le (lt_of_heap HHD.out) H1.out.2.size)).trans ((H1.out.2.block _ (lt_of_heap HHD.out)).trans HHD.out))); obtain ⟨d0, d1, d2⟩ := cells3 hh3; have z1 := frozenN hh3 1; have HH3 := Lib.hid hh3; have H3 := Lib.hid (And.intro hown3 (And.intro hb3 (And.intro hg3 hat3))); clear hown3 hb3 hg3 hat3 hh3))
    go_returns
    have g1 := H1.out.2
    have g2 := H2.out.2
    have g3 := HA2.out
    have g4 : Below w.heap.size _ w3 := H3.out.2.1
    have hg3 : World.grownBy _ w3 v1.ownBlock := H3.out.2.2.1
    have hat : some q3 = v1.ownBlock ∨ some q3 = some (w2.alloc (.cells #[.int .i64 (sizes L : Nat), .int .i64 k, .slice Av l.length cv] OTyp)).heap.size := H3.out.2.2.2
    have hmb := lt_of_heap HHD.out
    have hge := H.out.ge
    have hw3 : Below w.heap.size w w3 := g1.trans ((g2.mono g1.size).trans ((g3.mono (Nat.le_trans g1.size g2.size)).trans g4))
    have hq3 := (H3.out.1.lt q3 rfl).1
    have hav : ∀ a, Av = some a → w1.heap.size ≤ a.block ∧ a.block < w2.heap.size := fun a ha => H2.out.1.lt a.block (by rw [ha]; rfl)
    have hv1 : ∀ g, v1.ownBlock = some g → g < w1.heap.size := fun g hg => (H1.out.1.lt g hg).2
    have hs1 := g1.size
    have hs2 : w2.heap.size < (w2.alloc (.cells #[.int .i64 (sizes L : Nat), .int .i64 k, .slice Av l.length cv] OTyp)).heap.size := by rw [World.size_alloc]; omega
    have hk : ∀ b, b ≠ mb → b < w.heap.size → (w3.setCell ⟨mb, 1, none⟩ (.slice (some ⟨q3, 0, none⟩) (xs.length + 1) c3')).heap[b]? = w.heap[b]? := fun b hb hl => (set_other _ _ _ _ hb).trans (hw3.block b hl)
    have hown : (w3.setCell ⟨mb, 1, none⟩ (.slice (some ⟨q3, 0, none⟩) (xs.length + 1) c3')).ownsRow w.heap.size DTy 2 (.slice Av l.length cv) l.length (wcells l) := by
      refine own_mono (own_keep (own_below H2.out.1 g3) (fun g hg hl => ?_)) hs1
      have h1 := H2.out.1.lt g hg
      rw [set_other _ _ _ _ (by omega)]
      exact hg3.block g hl (fun e => by have := hv1 g e.symm; omega)
    have hne : ∀ a, Av = some a → (Value.slice (some ⟨q3, 0, none⟩) (xs.length + 1) c3').ownBlock ≠ some a.block := fun a ha e => by
      have h1 := hav a ha
      have e' : q3 = a.block := by simpa [Value.ownBlock] using e
      rcases hat with h | h
      · have := hv1 q3 h.symm; omega
      · injection h with h; omega
    have hsz : w0.heap.size ≤ w.heap.size := HX.out.2.2.2.2.2.2.2.2.size
    refine HR.out _ _ ⟨A2, c2, A3, c3, _, xs ++ [⟨(sizes L : Nat), (k, l), Av, cv⟩], HX.out.2.2.2.1.keepB (fun a ha _ hl => hk _ (HX.out.2.2.2.2.2.1 a ha) hl), HX.out.2.2.2.2.1.keepB (fun a ha _ hl => hk _ (HX.out.2.2.2.2.2.2.1 a ha) hl), fun b hb hl => ?_, HX.out.2.2.2.2.2.2.2.2.trans ((hw3.mono HX.out.1).setCell (p := ⟨mb, 1, none⟩) hge _), .inl ⟨HRM.out, rfl, H.out.more HX.out.1 (set_cells HH3.out 1 _) hk (own_keep H3.out.1 (fun g hg _ => set_other _ _ _ _ (by have := (H3.out.1.lt g hg).1; omega))) hown hne⟩⟩
    obtain ⟨h1, h2⟩ := HX.out.2.2.2.2.2.2.2.1 b hb hl
    refine ⟨⟨h1.1, fun e => ?_, fun z hz a ha => ?_⟩, (hk b h1.1 (by omega)).trans h2⟩
    · have e' : q3 = b := by simpa [Value.ownBlock] using e
      omega
    · rcases List.mem_append.1 hz with hz | hz
      · exact h1.2.2 z hz a ha
      · rw [List.mem_singleton.1 hz] at ha
        have := (hav a ha).1
        omega
  · have hyes : half < ((sizes L : Nat) : Int) + (l.length : Int) + 1 := by omega
    have HRM := Lib.hid hroom
    clear h hB hm hs hz hl hr hn1 hn2 ht hb hroom
    conv => arg 2; whnf
    go_wp2_with (go_at_call 36; (with_reducible refine HU.out.mono ?_); rintro e w2 ⟨rfl, rfl⟩)
    go_returns
    exact HR.out _ _ ⟨A2, c2, A3, c3, x, xs, HX.out.2.2.2.1, HX.out.2.2.2.2.1, HX.out.2.2.2.2.2.2.2.1, HX.out.2.2.2.2.2.2.2.2, .inr ⟨by have := HRM.out; omega, rfl, H.out⟩⟩
theorem make_end2 {u4 u5 u6 u7 u8 u9 u10 u11 u12 u13 u14 u15 u16 u17 u18 u19 u20 u21 u22 u23 u24 u25 u26 u27 u28 u29 u30 u31 u32 u33 u34 u35 u36 u37 u38 u39 u40 u41 u42 u43 u44 u45 u46 u47 u48 u49 u50 u51 u52 u53 u54 u55 u56 u57 u58 u59 u60 u61 u62 u63 u64 u65 u66 u67 u68 u69 u70 u71 u72 u73 u74 u75 u76 u77 u78 u79 u80 u81 u82 u83 u84 u85 u86 u87 u88 u89 u90 u91 u92 u93 u94 u95 u96 u97 u98 u99 u100 : Value} (k : Int) (A2 A3 : Option Addr) (c2 c3 n2 n3 : Nat) (e2 : l.length = n2) (e3 : rs.length = n3) (h : RH w B mb half runs L x xs) (hB : B ≤ w.heap.size) (hm : L.length ≤ 4000000) (hs : sizes L ≤ 4000000) (hz : 0 ≤ half ∧ half ≤ 4000000) (hl : Rd w 2 A2 n2 (wcells l)) (hr : Rd w 2 A3 n3 (wcells rs)) (hlm : l.length ≤ 4000)
    (hn1 : ∀ a, A2 = some a → a.block ≠ mb) (hn2 : ∀ a, A3 = some a → a.block ≠ mb) (ht : Tr w0 (Nr mb x0 xs0) w (Nr mb x xs)) (hb : Below B w0 w) {R : Ending → World → Prop} (hR : ∀ e w', RMK w0 B mb half runs x0 xs0 L k l rs e w' → R e w') :
    Code.wp Try.prog (tlM 6) (bodyPost Try.prog Try.f10 R) ⟨#[.pointer (some ⟨mb, 0, none⟩), .int .i64 k, .slice A2 n2 c2, .slice A3 n3 c3, u4, u5, u6, u7, u8, u9, u10, u11, u12, u13, u14, u15, u16, u17, u18, u19, u20, u21, u22, u23, u24, u25, u26, u27, u28, u29, u30, u31, u32, u33, u34, u35, u36, u37, u38, u39, u40, u41, u42, u43, u44, u45, u46, u47, u48, u49, u50, u51, u52, u53, u54, u55, u56, u57, u58, u59, u60, u61, u62, u63, u64, u65, u66, u67, u68, u69, u70, u71, u72, u73, u74, u75, u76, u77, u78, u79, u80, u81, u82, u83, u84, u85, u86, u87, u88, u89, u90, u91, u92, u93, u94, u95, u96, u97, u98, u99, u100], []⟩ w := by
  subst e2 e3
  exact make_end k A2 A3 c2 c3 h hB hm hs hz hl hr hlm hn1 hn2 ht hb hR
end
end Go.Proofs.Ythblcfhflkapmaa

namespace Go.Proofs.Ythblcfhflkapmaa
open Go Go.ChangeShapes Go.WideShapes Go.ChangeAt Go.RowKit Go.Sort
set_option linter.unusedVariables false
set_option linter.unusedSimpArgs false

section
variable {B mb : Nat} {half runs : Int} {L : List Ob} {l roots : List Wd} {x : Value} {xs : List RO} {w w' : World}
abbrev noObjR : Value := .tuple #[.int .i64 0, .slice none 0 0, .slice none 0 0, .int .i64 1]
set_option maxRecDepth 100000 in
set_option maxHeartbeats 4000000 in
theorem RMake_no (h : RH w B mb half runs L x xs) (hm : L.length ≤ 4000000) (k : Int) (A2 A3 : Option Addr) (c2 c3 : Nat) (hl : Rd w 2 A2 l.length (wcells l)) (hr : Rd w 2 A3 roots.length (wcells roots)) (hlm : l.length ≤ 4000000) (hrm : roots.length ≤ 4000000) (hq : ¬ (headOk k (l.length : Nat) ∧ l.all (fineB L) = true ∧ roots.all (fineB L) = true)) :
    Calls Try.prog 10 #[.pointer (some ⟨mb, 0, none⟩), .int .i64 k, .slice A2 l.length c2, .slice A3 roots.length c3] w fun e w' => e = .returned noObjR ∧ Below w.heap.size w w' := by
  have HF1 := Lib.hid (fun (W : World) (hb : Below w.heap.size w W) => RFine_any (h.below hb) hm A2 c2 l (hl.below hb) hlm)
  have HF2 := Lib.hid (fun (W : World) (hb : Below w.heap.size w W) => RFine_any (h.below hb) hm A3 c3 roots (hr.below hb) hrm)
  by_cases hk : headOk k (l.length : Nat)
  · have HH := Lib.hid (refHead_yes k (l.length : Nat) hk w)
    rcases Bool.eq_false_or_eq_true (l.all (fineB L)) with q1 | q1
    · rcases Bool.eq_false_or_eq_true (roots.all (fineB L)) with q2 | q2
      · exact absurd ⟨hk, q1, q2⟩ hq
      · rw [q1] at HF1
        rw [q2] at HF2
        clear h hm hl hr hlm hrm hq hk q1 q2
        go_enter Try.func10, Try.ntmps10
        go_upto_region 2 with (go_at_call 35; (with_reducible refine HH.out.mono ?_); rintro e w1 ⟨rfl, hb1⟩; have HB := Lib.hid (hb1.alloc hb1.size (.cells #[.bool false, .int .i64 (16 * (l.length : Nat) + k)] DTy)); clear hb1)
        generalize w1.alloc (.cells #[.bool false, .int .i64 (16 * (l.length : Nat) + k)] DTy) = w2 at *
        have HG1 := Lib.hid (HF1.out w2 HB.out)
        have HG2 := Lib.hid (HF2.out w2 HB.out)
        go_wp2_with (first
          | (go_at_call 17; (with_reducible refine HG1.out.mono ?_); rintro e w3 ⟨rfl, rfl⟩)
          | (go_at_call 17; (with_reducible refine HG2.out.mono ?_); rintro e w3 ⟨rfl, rfl⟩))
        go_returns
        exact ⟨rfl, HB.out⟩
    · rw [q1] at HF1
      clear h hm hl hr hlm hrm hq hk q1
      go_enter Try.func10, Try.ntmps10
      go_upto_region 2 with (go_at_call 35; (with_reducible refine HH.out.mono ?_); rintro e w1 ⟨rfl, hb1⟩; have HB := Lib.hid (hb1.alloc hb1.size (.cells #[.bool false, .int .i64 (16 * (l.length : Nat) + k)] DTy)); clear hb1)
      generalize w1.alloc (.cells #[.bool false, .int .i64 (16 * (l.length : Nat) + k)] DTy) = w2 at *
      have HG1 := Lib.hid (HF1.out w2 HB.out)
      have HG2 := Lib.hid (HF2.out w2 HB.out)
      go_wp2_with (first
        | (go_at_call 17; (with_reducible refine HG1.out.mono ?_); rintro e w3 ⟨rfl, rfl⟩)
        | (go_at_call 17; (with_reducible refine HG2.out.mono ?_); rintro e w3 ⟨rfl, rfl⟩))
      go_returns
      exact ⟨rfl, HB.out⟩
  · have HH := Lib.hid (refHead_no k (l.length : Nat) hk w)
    clear h hm hl hr hlm hrm hq hk
    go_enter Try.func10, Try.ntmps10
    go_upto_region 2 with (go_at_call 35; (with_reducible refine HH.out.mono ?_); rintro e w1 ⟨rfl, hb1⟩; have HB := Lib.hid (hb1.alloc hb1.size (.cells #[.bool false, .int .i64 0] DTy)); clear hb1)
    generalize w1.alloc (.cells #[.bool false, .int .i64 0] DTy) = w2 at *
    have HG1 := Lib.hid (HF1.out w2 HB.out)
    have HG2 := Lib.hid (HF2.out w2 HB.out)
    go_wp2_with (first
      | (go_at_call 17; (with_reducible refine HG1.out.mono ?_); rintro e w3 ⟨rfl, rfl⟩)
      | (go_at_call 17; (with_reducible refine HG2.out.mono ?_); rintro e w3 ⟨rfl, rfl⟩))
    go_returns
    exact ⟨rfl, HB.out⟩
set_option maxRecDepth 100000 in
set_option maxHeartbeats 4000000 in
theorem RMake_yes (h : RH w B mb half runs L x xs) (hB : B ≤ w.heap.size) (hW : Wf L) (hm : L.length ≤ 4000000) (hs : sizes L ≤ 4000000) (hz : 0 ≤ half ∧ half ≤ 4000000) (hru : 0 ≤ runs ∧ runs ≤ 4000000) (k : Int) (A2 A3 : Option Addr) (c2 c3 : Nat) (hl : Rd w 2 A2 l.length (wcells l)) (hr : Rd w 2 A3 roots.length (wcells roots)) (hrm : roots.length ≤ 1000000)
    (hn1 : ∀ a, A2 = some a → a.block ≠ mb) (hn2 : ∀ a, A3 = some a → a.block ≠ mb) (hk : headOk k (l.length : Nat)) (hf1 : ∀ u ∈ l, Fine L u) (hf2 : ∀ u ∈ roots, Fine L u) :
    Calls Try.prog 10 #[.pointer (some ⟨mb, 0, none⟩), .int .i64 k, .slice A2 l.length c2, .slice A3 roots.length c3] w fun e w' =>
      ((l.length : Int) < half - sizes L ∧ RMK w B mb half runs x xs L k l roots e w') ∨ (¬ (l.length : Int) < half - sizes L ∧ RMK w B mb half (runs + 1) x xs (collO L (roots ++ l)) k ((collR L (roots ++ l)).drop roots.length) ((collR L (roots ++ l)).take roots.length) e w') := by
  have hlm : l.length ≤ 4000 := by have := hk.2.2.2; omega
  have HF1 := Lib.hid (fun (W : World) (hb : Below w.heap.size w W) => RFine_any (h.below hb) hm A2 c2 l (hl.below hb) (by omega))
  have HF2 := Lib.hid (fun (W : World) (hb : Below w.heap.size w W) => RFine_any (h.below hb) hm A3 c3 roots (hr.below hb) (by omega))
  rw [all_fine hf1] at HF1
  rw [all_fine hf2] at HF2
  have HH := Lib.hid (refHead_yes k (l.length : Nat) hk w)
  have HU := Lib.hid (fun (W : World) (hb : Below w.heap.size w W) => (RUsed_any (h.below hb) hs hm).mono fun _ _ q => And.intro q.1 q.2.symm)
  have H := Lib.hid (And.intro h (And.intro hB (And.intro hW (And.intro hm (And.intro hs (And.intro hz (And.intro hru (And.intro hl (And.intro hr (And.intro hrm (And.intro hn1 (And.intro hn2 (And.intro hk (And.intro hf1 (And.intro hf2 hlm)))))))))))))))
  have p1 : (0 : Int) ≤ (sizes L : Nat) := by omega
  have p2 : ((sizes L : Nat) : Int) ≤ 4000000 := by omega
  have p3 : (l.length : Int) ≤ 4000 := by omega
  clear h hB hW hm hs hz hru hl hr hrm hn1 hn2 hk hf1 hf2 hlm
  go_enter Try.func10, Try.ntmps10
  go_upto_region 2 with (go_at_call 35; (with_reducible refine HH.out.mono ?_); rintro e w1 ⟨rfl, hb1⟩; have HB := Lib.hid (hb1.alloc hb1.size (.cells #[.bool false, .int .i64 (16 * (l.length : Nat) + k)] DTy)); clear hb1)
  generalize w1.alloc (.cells #[.bool false, .int .i64 (16 * (l.length : Nat) + k)] DTy) = w2 at *
  have HG1 := Lib.hid (HF1.out w2 HB.out)
  have HG2 := Lib.hid (HF2.out w2 HB.out)
  go_upto_region 6 with (first
    | (go_at_call 17; (with_reducible refine HG1.out.mono ?_); rintro e w3 ⟨rfl, rfl⟩)
    | (go_at_call 17; (with_reducible refine HG2.out.mono ?_); rintro e w3 ⟨rfl, rfl⟩))
  have HR2 := Lib.hid (H.out.1.below HB.out)
  obtain ⟨c0, cx1, cx2⟩ := cells3 HR2.out.hd
  rename_i KA hKA KB hKB
  have HKC := Lib.hid hKA
  clear hKA
  have hUQ := HU.out w2 HB.out
  by_cases hroom : (l.length : Int) < half - sizes L
  · have hno : ¬ half < ((sizes L : Nat) : Int) + (l.length : Int) + 1 := by omega
    have HRM := Lib.hid hroom
    clear hroom
    go_quiet ((go_at_call 36; exact Calls.quiet_of_same (HU.out _ (below_drewN HB.out _))))
    have HBQ := Lib.hid (below_drewN HB.out nq)
    clear c0 cx1 cx2 hUQ
    generalize w2.drewN nq = w3 at *
    go_wp2_with fail
    refine HKC.out _ _ ?_
    exact make_end k A2 A3 c2 c3 (H.out.1.below HBQ.out) (Nat.le_trans H.out.2.1 HBQ.out.size) H.out.2.2.2.1 H.out.2.2.2.2.1 H.out.2.2.2.2.2.1 (H.out.2.2.2.2.2.2.2.1.below HBQ.out) (H.out.2.2.2.2.2.2.2.2.1.below HBQ.out) H.out.2.2.2.2.2.2.2.2.2.2.2.2.2.2.2 H.out.2.2.2.2.2.2.2.2.2.2.1 H.out.2.2.2.2.2.2.2.2.2.2.2.1 (Tr.below HBQ.out) (HBQ.out.mono H.out.2.1) (fun e w' q => .inl ⟨HRM.out, q⟩)
  · have hyes : half < ((sizes L : Nat) : Int) + (l.length : Int) + 1 := by omega
    have HRM := Lib.hid hroom
    clear hroom
    go_quiet ((go_at_call 36; exact Calls.quiet_of_same (HU.out _ (below_drewN HB.out _))))
    have HBQ := Lib.hid (below_drewN HB.out nq)
    clear c0 cx1 cx2 hUQ
    generalize w2.drewN nq = w3 at *
    have HML : Hid ((roots ++ l).length = roots.length + l.length) := List.length_append
    have HLB := Lib.hid (show (0 + roots.length) * 16 ≤ 140737488355328 by have := H.out.2.2.2.2.2.2.2.2.2.1; omega)
    have HLC := Lib.hid (show (roots.length + l.length) * 16 ≤ 140737488355328 by have := H.out.2.2.2.2.2.2.2.2.2.1; have := H.out.2.2.2.2.2.2.2.2.2.2.2.2.2.2.2; omega)
    have HO0 := Lib.hid (own_lit w3 (size := 2) DTy (Nat.le_refl w3.heap.size))
    have HA0 := Lib.hid ((Below.refl w3.heap.size w3).alloc (Nat.le_refl _) (.cells #[] DTy))
    have HR0 := Lib.hid ((H.out.2.2.2.2.2.2.2.2.1.below HBQ.out).below HA0.out)
    go_upto_region 8 with (first
      | (at_builtin; refine wpList_app elRef _ rfl (.tmp 53) (.tmp 54) rfl _ _ 0 [] rfl HO0.out A3 roots.length c3 (wcells roots) rfl HR0.out (wcells_ones _) HLB.out HA0.out.size ?_; intro v4 w4 hown4 hb4 hg4 hat4; rw [Nat.zero_add, List.nil_append] at hown4; have H4 := Lib.hid (And.intro hown4 (HA0.out.trans hb4)); have HR4 := Lib.hid (H.out.2.2.2.2.2.2.2.1.below (HBQ.out.trans (H4.out.2.mono HBQ.out.size))); clear hown4 hb4 hg4 hat4)
      | (at_builtin; refine wpList_app elRef _ rfl (.tmp 55) (.tmp 56) rfl _ _ roots.length (wcells roots) rfl H4.out.1 A2 l.length c2 (wcells l) rfl HR4.out (wcells_ones _) HLC.out H4.out.2.size ?_; intro v5 w5 hown5 hb5 hg5 hat5; rw [← wcells_append, ← HML.out] at hown5; obtain ⟨A5, c5, hv5, _⟩ := own_cap hown5; rw [HML.out] at hv5; have HV5 := Lib.hid hv5; have H5 := Lib.hid (And.intro hown5 (HBQ.out.trans ((H4.out.2.trans hb5).mono HBQ.out.size))); clear hown5 hb5 hg5 hat5 hv5)
      | (at_builtin; fail))
    have h5 := H5.out.1
    rw [HV5.out, ← HML.out] at h5 ⊢
    have hfa : ∀ u ∈ roots ++ l, Fine L u := fun u hu => (List.mem_append.1 hu).elim (H.out.2.2.2.2.2.2.2.2.2.2.2.2.2.2.1 u) (H.out.2.2.2.2.2.2.2.2.2.2.2.2.2.1 u)
    refine (RCollect_any w5 A5 c5 (H.out.1.below H5.out.2) (Nat.le_trans H.out.2.1 H5.out.2.size) H.out.2.2.1 H.out.2.2.2.1 H.out.2.2.2.2.1 (Rd.of_own h5) (by have := HML.out; have := H.out.2.2.2.2.2.2.2.2.2.1; have := H.out.2.2.2.2.2.2.2.2.2.2.2.2.2.2.2; omega) hfa H.out.2.2.2.2.2.2.1).mono ?_
    rintro e w6 ⟨v, x', xs', rfl, hown, hRH, hnr, htr, hbl⟩
    clear h5 hfa
    obtain ⟨M, hM⟩ : ∃ M, roots ++ l = M := ⟨_, rfl⟩
    have HM := Lib.hid hM
    rw [hM] at hown hRH HML ⊢
    have H6 := Lib.hid (And.intro hown (And.intro hRH (And.intro hnr (And.intro htr hbl))))
    have hcl : (collR L M).length = M.length := by simp [collR]
    have hol : (collO L M).length ≤ L.length := by unfold collO; rw [List.length_map]; exact (ord_og L M L.length).len
    have hcs : sizes (collO L M) ≤ sizes L := by have := coll_le L M (size := (sizes L : Int)) (by omega); omega
    have HEND := Lib.hid (And.intro H6.out.2.1 (And.intro (Nat.le_trans (Nat.le_trans H.out.2.1 H5.out.2.size) H6.out.2.2.2.2.size) (And.intro (Nat.le_trans hol H.out.2.2.2.1) (And.intro (Nat.le_trans hcs H.out.2.2.2.2.1) (And.intro H.out.2.2.2.2.2.1 (And.intro (show ((collR L M).drop roots.length).length ≤ 4000 by rw [List.length_drop, hcl]; have := HML.out; have := H.out.2.2.2.2.2.2.2.2.2.2.2.2.2.2.2; omega) (And.intro ((Tr.below H5.out.2).trans H5.out.2.size H6.out.2.2.2.1) ((H5.out.2.mono H.out.2.1).trans H6.out.2.2.2.2))))))))
    have HCL := Lib.hid (And.intro (show ((collR L M).drop roots.length).length = M.length - roots.length by rw [List.length_drop, hcl]) (show ((collR L M).take roots.length).length = roots.length by rw [List.length_take, hcl]; have := HML.out; omega))
    clear hcl hol hcs
    have hml := HML.out
    have i3 : (0 : Int) ≤ (roots.length : Int) := by omega
    rcases hown.2 with ⟨e, h0⟩ | ⟨q, cap, cur, e, hq, _, hnc, hmx, _⟩
    · subst e
      have h1 : roots.length = 0 := by omega
      have h2 : l.length = 0 := by omega
      have H12 := Lib.hid (And.intro h1 h2)
      rw [h1]
      clear hown hRH hnr htr hbl hM hml h0 h2
      go_wp2_with fail
      refine HKC.out _ _ ?_
      have hz1 : (collR L M).drop roots.length = [] := List.eq_nil_of_length_eq_zero (by rw [HCL.out.1]; have := H12.out; have := HML.out; omega)
      have hz2 : (collR L M).take roots.length = [] := List.eq_nil_of_length_eq_zero (by rw [HCL.out.2]; exact H12.out.1)
      exact make_end2 (l := (collR L M).drop roots.length) (rs := (collR L M).take roots.length) k none none 0 0 0 0 (by rw [hz1]; rfl) (by rw [hz2]; rfl) HEND.out.1 HEND.out.2.1 HEND.out.2.2.1 HEND.out.2.2.2.1 HEND.out.2.2.2.2.1 (by rw [hz1]; exact Rd.nil _ _ _) (by rw [hz2]; exact Rd.nil _ _ _) HEND.out.2.2.2.2.2.1 (fun a ha => nomatch ha) (fun a ha => nomatch ha) HEND.out.2.2.2.2.2.2.1 HEND.out.2.2.2.2.2.2.2 (fun e w' q => .inr ⟨by have := HRM.out; omega, by rw [HM.out]; exact q⟩)
    · subst e
      have i1 : (roots.length : Int) ≤ (M.length : Int) := by omega
      have i2 : (M.length : Int) ≤ (cap : Int) := by omega
      have HC := Lib.hid (And.intro hnc (And.intro hml hq))
      clear hown hRH hnr htr hbl hM hml hnc
      by_cases hcv : cap = roots.length
      · go_wp2_with fail
        refine HKC.out _ _ ?_
        have hown := H6.out.1
        have hqm : q ≠ mb := fun e => by have := lt_of_heap (H.out.1.below H5.out.2).hd; have := HC.out.2.2; omega
        have hr3 := (Rd.of_own hown).cut (lo := 0) (hi := roots.length) (k := 0) (Nat.zero_le _) (by have := HC.out.2.1; omega) rfl
        simp only [Option.map_some, Addr.add_lit, Nat.zero_mul, List.drop_zero, Nat.sub_zero] at hr3
        have hw3 : (wcells (collR L M)).take (roots.length * 2) = wcells ((collR L M).take roots.length) := by
          have := wcells_cut (collR L M) 0 roots.length
          simpa using this
        rw [hw3] at hr3
        have hz1 : (collR L M).drop roots.length = [] := List.eq_nil_of_length_eq_zero (by rw [HCL.out.1]; have := HC.out.1; have := HML.out; omega)
        exact make_end2 (l := (collR L M).drop roots.length) (rs := (collR L M).take roots.length) k (some ⟨q, 0, none⟩) (some ⟨q, 0, none⟩) 0 roots.length (M.length - roots.length) roots.length HCL.out.1 HCL.out.2 HEND.out.1 HEND.out.2.1 HEND.out.2.2.1 HEND.out.2.2.2.1 HEND.out.2.2.2.2.1 (by rw [← HCL.out.1, hz1]; exact Rd.nil _ _ _) hr3 HEND.out.2.2.2.2.2.1 (fun a ha => by cases ha; exact hqm) (fun a ha => by cases ha; exact hqm) HEND.out.2.2.2.2.2.2.1 HEND.out.2.2.2.2.2.2.2 (fun e w' q => .inr ⟨by have := HRM.out; omega, by rw [HM.out]; exact q⟩)
      · go_wp2_with fail
        refine HKC.out _ _ ?_
        have hown := H6.out.1
        have hqm : q ≠ mb := fun e => by have := lt_of_heap (H.out.1.below H5.out.2).hd; have := HC.out.2.2; omega
        have hr3 := (Rd.of_own hown).cut (lo := 0) (hi := roots.length) (k := 0) (Nat.zero_le _) (by have := HC.out.2.1; omega) rfl
        simp only [Option.map_some, Addr.add_lit, Nat.zero_mul, List.drop_zero, Nat.sub_zero] at hr3
        have hw3 : (wcells (collR L M)).take (roots.length * 2) = wcells ((collR L M).take roots.length) := by
          have := wcells_cut (collR L M) 0 roots.length
          simpa using this
        rw [hw3] at hr3
        have hr2 := (Rd.of_own hown).cut (lo := roots.length) (hi := M.length) (k := roots.length * 2) (by have := HC.out.2.1; omega) (Nat.le_refl _) rfl
        simp only [Option.map_some, Addr.add_lit, Nat.zero_add] at hr2
        have hw2 : ((wcells (collR L M)).drop (roots.length * 2)).take ((M.length - roots.length) * 2) = wcells ((collR L M).drop roots.length) := by
          rw [wcells_cut, List.take_of_length_le (by rw [HCL.out.1]; exact Nat.le_refl _)]
        rw [hw2] at hr2
        exact make_end2 (l := (collR L M).drop roots.length) (rs := (collR L M).take roots.length) k (some ⟨q, roots.length * 2, none⟩) (some ⟨q, 0, none⟩) (cap - roots.length) cap (M.length - roots.length) roots.length HCL.out.1 HCL.out.2 HEND.out.1 HEND.out.2.1 HEND.out.2.2.1 HEND.out.2.2.2.1 HEND.out.2.2.2.2.1 hr2 hr3 HEND.out.2.2.2.2.2.1 (fun a ha => by cases ha; exact hqm) (fun a ha => by cases ha; exact hqm) HEND.out.2.2.2.2.2.2.1 HEND.out.2.2.2.2.2.2.2 (fun e w' q => .inr ⟨by have := HRM.out; omega, by rw [HM.out]; exact q⟩)
end
end Go.Proofs.Ythblcfhflkapmaa

namespace Go.Proofs.Ythblcfhflkapmaa
open Go Go.ChangeShapes Go.WideShapes Go.ChangeAt Go.RowKit Go.Sort
set_option linter.unusedVariables false
set_option linter.unusedSimpArgs false

def pickI (c n : Int) : Int := if c < 0 then (-(c + 1)).tmod n else c.tmod n
def pickN (c n : Int) : Nat := (pickI c n).toNat
theorem pickN_lt (c n : Int) (hn : 0 < n) : (pickN c n : Int) < n ∧ (pickN c n : Int) = pickI c n := by
  unfold pickN
  have h : 0 ≤ pickI c n ∧ pickI c n < n := by
    unfold pickI
    split
    · exact tmod_nat (by omega) hn
    · exact tmod_nat (by omega) hn
  omega
theorem pick_val (c n : Int) (hc : -9223372036854775808 ≤ c ∧ c ≤ 9223372036854775807) (hn : 0 < n ∧ n ≤ 4000000) (w : World) :
    Calls Try.prog 8 #[.int .i64 c, .int .i64 n] w fun e w' => e = .returned (.int .i64 (pickN c n : Nat)) ∧ w' = w := by
  have n0 : (n == 0) = false := by simp; omega
  have n1 : n ≠ 0 := by omega
  obtain ⟨hl, he⟩ := pickN_lt c n hn.1
  by_cases q : c < 0
  · have q1 : decide (c < 0) = true := decide_eq_true q
    have e1 : IntKind.i64.wrap (c + 1) = c + 1 := by rw [IntKind.wrap_i64]; omega
    have e2 : IntKind.i64.wrap (-(c + 1)) = -(c + 1) := by rw [IntKind.wrap_i64]; omega
    obtain ⟨h1, h2⟩ := tmod_nat (a := -(c + 1)) (b := n) (by omega) hn.1
    have e3 : IntKind.i64.wrap ((-(c + 1)).tmod n) = (-(c + 1)).tmod n := by rw [IntKind.wrap_i64]; omega
    have hr : (-(c + 1)).tmod n = (pickN c n : Nat) := by rw [he]; unfold pickI; rw [if_pos q]
    obtain ⟨r, hr'⟩ : ∃ r, pickN c n = r := ⟨_, rfl⟩
    rw [hr'] at hr ⊢
    rw [hr] at e3 h2
    clear q hc h1 hl he hr'
    go_enter Try.func8, Try.ntmps8
    go_wp2_with fail
    go_returns
    exact ⟨rfl, rfl⟩
  · have q1 : decide (c < 0) = false := decide_eq_false q
    obtain ⟨h1, h2⟩ := tmod_nat (a := c) (b := n) (by omega) hn.1
    have e3 : IntKind.i64.wrap (c.tmod n) = c.tmod n := by rw [IntKind.wrap_i64]; omega
    have hr : c.tmod n = (pickN c n : Nat) := by rw [he]; unfold pickI; rw [if_neg q]
    obtain ⟨r, hr'⟩ : ∃ r, pickN c n = r := ⟨_, rfl⟩
    rw [hr'] at hr ⊢
    rw [hr] at e3 h2
    clear q hc h1 hl he hr'
    go_enter Try.func8, Try.ntmps8
    go_wp2_with fail
    go_returns
    exact ⟨rfl, rfl⟩
section
variable {w w' : World} {B hb mb : Nat} {size runs : Int} {L : List Ob} {V G V' G' x : Value} {xs : List RO}
set_option maxRecDepth 100000 in
set_option maxHeartbeats 4000000 in
theorem sameH_any (h : CH w B hb size runs L V G V' G') (r : RH w B mb size runs L x xs) (hW : Wf L) (hs : sizes L ≤ 4000000) (hm : L.length ≤ 4000000) :
    Calls Try.prog 23 #[.pointer (some ⟨hb, 0, none⟩), .pointer (some ⟨mb, 0, none⟩)] w fun e w' => e = .returned (.bool true) ∧ Below w.heap.size w w' := by
  have H := Lib.hid (And.intro h (And.intro r (And.intro hW (And.intro hs hm))))
  have HU := Lib.hid (fun (W : World) (hb' : Below w.heap.size w W) => (used_any (h.below hb')).mono fun _ _ q => And.intro q.1 q.2.symm)
  have HRU := Lib.hid (fun (W : World) (hb' : Below w.heap.size w W) => (RUsed_any (r.below hb') hs hm).mono fun _ _ q => And.intro q.1 q.2.symm)
  have HRN := Lib.hid (fun (W : World) (hb' : Below w.heap.size w W) => (runs_any (h.below hb')).mono fun _ _ q => And.intro q.1 q.2.symm)
  have HXL := Lib.hid r.len
  have hxl : (xs.length : Int) ≤ 4000000 := by have := r.len; omega
  obtain ⟨c0, cx1, cx2⟩ := cells3 r.hd
  obtain ⟨A, c, rfl, _⟩ := own_cap r.row
  clear h r hW hs hm
  go_enter Try.func23, Try.ntmps23
  go_upto_region 1 with fail
  go_quiet (first
    | (go_at_call 26; exact Calls.quiet_of_same (HU.out _ (below_drewN (Below.refl _ _) _)))
    | (go_at_call 36; exact Calls.quiet_of_same (HRU.out _ (below_drewN (Below.refl _ _) _)))
    | (go_at_call 27; exact Calls.quiet_of_same (HRN.out _ (below_drewN (Below.refl _ _) _))))
  have HBQ := Lib.hid (below_drewN (Below.refl w.heap.size w) nq)
  clear c0 cx1 cx2
  generalize w.drewN nq = w1 at *
  go_wp2_with fail
  go_loopw [5] (fun i wr => ∃ k : Nat, i = .int .i64 k ∧ k ≤ xs.length ∧ Below w.heap.size w wr) (fun i _ => xs.length - (intOf i).toNat)
  case atStart => exact ⟨0, rfl, Nat.zero_le _, HBQ.out⟩
  case round =>
    obtain ⟨k, rfl, hk, hb'⟩ := hrel
    have HB := Lib.hid hb'
    have k0 : (0 : Int) ≤ (k : Int) := by omega
    obtain ⟨c0, cx1, cx2⟩ := cells3 (H.out.2.1.below hb').hd
    by_cases hlt : k < xs.length
    · have k1 : (k : Int) < (xs.length : Int) := by omega
      have k2 : (k : Int) < 4000000 := by omega
      obtain ⟨y, hy⟩ : ∃ y, xs[k]? = some y := ⟨_, List.getElem?_eq_getElem hlt⟩
      have hyo : y.o = ob L k := by have h1 := H.out.2.1.get hy; unfold ob; rw [h1]; rfl
      have hpl := H.out.2.1.pl k y hy
      obtain ⟨b9, o9, hA9, f9, f10, f11⟩ := (H.out.2.1.below hb').at rfl hy
      subst hA9
      rw [hpl] at f9
      have HOB := Lib.hid (Object_yes (H.out.1.below hb') H.out.2.2.1 H.out.2.2.2.1 k (by rw [← HXL.out]; exact hlt))
      rw [← hyo] at HOB
      have HY := Lib.hid (And.intro hy (And.intro hlt (show y.o.2.length ≤ 4000 from (H.out.2.2.1.head _ (List.mem_of_getElem? (H.out.2.1.get hy))).2.2)))
      clear hk hb' hlt hy hyo hpl c0 cx2
      go_upto_region 7 with (go_at_call 20; (with_reducible refine HOB.out.mono ?_); rintro e w2 ⟨v, rfl, hown, hb2⟩; obtain ⟨Av, cv, rfl, _⟩ := own_cap hown; have H2 := Lib.hid (And.intro (Rd.of_own hown) (And.intro hb2 (HB.out.trans (hb2.mono HB.out.size)))); clear hown hb2)
      have HALL := Lib.hid (fun (W : World) (hW : Below w2.heap.size w2 W) => all_any W Av y.o.2 cv (H2.out.1.below hW) (by have := HY.out.2.2; omega))
      have HSM := Lib.hid (fun (W : World) (hW : Below w2.heap.size w2 W) (A2 : Option Addr) (c2 : Nat) (ho : Rd W 2 A2 y.o.2.length (wcells y.o.2)) => same_any W A2 y.A y.o.2 c2 y.c ho (Rd.of_own ((H.out.2.1.below (H2.out.2.2.trans (hW.mono H2.out.2.2.size))).ws y (List.mem_of_getElem? HY.out.1))) (by have := HY.out.2.2; omega))
      have HS := Lib.hid (fun (W : World) (hW : Below w2.heap.size w2 W) => And.intro (cell_below (H2.out.2.1.trans (hW.mono H2.out.2.1.size)) cx1) (And.intro (cell_below (H2.out.2.1.trans (hW.mono H2.out.2.1.size)) f10) (cell_below (H2.out.2.1.trans (hW.mono H2.out.2.1.size)) f11)))
      clear f9 f10 f11 cx1
      obtain ⟨cx1, f10, f11⟩ := HS.out w2 (Below.refl _ _)
      go_region_held3 (fun W => W.cell? ⟨mb, 1, none⟩ = some (.slice (some ⟨b9, o9, none⟩) xs.length c) ∧ W.cell? ⟨b9, o9 + k * 3 + 1, none⟩ = some (.int .i64 y.o.1) ∧ W.cell? ⟨b9, o9 + k * 3 + 2, none⟩ = some (.slice y.A y.o.2.length y.c))
        (first | (with_reducible exact HS.out _ HB4.out) | (with_reducible exact HS.out _ HB3.out) | (with_reducible exact HS.out _ (below_drew1 _)) | go_keep | fail)
        (first
          | (go_simp; go_at_call 11; (with_reducible refine (HALL.out _ (below_drew1 _)).mono ?_); rintro e w3 ⟨v3, rfl, hown3, hb3⟩; obtain ⟨A3, c3, rfl, _⟩ := own_cap hown3; have HB3 := Lib.hid (below_then (below_drew1 w2) hb3); have HO3 := Lib.hid (Rd.of_own hown3); clear hown3 hb3)
          | (go_simp; go_at_call 13; (with_reducible refine (HSM.out _ HB3.out _ _ HO3.out).mono ?_); rintro e w4 ⟨rfl, hb4⟩; have HB4 := Lib.hid (below_then HB3.out hb4); clear hb4)
          | fail)
      have HF := Lib.hid (H2.out.2.2.trans (HB4.out.mono H2.out.2.2.size))
      have hY := HY.out.2.1
      go_wp2_with fail
      exact ⟨⟨k + 1, by go_num, by omega, HF.out⟩, by simp [intOf] <;> omega⟩
    · clear hk hb' c0 cx2
      go_wp2_with fail
      go_returns
      exact ⟨rfl, HB.out⟩
end
end Go.Proofs.Ythblcfhflkapmaa
