/-
  SpotStays: the law's walk.
-/
import Derived.Test.YtbbhnahbfhjgeaaDoorSpotI
import Derived.Test.YtbbhnahbfhjgeaaDoorSpotH
import Derived.Test.YtbbhnahbfhjgeaaDoorSpotUp
import Derived.Test.YtbbhnahbfhjgeaaDoorStrs
import Derived.Lib.QuietBelow
namespace Go.Proofs.YtbbhnahbfhjgeaaDoor
open Go.ChangeShapes Go.WideShapes Go.ChangeAt Go.RowKit Go.Sort
set_option linter.unusedVariables false
set_option linter.unusedSimpArgs false

theorem Rd.strN {w : World} {A : Option Addr} {n : Nat} {l : List Str} (h : Rd w 1 A n (strs l)) : l.length = n := by have := h.1; rw [strs_length] at this; omega
theorem Rd.str {w : World} {A : Option Addr} {n : Nat} {l : List Str} (h : Rd w 1 A n (strs l)) {k : Nat} (hk : k < l.length) : ∃ b o, A = some ⟨b, o, none⟩ ∧ b < w.heap.size ∧ ∀ j (hj : j < l.length), w.cell? ⟨b, o + j, none⟩ = some (.string (bstr l[j])) := by
  obtain ⟨b, o, rfl, hb, hh⟩ := h.base (by rw [strs_length]; omega)
  exact ⟨b, o, rfl, hb, fun j hj => hh j _ (strs_at l j hj)⟩
theorem WChain.more {w : World} {ct : TypeId} {cx : Value} {k : Nat} {ty : TypeId} {x : Value} (h : WChain w ct cx k ty x) (s : ByteArray) : WChain (w.alloc (.cells #[.string s, .iface ty x] 51)) ct cx (k + 1) 49 (.pointer (some ⟨w.heap.size, 0, none⟩)) :=
  .wrap w.heap.size k ty x (cell_new w _ _ 1 rfl) (h.lower ((Below.refl _ _).alloc (Nat.le_refl _) _))

/-- Two chains, one that ends in a place's error, one in its number. -/
structure Both (w : World) (eb : Nat) (n : Int) (k : Nat) (et : TypeId) (ex : Value) (ft : TypeId) (fx : Value) : Prop where
  ew : WChain w 39 (.pointer (some ⟨eb, 0, none⟩)) k et ex
  ec : CChain w n (k + 1) et ex
  fw : WChain w 28 (.int .i64 n) (k + 1) ft fx
  fc : CChain w n (k + 1) ft fx
theorem Both.lower {w w' : World} {eb : Nat} {n : Int} {k : Nat} {et : TypeId} {ex : Value} {ft : TypeId} {fx : Value} (h : Both w eb n k et ex ft fx) (hb : Below w.heap.size w w') : Both w' eb n k et ex ft fx :=
  ⟨h.ew.lower hb, h.ec.lower hb, h.fw.lower hb, h.fc.lower hb⟩

set_option maxRecDepth 100000 in
set_option maxHeartbeats 2000000 in
theorem stays_any (p n : Int) (l : List Str) (A : Option Addr) (N c : Nat) (w : World) (hL : Lay w) (hr : Rd w 1 A N (strs l)) (hcap : N ≤ c) (hcm : c ≤ maxLen) :
    Calls Tryd.prog 5 #[.int .i64 p, .int .i64 n, .slice A N c] w fun e w' => e = .returned (.bool true) ∧ Below w.heap.size w w' := by
  unfold maxLen at hcm
  have hlen : l.length = N := by have := hr.1; simp [strs_length] at this; omega
  subst hlen
  have HL := Lib.hid hL
  have HR := Lib.hid hr
  clear hL hr
  by_cases h1 : 100 < l.length
  · have h1i : (100 : Int) < (l.length : Int) := by omega
    clear h1
    go_enter Tryd.func5, Tryd.ntmps5
    go_wp2_with fail
    refine (up_any w HL.out).mono ?_
    rintro e w1 ⟨rfl, hb1⟩
    go_wp2_with fail
    go_returns
    exact ⟨rfl, hb1⟩
  have h1i : ¬ (100 : Int) < (l.length : Int) := by omega
  have HS := Lib.hid h1
  clear h1
  go_enter Tryd.func5, Tryd.ntmps5
  go_wp2_with fail
  refine (up_any w HL.out).mono ?_
  rintro e w1 ⟨rfl, hb1⟩
  have HB1 := Lib.hid hb1
  clear hb1
  go_wp2_with fail
  refine (at_any p n w1).mono ?_
  rintro e w2 ⟨rfl, hw2⟩
  have hb2 : Below w1.heap.size w1 w2 := by rw [hw2]; exact (Below.refl _ _).alloc (Nat.le_refl _) _
  have c0 : w2.cell? ⟨w1.heap.size, 0, none⟩ = some (.int .i64 p) := by rw [hw2]; exact cell_new w1 _ _ 0 rfl
  have c1 : w2.cell? ⟨w1.heap.size, 1, none⟩ = some (.int .i64 n) := by rw [hw2]; exact cell_new w1 _ _ 1 rfl
  have hs2 : w2.heap.size = w1.heap.size + 1 := by rw [hw2]; simp
  clear hw2
  go_wp2_with fail
  refine (wrap_any _ _ _ w2).mono ?_
  rintro e w3 ⟨rfl, hw3⟩
  have hb3 : Below w2.heap.size w2 w3 := by rw [hw3]; exact (Below.refl _ _).alloc (Nat.le_refl _) _
  have hB0 : Both w3 w1.heap.size n 0 39 (.pointer (some ⟨w1.heap.size, 0, none⟩)) 49 (.pointer (some ⟨w2.heap.size, 0, none⟩)) := by
    refine ⟨.core, .spot _ (cell_below hb3 c1), ?_, ?_⟩
    · rw [hw3]; exact WChain.more .core _
    · rw [hw3]; exact CChain.more .code _
  have C0 := cell_below hb3 c0
  have HB3 := Lib.hid (below_then (below_then HB1.out hb2) hb3)
  have H0 := Lib.hid (And.intro hB0 C0)
  obtain ⟨eb, heb⟩ : ∃ eb, w1.heap.size = eb := ⟨_, rfl⟩
  rw [heb] at H0 ⊢
  obtain ⟨fb, hfb⟩ : ∃ fb, w2.heap.size = fb := ⟨_, rfl⟩
  rw [hfb] at H0 ⊢
  clear hb2 c0 c1 hs2 hw3 hb3 hB0 C0 heb hfb
  go_wp2_with fail
  go_loopw [8, 9, 10] (fun e f i wr => ∃ (k : Nat) (et ft : TypeId) (ex fx : Value), e = .iface et ex ∧ f = .iface ft fx ∧ i = .int .i64 k ∧ k ≤ l.length ∧ Both wr eb n k et ex ft fx ∧ wr.cell? ⟨eb, 0, none⟩ = some (.int .i64 p) ∧ Below w.heap.size w wr) (fun _ _ i _ => l.length - (intOf i).toNat)
  case atStart => exact ⟨0, _, _, _, _, rfl, rfl, rfl, Nat.zero_le _, H0.out.1, H0.out.2, HB3.out⟩
  case round =>
    clear H0 HB3
    obtain ⟨k, et, ft, ex, fx, rfl, rfl, rfl, hk, hBo, hC, hb⟩ := hrel
    have HK := Lib.hid (And.intro hBo (And.intro hC hb))
    clear hBo hC hb
    by_cases hlt : k < l.length
    · obtain ⟨b, o, rfl, _, hc⟩ := (HR.out.below HK.out.2.2).str (k := k) hlt
      have h1 := hc k hlt
      have HC := Lib.hid hc
      clear hc
      have hlti : (k : Int) < (l.length : Int) := by omega
      go_wp2_with fail
      refine (wrap_any _ et ex wr).mono ?_
      rintro e w4 ⟨rfl, hw4⟩
      have hb4 : Below wr.heap.size wr w4 := by rw [hw4]; exact (Below.refl _ _).alloc (Nat.le_refl _) _
      have ew4 : WChain w4 39 (.pointer (some ⟨eb, 0, none⟩)) (k + 1) 49 (.pointer (some ⟨wr.heap.size, 0, none⟩)) := by rw [hw4]; exact HK.out.1.ew.more _
      have ec4 : CChain w4 n (k + 1 + 1) 49 (.pointer (some ⟨wr.heap.size, 0, none⟩)) := by rw [hw4]; exact HK.out.1.ec.more _
      have fw4 := HK.out.1.fw.lower hb4
      have fc4 := HK.out.1.fc.lower hb4
      have s4 := cell_below hb4 h1
      have p4 := cell_below hb4 HK.out.2.1
      have hB4 := below_then HK.out.2.2 hb4
      have H4 := Lib.hid (And.intro ew4 (And.intro ec4 (And.intro fw4 (And.intro fc4 (And.intro p4 hB4)))))
      clear ew4 ec4 fw4 fc4 p4 hB4 hb4 hw4 h1 HC
      obtain ⟨gb, hgb⟩ : ∃ gb, wr.heap.size = gb := ⟨_, rfl⟩
      rw [hgb] at H4 ⊢
      clear hgb HK
      go_wp2_with fail
      refine (wrap_any _ ft fx w4).mono ?_
      rintro e w5 ⟨rfl, hw5⟩
      have hb5 : Below w4.heap.size w4 w5 := by rw [hw5]; exact (Below.refl _ _).alloc (Nat.le_refl _) _
      have fw5 : WChain w5 28 (.int .i64 n) (k + 1 + 1) 49 (.pointer (some ⟨w4.heap.size, 0, none⟩)) := by rw [hw5]; exact H4.out.2.2.1.more _
      have fc5 : CChain w5 n (k + 1 + 1) 49 (.pointer (some ⟨w4.heap.size, 0, none⟩)) := by rw [hw5]; exact H4.out.2.2.2.1.more _
      have H5 := Lib.hid (And.intro (Both.mk (H4.out.1.lower hb5) (H4.out.2.1.lower hb5) fw5 fc5) (And.intro (cell_below hb5 H4.out.2.2.2.2.1) (below_then H4.out.2.2.2.2.2 hb5)))
      clear fw5 fc5 hb5 hw5 s4 H4
      obtain ⟨fb2, hfb2⟩ : ∃ fb, w4.heap.size = fb := ⟨_, rfl⟩
      rw [hfb2] at H5 ⊢
      clear hfb2
      go_wp2_with fail
      go_roundw
      case rel => exact ⟨k + 1, _, _, _, _, rfl, rfl, by go_num, hlt, H5.out.1, H5.out.2.1, H5.out.2.2⟩
      case measure => simp [intOf] <;> omega
    · have hlti : ¬ (k : Int) < (l.length : Int) := by omega
      go_wp2_with fail
      have hk200 : k + 1 ≤ 200 := by have := HS.out; omega
      have HK2 := Lib.hid hk200
      clear hk200
      refine (place_spot k et ex eb p wr (HL.out.below HK.out.2.2).et HK.out.1.ew (by have := HK2.out; omega) HK.out.2.1).mono ?_
      rintro e w4 ⟨rfl, hb4⟩
      have H4 := Lib.hid (And.intro (HK.out.1.lower hb4) (And.intro (cell_below hb4 HK.out.2.1) (below_then HK.out.2.2 hb4)))
      clear hb4 HK
      go_wp2_with fail
      refine (place_code (k + 1) ft fx n w4 (HL.out.below H4.out.2.2).et H4.out.1.fw HK2.out).mono ?_
      rintro e w5 ⟨rfl, hb5⟩
      have H5 := Lib.hid (And.intro (H4.out.1.lower hb5) (And.intro (cell_below hb5 H4.out.2.1) (below_then H4.out.2.2 hb5)))
      clear hb5 H4
      go_wp2_with fail
      refine (place_nil w5).mono ?_
      rintro e w6 ⟨rfl, hb6⟩
      have H6 := Lib.hid (And.intro (H5.out.1.lower hb6) (And.intro (cell_below hb6 H5.out.2.1) (below_then H5.out.2.2 hb6)))
      clear hb6 H5
      go_wp2_with fail
      have hb7 : Below w6.heap.size w6 (w6.alloc (.cells #[.pointer none] 39)) := (Below.refl _ _).alloc (Nat.le_refl _) _
      have H7 := Lib.hid (And.intro (H6.out.1.lower hb7) (And.intro (cell_below hb7 H6.out.2.1) (below_then H6.out.2.2 hb7)))
      have t0 : (w6.alloc (.cells #[.pointer none] 39)).cell? ⟨w6.heap.size, 0, none⟩ = some (.pointer none) := cell_new w6 _ _ 0 rfl
      have t1 : (w6.alloc (.cells #[.pointer none] 39)).frozen? ⟨w6.heap.size, 0, none⟩ = false := frozen_at w6 _ _ _ rfl
      have HT := Lib.hid (And.intro t0 t1)
      clear t0 t1
      have hebl := World.block_lt_of_cell? w6 _ H6.out.2.1
      have HE := Lib.hid hebl
      clear hebl
      have HB7 := Lib.hid hb7
      clear hb7
      refine (asSpot_any k et ex ⟨eb, 0, none⟩ ⟨w6.heap.size, 0, none⟩ (.pointer none) _ (HL.out.below H7.out.2.2).et H7.out.1.ew (by have := HK2.out; omega) HT.out.1 HT.out.2).mono ?_
      rintro e w8 ⟨rfl, X, hbX, hw8⟩
      have hbW : Below w6.heap.size w6 w8 := by
        rw [hw8]
        exact ((Below.refl _ _).alloc (Nat.le_refl _) _ |>.trans (hbX.mono (by simp))).setCell (by simp) _
      have cT : w8.cell? ⟨w6.heap.size, 0, none⟩ = some (.pointer (some ⟨eb, 0, none⟩)) := by
        rw [hw8]; exact World.cell?_setCell_same _ _ _ ((hbX.cell (p := ⟨w6.heap.size, 0, none⟩) (by simp)).trans HT.out.1)
      have H8 := Lib.hid (And.intro (H6.out.1.lower hbW) (below_then H6.out.2.2 hbW))
      have cE := cell_below hbW H6.out.2.1
      have hpe : (p == p) = true := by simp
      clear hbW hw8 hbX HT H7 HB7 HE H6
      obtain ⟨tb, htb⟩ : ∃ tb, w6.heap.size = tb := ⟨_, rfl⟩
      rw [htb] at cT ⊢
      clear htb
      go_wp2_with fail
      refine (is_any (k + 1) et ex n w8 H8.out.1.ec HK2.out).mono ?_
      rintro e w9 ⟨rfl, rfl⟩
      go_wp2_with fail
      refine (is_any (k + 1) ft fx n w9 H8.out.1.fc HK2.out).mono ?_
      rintro e w10 ⟨rfl, rfl⟩
      go_wp2_with fail
      refine (number_any (k + 1) et ex n w10 (HL.out.below H8.out.2).et H8.out.1.ec HK2.out).mono ?_
      rintro e w11 ⟨rfl, hb11⟩
      have H11 := Lib.hid (And.intro (H8.out.1.lower hb11) (below_then H8.out.2 hb11))
      clear hb11 H8
      have hne : (n == n) = true := by simp
      go_wp2_with fail
      refine (number_any (k + 1) ft fx n w11 (HL.out.below H11.out.2).et H11.out.1.fc HK2.out).mono ?_
      rintro e w12 ⟨rfl, hb12⟩
      have H12 := Lib.hid (below_then H11.out.2 hb12)
      clear hb12 H11
      go_wp2_with fail
      refine (number_nil w12).mono ?_
      rintro e w13 ⟨rfl, hb13⟩
      have H13 := Lib.hid (below_then H12.out hb13)
      clear hb13 H12
      go_wp2_with fail
      go_returns
      exact ⟨rfl, H13.out⟩
end Go.Proofs.YtbbhnahbfhjgeaaDoor
