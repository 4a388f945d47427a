/-
  The stable sort: two stretches merged. (Made by gen_sort17.py.)
  The stable sort: two stretches merged, by parts; all of it. (Made by gen_sort17.py.)
  The stable sort: all of it. (Made by gen_sort17.py.)
  A region that draws its order, whose loads are taken first under a condition that is asked only till they are done. About no program.
  A record that is being made: its labels and its values, two rows that grow, and the cells that hold them.
  The places of labels, sorted: slices.SortStableFunc, whatever the labels.
  Parts of rows of values.
  A record out of labels and values: what is done where a label is the last of its kind. (Made by gen_mcm.py.)
-/
import Derived.Test.YtjmgnohepoacbaaDoorK04
import Derived.Sort.WalkA
import Derived.Sort.WalkB2
import Derived.Sort.WalkB12
import Derived.Deep.LoopGhost
import Derived.Deep.RegionHeld3
import Derived.StillTail
import Derived.StillTailTactics
namespace Go.Proofs.YtjmgnohepoacbaaDoor
open Go.ChangeShapes Go.WideShapes Go.ChangeAt Go.RowKit Go.Sort
set_option linter.unusedVariables false
set_option linter.unusedSimpArgs false

theorem getElem!_idx {m : Nat} (d : Array (Fin (m + 1))) {i j : Nat} (h : i = j) : d[i]! = d[j]! := by rw [h]
section
variable {α : Type} [Inhabited α]
def symC (lt : α → α → Bool) (f a b mid m st : Nat) (d : Array α) : Array α :=
  if mid < mid + m - st ∧ mid + m - st < b then symF lt f mid (mid + m - st) b (if a < st ∧ st < mid then symF lt f a st mid (rotD m st (mid + m - st) d) else rotD m st (mid + m - st) d)
  else (if a < st ∧ st < mid then symF lt f a st mid (rotD m st (mid + m - st) d) else rotD m st (mid + m - st) d)
theorem symF_c (lt : α → α → Bool) (f a m b : Nat) (d : Array α) (h1 : ¬ m - a = 1) (h2 : ¬ b - m = 1) : symF lt (f + 1) a m b d = symC lt f a b ((a + b) / 2) m (stOf lt a m b d) d := by
  conv => lhs; unfold symF
  rw [if_neg h1, if_neg h2]
  rfl
end
set_option maxHeartbeats 16000000 in
set_option maxRecDepth 1000000 in
theorem symA_any {m : Nat} {w0 : World} {blk off cap lb : Nat} {labels : List Str} (d0 : Array (Fin (m + 1))) (R : Row1 (encF (m := m)) w0 blk off d0) (HC : CmpLays1 Tryd.prog 57 #[.pointer (some ⟨lb, 0, none⟩)] (encF (m := m)) (cfL labels) blk off d0.size w0) (w : World) (d : Array (Fin (m + 1))) (hs : d.size = d0.size) (S : SW (encF (m := m)) w0 blk off d w) (hsz : d.size ≤ 100000000000) (a m0 b : Nat) (ha : a < m0) (hb : m0 < b) (hbs : b ≤ d.size) (h1 : m0 - a = 1) :
    Calls Tryd.prog 78 #[.slice (some ⟨blk, off, none⟩) d.size cap, .int .i64 (a : Nat), .int .i64 (m0 : Nat), .int .i64 (b : Nat), .func (.func 57) #[] #[.pointer (some ⟨lb, 0, none⟩)]] w fun e w' => e = .returned (.tuple #[]) ∧ SW (encF (m := m)) w0 blk off (upSw (bsF (fun h => (ltOf (cfL labels)) d[h]! d[a]!) b m0 b - 1 - a) a d) w' := by
  have mixed : Tryd.prog.follows .mixedOrders = true := by kernel_rfl
  have S0 : Aside (SW (encF (m := m)) w0 blk off d w) := S
  clear S
  have HC : Aside _ := HC
  have eg := cmp_enters
  have HS9 := Lib.hid hs
  clear hs
  have fe : (((m0 : Int) - (a : Int)) == 1) = true := by simp; omega
  go_enter Tryd.func78, Tryd.ntmps78
  go_wp2_with fail
  go_loopg [10, 11] (b - (m0)) (fun g1 vi vj wr => ∃ (i j f : Nat), vi = .int .i64 i ∧ vj = .int .i64 j ∧ (m0 ≤ i ∧ i ≤ j ∧ j ≤ b) ∧ j - i ≤ f ∧ j - i ≤ g1 ∧ Aside (SW (encF (m := m)) w0 blk off d wr) ∧ Hid (bsF (fun h => (ltOf (cfL labels)) d[h]! d[a]!) f i j = bsF (fun h => (ltOf (cfL labels)) d[h]! d[a]!) (b) (m0) (b)))
  case atStart => exact ⟨m0, b, b, rfl, rfl, by omega, by omega, by omega, S0, rfl⟩
  case round =>
    clear S0
    obtain ⟨i, j, f, rfl, rfl, hij, hf, hg1, S1, HO⟩ := hrel
    by_cases hlt : i < j
    · skip
      obtain ⟨f, rfl⟩ : ∃ g, f = g + 1 := ⟨f - 1, by omega⟩
      obtain ⟨h, e0, e1, hh1, hh2⟩ : ∃ h : Nat, (i + j) / 2 = h ∧ ((i : Int) + (j : Int)) / 2 = (h : Int) ∧ i ≤ h ∧ h < j := ⟨(i + j) / 2, rfl, by omega, by omega, by omega⟩
      have hltz : (i : Int) < (j : Int) := by omega
      cases hlv : (ltOf (cfL labels)) d[h]! d[a]! with
      | true =>
        obtain ⟨iN11, hiN11⟩ : ∃ q, q = h := ⟨_, rfl⟩
        have ei11 : ((h : Int)).toNat = iN11 := by omega
        have pi11 : (0 : Int) ≤ (h : Int) := by omega
        have bi11 : (h : Int) < (d.size : Int) := by omega
        have ri11 : IntKind.i64.wrap ((h : Int)) = (h : Int) := by rw [IntKind.wrap_i64]; omega
        obtain ⟨jN11, hjN11⟩ : ∃ q, q = a := ⟨_, rfl⟩
        have ej11 : ((a : Int)).toNat = jN11 := by omega
        have pj11 : (0 : Int) ≤ (a : Int) := by omega
        have bj11 : (a : Int) < (d.size : Int) := by omega
        have rj11 : IntKind.i64.wrap ((a : Int)) = (a : Int) := by rw [IntKind.wrap_i64]; omega
        obtain ⟨x11, hx11⟩ : ∃ x, x = d[h]! := ⟨_, rfl⟩
        obtain ⟨y11, hy11⟩ : ∃ x, x = d[a]! := ⟨_, rfl⟩
        have l11a := S1.out.cl R HS9.out (h) (by omega)
        have l11b := S1.out.cl R HS9.out (a) (by omega)
        rw [← hx11, ← hiN11] at l11a
        rw [← hy11, ← hjN11] at l11b
        have hc11 := S1.out.cmp HC.out HS9.out x11 y11
        have hv11 : cfL labels x11 y11 < 0 := by rw [hx11, hy11]; exact of_decide_eq_true hlv
        have hd11 : decide (cfL labels x11 y11 < 0) = true := decide_eq_true hv11
        clear hx11 hy11 hiN11 hjN11
        go_wp2_with fail
        go_quiet_grown (first | (go_at_fn 57; refine Calls.grown_of (hc11 _ _)))
        have S211 : Aside (SW (encF (m := m)) w0 blk off d (grow (wr.drewN nq) osq)) := S1.out.grown nq osq
        clear l11a l11b hc11 S1 hv11 hd11
        generalize grow (wr.drewN nq) osq = w211 at S211 ⊢
        clear nq osq
        clear ei11 ej11 pi11 pj11 bi11 bj11 ri11 rj11
        go_wp2_with fail
        go_roundg (j - (h + 1))
        case measure => omega
        case rel => exact ⟨h + 1, j, f, by go_num, rfl, by omega, by omega, by omega, S211, (show Hid _ from by
          rw [← HO.out, bsF_yes _ f i j hlt (by show ltOf (cfL labels) d[(i + j) / 2]! d[a]! = true; rw [e0, hlv]), e0]; exact rfl)⟩
      | false =>
        obtain ⟨iN10, hiN10⟩ : ∃ q, q = h := ⟨_, rfl⟩
        have ei10 : ((h : Int)).toNat = iN10 := by omega
        have pi10 : (0 : Int) ≤ (h : Int) := by omega
        have bi10 : (h : Int) < (d.size : Int) := by omega
        have ri10 : IntKind.i64.wrap ((h : Int)) = (h : Int) := by rw [IntKind.wrap_i64]; omega
        obtain ⟨jN10, hjN10⟩ : ∃ q, q = a := ⟨_, rfl⟩
        have ej10 : ((a : Int)).toNat = jN10 := by omega
        have pj10 : (0 : Int) ≤ (a : Int) := by omega
        have bj10 : (a : Int) < (d.size : Int) := by omega
        have rj10 : IntKind.i64.wrap ((a : Int)) = (a : Int) := by rw [IntKind.wrap_i64]; omega
        obtain ⟨x10, hx10⟩ : ∃ x, x = d[h]! := ⟨_, rfl⟩
        obtain ⟨y10, hy10⟩ : ∃ x, x = d[a]! := ⟨_, rfl⟩
        have l10a := S1.out.cl R HS9.out (h) (by omega)
        have l10b := S1.out.cl R HS9.out (a) (by omega)
        rw [← hx10, ← hiN10] at l10a
        rw [← hy10, ← hjN10] at l10b
        have hc10 := S1.out.cmp HC.out HS9.out x10 y10
        have hv10 : ¬ cfL labels x10 y10 < 0 := by rw [hx10, hy10]; exact of_decide_eq_false hlv
        have hd10 : decide (cfL labels x10 y10 < 0) = false := decide_eq_false hv10
        clear hx10 hy10 hiN10 hjN10
        go_wp2_with fail
        go_quiet_grown (first | (go_at_fn 57; refine Calls.grown_of (hc10 _ _)))
        have S210 : Aside (SW (encF (m := m)) w0 blk off d (grow (wr.drewN nq) osq)) := S1.out.grown nq osq
        clear l10a l10b hc10 S1 hv10 hd10
        generalize grow (wr.drewN nq) osq = w210 at S210 ⊢
        clear nq osq
        clear ei10 ej10 pi10 pj10 bi10 bj10 ri10 rj10
        go_wp2_with fail
        go_roundg (h - i)
        case measure => omega
        case rel => exact ⟨i, h, f, rfl, rfl, by omega, by omega, by omega, S210, (show Hid _ from by
          rw [← HO.out, bsF_no _ f i j hlt (by show ltOf (cfL labels) d[(i + j) / 2]! d[a]! = false; rw [e0, hlv]), e0]; exact rfl)⟩
    · obtain rfl : i = j := by omega
      have hltz : ¬ (i : Int) < (i : Int) := by omega
      have hI := HO.out
      rw [bsF_end _ _ _ _ hlt] at hI
      have HI := Lib.hid hI
      clear hI HO
      go_wp2_with fail
      go_loopg [13] (i - 1 - a) (fun g2 vk wr2 => ∃ (k : Nat) (dk : Array (Fin (m + 1))), vk = .int .i64 k ∧ a ≤ k ∧ k ≤ i - 1 ∧ i - 1 - k ≤ g2 ∧ dk.size = d.size ∧ Aside (SW (encF (m := m)) w0 blk off dk wr2) ∧ Hid (upSw (i - 1 - k) k dk = upSw (i - 1 - a) a d))
      case atStart => exact ⟨a, d, rfl, Nat.le_refl _, by omega, by omega, rfl, S1, rfl⟩
      case round =>
        clear S1
        obtain ⟨k, dk, rfl, hak, hki, hg2, hsk, SJ, HU⟩ := hrel
        by_cases hlt2 : k < i - 1
        · have hltz2 : (k : Int) < (i : Int) - 1 := by omega
          obtain ⟨iN3, hiN3⟩ : ∃ q, q = k := ⟨_, rfl⟩
          have ei3 : ((k : Int)).toNat = iN3 := by omega
          have pi3 : (0 : Int) ≤ (k : Int) := by omega
          have bi3 : (k : Int) < (d.size : Int) := by omega
          have ri3 : IntKind.i64.wrap ((k : Int)) = (k : Int) := by rw [IntKind.wrap_i64]; omega
          obtain ⟨jN3, hjN3⟩ : ∃ q, q = k + 1 := ⟨_, rfl⟩
          have ej3 : ((k : Int) + 1).toNat = jN3 := by omega
          have pj3 : (0 : Int) ≤ (k : Int) + 1 := by omega
          have bj3 : (k : Int) + 1 < (d.size : Int) := by omega
          have rj3 : IntKind.i64.wrap ((k : Int) + 1) = (k : Int) + 1 := by rw [IntKind.wrap_i64]; omega
          obtain ⟨x3, hx3⟩ : ∃ x, x = dk[k]! := ⟨_, rfl⟩
          obtain ⟨y3, hy3⟩ : ∃ x, x = dk[k + 1]! := ⟨_, rfl⟩
          have S33 : Aside (SW (encF (m := m)) w0 blk off (swp dk (k) (k + 1)) ((wr.setCell ⟨blk, off + iN3, none⟩ (encF y3)).setCell ⟨blk, off + jN3, none⟩ (encF x3)).drew) := by rw [hiN3, hjN3, hx3, hy3]; exact SJ.out.swapped R (k) (k + 1) (by omega) (by omega)
          have c3a := SJ.out.c1 R (hsk.trans HS9.out) (k) (by omega)
          have c3b := SJ.out.c1 R (hsk.trans HS9.out) (k + 1) (by omega)
          have f3a := SJ.out.f1 R (hsk.trans HS9.out) (k) (by omega)
          have f3b := SJ.out.f1 R (hsk.trans HS9.out) (k + 1) (by omega)
          obtain ⟨u3, c3c⟩ := SJ.out.c2 R (hsk.trans HS9.out) (k) (k + 1) (by omega) (by omega) (encF y3)
          rw [← hjN3, ← hiN3] at c3c
          rw [← hx3, ← hiN3] at c3a
          rw [← hy3, ← hjN3] at c3b
          rw [← hiN3] at f3a
          rw [← hjN3] at f3b
          clear SJ hx3 hy3 hiN3 hjN3
          go_wp2_with fail
          go_big_region_o
          clear c3a c3b c3c f3a f3b
          generalize ((wr.setCell ⟨blk, off + iN3, none⟩ (encF y3)).setCell ⟨blk, off + jN3, none⟩ (encF x3)).drew = w33 at S33 ⊢
          clear ei3 ej3 pi3 pj3 bi3 bj3 ri3 rj3
          go_wp2_with fail
          go_roundg (i - 1 - (k + 1))
          case measure => omega
          case rel => exact ⟨k + 1, swp dk k (k + 1), by go_num, by omega, by omega, by omega, by rw [size_swp]; exact hsk, S33, (show Hid _ from by
            have h := HU.out
            rw [show i - 1 - k = (i - 1 - (k + 1)) + 1 by omega, upSw] at h
            exact h)⟩
        · have hltz2 : ¬ (k : Int) < (i : Int) - 1 := by omega
          have h := HU.out
          rw [show i - 1 - k = 0 by omega, upSw] at h
          have HX := Lib.hid h
          clear h HU
          go_wp2_with fail
          go_returns
          exact ⟨rfl, by rw [← HI.out, ← HX.out]; exact SJ.out⟩
set_option maxHeartbeats 16000000 in
set_option maxRecDepth 1000000 in
theorem symB_any {m : Nat} {w0 : World} {blk off cap lb : Nat} {labels : List Str} (d0 : Array (Fin (m + 1))) (R : Row1 (encF (m := m)) w0 blk off d0) (HC : CmpLays1 Tryd.prog 57 #[.pointer (some ⟨lb, 0, none⟩)] (encF (m := m)) (cfL labels) blk off d0.size w0) (w : World) (d : Array (Fin (m + 1))) (hs : d.size = d0.size) (S : SW (encF (m := m)) w0 blk off d w) (hsz : d.size ≤ 100000000000) (a m0 b : Nat) (ha : a < m0) (hb : m0 < b) (hbs : b ≤ d.size) (h1 : ¬ m0 - a = 1) (h2 : b - m0 = 1) :
    Calls Tryd.prog 78 #[.slice (some ⟨blk, off, none⟩) d.size cap, .int .i64 (a : Nat), .int .i64 (m0 : Nat), .int .i64 (b : Nat), .func (.func 57) #[] #[.pointer (some ⟨lb, 0, none⟩)]] w fun e w' => e = .returned (.tuple #[]) ∧ SW (encF (m := m)) w0 blk off (dnSw (m0 - bsF (fun h => !(ltOf (cfL labels)) d[m0]! d[h]!) m0 a m0) m0 d) w' := by
  have mixed : Tryd.prog.follows .mixedOrders = true := by kernel_rfl
  have S0 : Aside (SW (encF (m := m)) w0 blk off d w) := S
  clear S
  have HC : Aside _ := HC
  have eg := cmp_enters
  have HS9 := Lib.hid hs
  clear hs
  have fe : (((m0 : Int) - (a : Int)) == 1) = false := by simp; omega
  have fe2 : (((b : Int) - (m0 : Int)) == 1) = true := by simp; omega
  go_enter Tryd.func78, Tryd.ntmps78
  go_wp2_with fail
  go_loopg [14, 15] (m0 - (a)) (fun g1 vi vj wr => ∃ (i j f : Nat), vi = .int .i64 i ∧ vj = .int .i64 j ∧ (a ≤ i ∧ i ≤ j ∧ j ≤ m0) ∧ j - i ≤ f ∧ j - i ≤ g1 ∧ Aside (SW (encF (m := m)) w0 blk off d wr) ∧ Hid (bsF (fun h => !(ltOf (cfL labels)) d[m0]! d[h]!) f i j = bsF (fun h => !(ltOf (cfL labels)) d[m0]! d[h]!) (m0) (a) (m0)))
  case atStart => exact ⟨a, m0, m0, rfl, rfl, by omega, by omega, by omega, S0, rfl⟩
  case round =>
    clear S0
    obtain ⟨i, j, f, rfl, rfl, hij, hf, hg1, S1, HO⟩ := hrel
    by_cases hlt : i < j
    · skip
      obtain ⟨f, rfl⟩ : ∃ g, f = g + 1 := ⟨f - 1, by omega⟩
      obtain ⟨h, e0, e1, hh1, hh2⟩ : ∃ h : Nat, (i + j) / 2 = h ∧ ((i : Int) + (j : Int)) / 2 = (h : Int) ∧ i ≤ h ∧ h < j := ⟨(i + j) / 2, rfl, by omega, by omega, by omega⟩
      have hltz : (i : Int) < (j : Int) := by omega
      cases hlv : (ltOf (cfL labels)) d[m0]! d[h]! with
      | true =>
        obtain ⟨iN21, hiN21⟩ : ∃ q, q = m0 := ⟨_, rfl⟩
        have ei21 : ((m0 : Int)).toNat = iN21 := by omega
        have pi21 : (0 : Int) ≤ (m0 : Int) := by omega
        have bi21 : (m0 : Int) < (d.size : Int) := by omega
        have ri21 : IntKind.i64.wrap ((m0 : Int)) = (m0 : Int) := by rw [IntKind.wrap_i64]; omega
        obtain ⟨jN21, hjN21⟩ : ∃ q, q = h := ⟨_, rfl⟩
        have ej21 : ((h : Int)).toNat = jN21 := by omega
        have pj21 : (0 : Int) ≤ (h : Int) := by omega
        have bj21 : (h : Int) < (d.size : Int) := by omega
        have rj21 : IntKind.i64.wrap ((h : Int)) = (h : Int) := by rw [IntKind.wrap_i64]; omega
        obtain ⟨x21, hx21⟩ : ∃ x, x = d[m0]! := ⟨_, rfl⟩
        obtain ⟨y21, hy21⟩ : ∃ x, x = d[h]! := ⟨_, rfl⟩
        have l21a := S1.out.cl R HS9.out (m0) (by omega)
        have l21b := S1.out.cl R HS9.out (h) (by omega)
        rw [← hx21, ← hiN21] at l21a
        rw [← hy21, ← hjN21] at l21b
        have hc21 := S1.out.cmp HC.out HS9.out x21 y21
        have hv21 : cfL labels x21 y21 < 0 := by rw [hx21, hy21]; exact of_decide_eq_true hlv
        have hd21 : decide (cfL labels x21 y21 < 0) = true := decide_eq_true hv21
        clear hx21 hy21 hiN21 hjN21
        go_wp2_with fail
        go_quiet_grown (first | (go_at_fn 57; refine Calls.grown_of (hc21 _ _)))
        have S221 : Aside (SW (encF (m := m)) w0 blk off d (grow (wr.drewN nq) osq)) := S1.out.grown nq osq
        clear l21a l21b hc21 S1 hv21 hd21
        generalize grow (wr.drewN nq) osq = w221 at S221 ⊢
        clear nq osq
        clear ei21 ej21 pi21 pj21 bi21 bj21 ri21 rj21
        go_wp2_with fail
        go_roundg (h - i)
        case measure => omega
        case rel => exact ⟨i, h, f, rfl, rfl, by omega, by omega, by omega, S221, (show Hid _ from by
          rw [← HO.out, bsF_no _ f i j hlt (by show (!ltOf (cfL labels) d[m0]! d[(i + j) / 2]!) = false; rw [e0, hlv]; rfl), e0]; exact rfl)⟩
      | false =>
        obtain ⟨iN20, hiN20⟩ : ∃ q, q = m0 := ⟨_, rfl⟩
        have ei20 : ((m0 : Int)).toNat = iN20 := by omega
        have pi20 : (0 : Int) ≤ (m0 : Int) := by omega
        have bi20 : (m0 : Int) < (d.size : Int) := by omega
        have ri20 : IntKind.i64.wrap ((m0 : Int)) = (m0 : Int) := by rw [IntKind.wrap_i64]; omega
        obtain ⟨jN20, hjN20⟩ : ∃ q, q = h := ⟨_, rfl⟩
        have ej20 : ((h : Int)).toNat = jN20 := by omega
        have pj20 : (0 : Int) ≤ (h : Int) := by omega
        have bj20 : (h : Int) < (d.size : Int) := by omega
        have rj20 : IntKind.i64.wrap ((h : Int)) = (h : Int) := by rw [IntKind.wrap_i64]; omega
        obtain ⟨x20, hx20⟩ : ∃ x, x = d[m0]! := ⟨_, rfl⟩
        obtain ⟨y20, hy20⟩ : ∃ x, x = d[h]! := ⟨_, rfl⟩
        have l20a := S1.out.cl R HS9.out (m0) (by omega)
        have l20b := S1.out.cl R HS9.out (h) (by omega)
        rw [← hx20, ← hiN20] at l20a
        rw [← hy20, ← hjN20] at l20b
        have hc20 := S1.out.cmp HC.out HS9.out x20 y20
        have hv20 : ¬ cfL labels x20 y20 < 0 := by rw [hx20, hy20]; exact of_decide_eq_false hlv
        have hd20 : decide (cfL labels x20 y20 < 0) = false := decide_eq_false hv20
        clear hx20 hy20 hiN20 hjN20
        go_wp2_with fail
        go_quiet_grown (first | (go_at_fn 57; refine Calls.grown_of (hc20 _ _)))
        have S220 : Aside (SW (encF (m := m)) w0 blk off d (grow (wr.drewN nq) osq)) := S1.out.grown nq osq
        clear l20a l20b hc20 S1 hv20 hd20
        generalize grow (wr.drewN nq) osq = w220 at S220 ⊢
        clear nq osq
        clear ei20 ej20 pi20 pj20 bi20 bj20 ri20 rj20
        go_wp2_with fail
        go_roundg (j - (h + 1))
        case measure => omega
        case rel => exact ⟨h + 1, j, f, by go_num, rfl, by omega, by omega, by omega, S220, (show Hid _ from by
          rw [← HO.out, bsF_yes _ f i j hlt (by show (!ltOf (cfL labels) d[m0]! d[(i + j) / 2]!) = true; rw [e0, hlv]; rfl), e0]; exact rfl)⟩
    · obtain rfl : i = j := by omega
      have hltz : ¬ (i : Int) < (i : Int) := by omega
      have hI := HO.out
      rw [bsF_end _ _ _ _ hlt] at hI
      have HI := Lib.hid hI
      clear hI HO
      go_wp2_with fail
      go_loopg [17] (m0 - i) (fun g2 vk wr2 => ∃ (k : Nat) (dk : Array (Fin (m + 1))), vk = .int .i64 k ∧ i ≤ k ∧ k ≤ m0 ∧ k - i ≤ g2 ∧ dk.size = d.size ∧ Aside (SW (encF (m := m)) w0 blk off dk wr2) ∧ Hid (dnSw (k - i) k dk = dnSw (m0 - i) m0 d))
      case atStart => exact ⟨m0, d, rfl, by omega, by omega, by omega, rfl, S1, rfl⟩
      case round =>
        clear S1
        obtain ⟨k, dk, rfl, hak, hki, hg2, hsk, SJ, HU⟩ := hrel
        by_cases hlt2 : i < k
        · have hltz2 : (i : Int) < (k : Int) := by omega
          obtain ⟨iN4, hiN4⟩ : ∃ q, q = k := ⟨_, rfl⟩
          have ei4 : ((k : Int)).toNat = iN4 := by omega
          have pi4 : (0 : Int) ≤ (k : Int) := by omega
          have bi4 : (k : Int) < (d.size : Int) := by omega
          have ri4 : IntKind.i64.wrap ((k : Int)) = (k : Int) := by rw [IntKind.wrap_i64]; omega
          obtain ⟨jN4, hjN4⟩ : ∃ q, q = k - 1 := ⟨_, rfl⟩
          have ej4 : ((k : Int) - 1).toNat = jN4 := by omega
          have pj4 : (0 : Int) ≤ (k : Int) - 1 := by omega
          have bj4 : (k : Int) - 1 < (d.size : Int) := by omega
          have rj4 : IntKind.i64.wrap ((k : Int) - 1) = (k : Int) - 1 := by rw [IntKind.wrap_i64]; omega
          obtain ⟨x4, hx4⟩ : ∃ x, x = dk[k]! := ⟨_, rfl⟩
          obtain ⟨y4, hy4⟩ : ∃ x, x = dk[k - 1]! := ⟨_, rfl⟩
          have S34 : Aside (SW (encF (m := m)) w0 blk off (swp dk (k) (k - 1)) ((wr.setCell ⟨blk, off + iN4, none⟩ (encF y4)).setCell ⟨blk, off + jN4, none⟩ (encF x4)).drew) := by rw [hiN4, hjN4, hx4, hy4]; exact SJ.out.swapped R (k) (k - 1) (by omega) (by omega)
          have c4a := SJ.out.c1 R (hsk.trans HS9.out) (k) (by omega)
          have c4b := SJ.out.c1 R (hsk.trans HS9.out) (k - 1) (by omega)
          have f4a := SJ.out.f1 R (hsk.trans HS9.out) (k) (by omega)
          have f4b := SJ.out.f1 R (hsk.trans HS9.out) (k - 1) (by omega)
          obtain ⟨u4, c4c⟩ := SJ.out.c2 R (hsk.trans HS9.out) (k) (k - 1) (by omega) (by omega) (encF y4)
          rw [← hjN4, ← hiN4] at c4c
          rw [← hx4, ← hiN4] at c4a
          rw [← hy4, ← hjN4] at c4b
          rw [← hiN4] at f4a
          rw [← hjN4] at f4b
          clear SJ hx4 hy4 hiN4 hjN4
          go_wp2_with fail
          go_big_region_o
          clear c4a c4b c4c f4a f4b
          generalize ((wr.setCell ⟨blk, off + iN4, none⟩ (encF y4)).setCell ⟨blk, off + jN4, none⟩ (encF x4)).drew = w34 at S34 ⊢
          clear ei4 ej4 pi4 pj4 bi4 bj4 ri4 rj4
          go_wp2_with fail
          go_roundg (k - 1 - i)
          case measure => omega
          case rel => exact ⟨k - 1, swp dk k (k - 1), by first | rfl | go_num | (congr 1; omega), by omega, by omega, by omega, by rw [size_swp]; exact hsk, S34, (show Hid _ from by
            have h := HU.out
            rw [show k - i = (k - 1 - i) + 1 by omega, dnSw] at h
            exact h)⟩
        · have hltz2 : ¬ (i : Int) < (k : Int) := by omega
          have h := HU.out
          rw [show k - i = 0 by omega, dnSw] at h
          have HX := Lib.hid h
          clear h HU
          go_wp2_with fail
          go_returns
          exact ⟨rfl, by rw [← HI.out, ← HX.out]; exact SJ.out⟩
end Go.Proofs.YtjmgnohepoacbaaDoor

namespace Go.Proofs.YtjmgnohepoacbaaDoor
open Go.ChangeShapes Go.WideShapes Go.ChangeAt Go.RowKit Go.Sort
set_option linter.unusedVariables false
set_option linter.unusedSimpArgs false

set_option maxHeartbeats 16000000 in
set_option maxRecDepth 1000000 in
theorem symC1_any {m : Nat} {w0 : World} {blk off cap lb : Nat} {labels : List Str} (d0 : Array (Fin (m + 1))) (R : Row1 (encF (m := m)) w0 blk off d0) (HC : CmpLays1 Tryd.prog 57 #[.pointer (some ⟨lb, 0, none⟩)] (encF (m := m)) (cfL labels) blk off d0.size w0) (w : World) (d : Array (Fin (m + 1))) (hs : d.size = d0.size) (S : SW (encF (m := m)) w0 blk off d w) (hsz : d.size ≤ 100000000000) (a m0 b : Nat) (ha : a < m0) (hb : m0 < b) (hbs : b ≤ d.size) (f9 : Nat) (IH : ∀ (w : World) (dk : Array (Fin (m + 1))) (hsk : dk.size = d.size) (S : SW (encF (m := m)) w0 blk off dk w) (a m0 b : Nat), a < m0 → m0 < b → b ≤ d.size → b - a ≤ f9 → Calls Tryd.prog 78 #[.slice (some ⟨blk, off, none⟩) d.size cap, .int .i64 (a : Nat), .int .i64 (m0 : Nat), .int .i64 (b : Nat), .func (.func 57) #[] #[.pointer (some ⟨lb, 0, none⟩)]] w fun e w' => e = .returned (.tuple #[]) ∧ SW (encF (m := m)) w0 blk off (symF (ltOf (cfL labels)) f9 a m0 b dk) w') (hf9 : b - a ≤ f9 + 1) (h1 : ¬ m0 - a = 1) (h2 : ¬ b - m0 = 1) (mid : Nat) (hmid : (a + b) / 2 = mid) (hg : mid < m0) :
    Calls Tryd.prog 78 #[.slice (some ⟨blk, off, none⟩) d.size cap, .int .i64 (a : Nat), .int .i64 (m0 : Nat), .int .i64 (b : Nat), .func (.func 57) #[] #[.pointer (some ⟨lb, 0, none⟩)]] w fun e w' => e = .returned (.tuple #[]) ∧ SW (encF (m := m)) w0 blk off (symF (ltOf (cfL labels)) (f9 + 1) a m0 b d) w' := by
  have HROT := Lib.hid (fun (w : World) (dk : Array (Fin (m + 1))) (hsk : dk.size = d.size) (S : SW (encF (m := m)) w0 blk off dk w) (a m0 b : Nat) (ha : a < m0) (hb : m0 < b) (hbs : b ≤ d.size) => (show Calls Tryd.prog 86 #[.slice (some ⟨blk, off, none⟩) d.size cap, .int .i64 (a : Nat), .int .i64 (m0 : Nat), .int .i64 (b : Nat), .func (.func 57) #[] #[.pointer (some ⟨lb, 0, none⟩)]] w fun e w' => e = .returned (.tuple #[]) ∧ SW (encF (m := m)) w0 blk off (rotF m0 (b - a) (m0 - a) (b - m0) dk) w' from by
    have := rot_any w0 w blk off cap d0 dk R (hsk.trans hs) S (by omega) a m0 b ha hb (by omega) (.func (.func 57) #[] #[.pointer (some ⟨lb, 0, none⟩)])
    rw [hsk] at this
    exact this))
  have HIND := Lib.hid IH
  clear IH
  have mixed : Tryd.prog.follows .mixedOrders = true := by kernel_rfl
  have S0 : Aside (SW (encF (m := m)) w0 blk off d w) := S
  clear S
  have HC : Aside _ := HC
  have eg := cmp_enters
  have HS9 := Lib.hid hs
  clear hs
  have hst : stOf (ltOf (cfL labels)) a m0 b d = bsF (fun c => !(ltOf (cfL labels)) d[mid + m0 - 1 - c]! d[c]!) (mid + m0) (mid + m0 - b) (mid) := by unfold stOf; rw [hmid, if_pos hg, if_pos hg]
  have zmid : ((a : Int) + (b : Int)) / 2 = (mid : Int) := by omega
  obtain ⟨P, zP⟩ : ∃ P : Nat, (mid : Int) + (m0 : Int) - 1 = (P : Int) := ⟨mid + m0 - 1, by omega⟩
  have fe : (((m0 : Int) - (a : Int)) == 1) = false := by simp; omega
  have fe2 : (((b : Int) - (m0 : Int)) == 1) = false := by simp; omega
  have hgz : (mid : Int) < (m0 : Int) := by omega
  go_enter Tryd.func78, Tryd.ntmps78
  go_wp2_with fail
  go_loopg [20, 21] (mid - (mid + m0 - b)) (fun g1 vi vj wr => ∃ (i j f : Nat), vi = .int .i64 i ∧ vj = .int .i64 j ∧ (mid + m0 - b ≤ i ∧ i ≤ j ∧ j ≤ mid) ∧ j - i ≤ f ∧ j - i ≤ g1 ∧ Aside (SW (encF (m := m)) w0 blk off d wr) ∧ Hid (bsF (fun c => !(ltOf (cfL labels)) d[mid + m0 - 1 - c]! d[c]!) f i j = bsF (fun c => !(ltOf (cfL labels)) d[mid + m0 - 1 - c]! d[c]!) (mid + m0) (mid + m0 - b) (mid)))
  case atStart => exact ⟨mid + m0 - b, mid, mid + m0, by first | rfl | go_num, rfl, by omega, by omega, by omega, S0, rfl⟩
  case round =>
    clear S0
    obtain ⟨i, j, f, rfl, rfl, hij, hf, hg1, S1, HO⟩ := hrel
    by_cases hlt : i < j
    · skip
      obtain ⟨f, rfl⟩ : ∃ g, f = g + 1 := ⟨f - 1, by omega⟩
      obtain ⟨h, e0, e1, hh1, hh2⟩ : ∃ h : Nat, (i + j) / 2 = h ∧ ((i : Int) + (j : Int)) / 2 = (h : Int) ∧ i ≤ h ∧ h < j := ⟨(i + j) / 2, rfl, by omega, by omega, by omega⟩
      have hltz : (i : Int) < (j : Int) := by omega
      obtain ⟨cc, zcc⟩ : ∃ cc : Nat, (P : Int) - (h : Int) = (cc : Int) := ⟨P - h, by omega⟩
      cases hlv : (ltOf (cfL labels)) d[mid + m0 - 1 - h]! d[h]! with
      | true =>
        obtain ⟨iN51, hiN51⟩ : ∃ q, q = mid + m0 - 1 - h := ⟨_, rfl⟩
        have ei51 : ((cc : Int)).toNat = iN51 := by omega
        have pi51 : (0 : Int) ≤ (cc : Int) := by omega
        have bi51 : (cc : Int) < (d.size : Int) := by omega
        have ri51 : IntKind.i64.wrap ((cc : Int)) = (cc : Int) := by rw [IntKind.wrap_i64]; omega
        obtain ⟨jN51, hjN51⟩ : ∃ q, q = h := ⟨_, rfl⟩
        have ej51 : ((h : Int)).toNat = jN51 := by omega
        have pj51 : (0 : Int) ≤ (h : Int) := by omega
        have bj51 : (h : Int) < (d.size : Int) := by omega
        have rj51 : IntKind.i64.wrap ((h : Int)) = (h : Int) := by rw [IntKind.wrap_i64]; omega
        obtain ⟨x51, hx51⟩ : ∃ x, x = d[mid + m0 - 1 - h]! := ⟨_, rfl⟩
        obtain ⟨y51, hy51⟩ : ∃ x, x = d[h]! := ⟨_, rfl⟩
        have l51a := S1.out.cl R HS9.out (mid + m0 - 1 - h) (by omega)
        have l51b := S1.out.cl R HS9.out (h) (by omega)
        rw [← hx51, ← hiN51] at l51a
        rw [← hy51, ← hjN51] at l51b
        have hc51 := S1.out.cmp HC.out HS9.out x51 y51
        have hv51 : cfL labels x51 y51 < 0 := by rw [hx51, hy51]; exact of_decide_eq_true hlv
        have hd51 : decide (cfL labels x51 y51 < 0) = true := decide_eq_true hv51
        clear hx51 hy51 hiN51 hjN51
        go_wp2_with fail
        go_quiet_grown (first | (go_at_fn 57; refine Calls.grown_of (hc51 _ _)))
        have S251 : Aside (SW (encF (m := m)) w0 blk off d (grow (wr.drewN nq) osq)) := S1.out.grown nq osq
        clear l51a l51b hc51 S1 hv51 hd51
        generalize grow (wr.drewN nq) osq = w251 at S251 ⊢
        clear nq osq
        clear ei51 ej51 pi51 pj51 bi51 bj51 ri51 rj51
        go_wp2_with fail
        go_roundg (h - i)
        case measure => omega
        case rel => exact ⟨i, h, f, rfl, rfl, by omega, by omega, by omega, S251, (show Hid _ from by
          rw [← HO.out, bsF_no _ f i j hlt (by show (!ltOf (cfL labels) d[mid + m0 - 1 - (i + j) / 2]! d[(i + j) / 2]!) = false; rw [e0, hlv]; rfl), e0]; exact rfl)⟩
      | false =>
        obtain ⟨iN50, hiN50⟩ : ∃ q, q = mid + m0 - 1 - h := ⟨_, rfl⟩
        have ei50 : ((cc : Int)).toNat = iN50 := by omega
        have pi50 : (0 : Int) ≤ (cc : Int) := by omega
        have bi50 : (cc : Int) < (d.size : Int) := by omega
        have ri50 : IntKind.i64.wrap ((cc : Int)) = (cc : Int) := by rw [IntKind.wrap_i64]; omega
        obtain ⟨jN50, hjN50⟩ : ∃ q, q = h := ⟨_, rfl⟩
        have ej50 : ((h : Int)).toNat = jN50 := by omega
        have pj50 : (0 : Int) ≤ (h : Int) := by omega
        have bj50 : (h : Int) < (d.size : Int) := by omega
        have rj50 : IntKind.i64.wrap ((h : Int)) = (h : Int) := by rw [IntKind.wrap_i64]; omega
        obtain ⟨x50, hx50⟩ : ∃ x, x = d[mid + m0 - 1 - h]! := ⟨_, rfl⟩
        obtain ⟨y50, hy50⟩ : ∃ x, x = d[h]! := ⟨_, rfl⟩
        have l50a := S1.out.cl R HS9.out (mid + m0 - 1 - h) (by omega)
        have l50b := S1.out.cl R HS9.out (h) (by omega)
        rw [← hx50, ← hiN50] at l50a
        rw [← hy50, ← hjN50] at l50b
        have hc50 := S1.out.cmp HC.out HS9.out x50 y50
        have hv50 : ¬ cfL labels x50 y50 < 0 := by rw [hx50, hy50]; exact of_decide_eq_false hlv
        have hd50 : decide (cfL labels x50 y50 < 0) = false := decide_eq_false hv50
        clear hx50 hy50 hiN50 hjN50
        go_wp2_with fail
        go_quiet_grown (first | (go_at_fn 57; refine Calls.grown_of (hc50 _ _)))
        have S250 : Aside (SW (encF (m := m)) w0 blk off d (grow (wr.drewN nq) osq)) := S1.out.grown nq osq
        clear l50a l50b hc50 S1 hv50 hd50
        generalize grow (wr.drewN nq) osq = w250 at S250 ⊢
        clear nq osq
        clear ei50 ej50 pi50 pj50 bi50 bj50 ri50 rj50
        go_wp2_with fail
        go_roundg (j - (h + 1))
        case measure => omega
        case rel => exact ⟨h + 1, j, f, by go_num, rfl, by omega, by omega, by omega, S250, (show Hid _ from by
          rw [← HO.out, bsF_yes _ f i j hlt (by show (!ltOf (cfL labels) d[mid + m0 - 1 - (i + j) / 2]! d[(i + j) / 2]!) = true; rw [e0, hlv]; rfl), e0]; exact rfl)⟩
    · obtain rfl : i = j := by omega
      have hltz : ¬ (i : Int) < (i : Int) := by omega
      have hI := HO.out
      rw [bsF_end _ _ _ _ hlt] at hI
      have HI := Lib.hid hI
      clear hI HO
      have HE := Lib.hid (show symF (ltOf (cfL labels)) (f9 + 1) a m0 b d = symC (ltOf (cfL labels)) f9 a b mid m0 i d from by rw [symF_c _ _ _ _ _ _ h1 h2, hmid, hst, HI.out])
      obtain ⟨en, hen⟩ : ∃ en, mid + m0 - i = en := ⟨_, rfl⟩
      have zen : (mid : Int) + (m0 : Int) - (i : Int) = (en : Int) := by omega
      clear HI hlt hltz
      by_cases k1 : i < m0
      · by_cases k2 : i < mid
        · by_cases k3 : a < i
          · by_cases k4 : en < b
            · have q0 : (i : Int) < (m0 : Int) := by omega
              have q1 : (m0 : Int) < (en : Int) := by omega
              have q2 : (a : Int) < (i : Int) := by omega
              have q3 : (i : Int) < (mid : Int) := by omega
              have q4 : (mid : Int) < (en : Int) := by omega
              have q5 : (en : Int) < (b : Int) := by omega
              have HX := Lib.hid (show symF (ltOf (cfL labels)) (f9 + 1) a m0 b d = (symF (ltOf (cfL labels)) f9 mid en b (symF (ltOf (cfL labels)) f9 a i mid (rotF m0 (en - i) (m0 - i) (en - m0) d))) from by rw [HE.out]; simp only [symC, rotD, hen, if_pos (show i < m0 ∧ m0 < en from by omega), if_pos (show a < i ∧ i < mid from by omega), if_pos (show mid < en ∧ en < b from by omega)])
              have HT1 := Lib.hid (HROT.out wr d rfl S1.out i m0 en (by omega) (by omega) (by omega))
              clear HE hen
              go_wp2_with (first
                | (go_at_call 86; (with_reducible refine HT1.out.mono ?_); rintro e1 w1 ⟨rfl, hsw⟩; have T1 := Lib.hid hsw; clear hsw HT1; have HT2 := Lib.hid (HIND.out w1 (rotF m0 (en - i) (m0 - i) (en - m0) d) (size_rotF _ _ _ _ _) T1.out a i mid (by omega) (by omega) (by omega) (by omega)))
                | (go_at_call 78; (with_reducible refine HT2.out.mono ?_); rintro e2 w2 ⟨rfl, hsw⟩; have T2 := Lib.hid hsw; clear hsw HT2; have HT3 := Lib.hid (HIND.out w2 (symF (ltOf (cfL labels)) f9 a i mid (rotF m0 (en - i) (m0 - i) (en - m0) d)) ((size_symF _ _ _ _ _ _).trans (size_rotF _ _ _ _ _)) T2.out mid en b (by omega) (by omega) (by omega) (by omega)))
                | (go_at_call 78; (with_reducible refine HT3.out.mono ?_); rintro e3 w3 ⟨rfl, hsw⟩; have T3 := Lib.hid hsw; clear hsw HT3))
              go_returns
              exact ⟨rfl, by rw [HX.out]; exact T3.out⟩
            · have q0 : (i : Int) < (m0 : Int) := by omega
              have q1 : (m0 : Int) < (en : Int) := by omega
              have q2 : (a : Int) < (i : Int) := by omega
              have q3 : (i : Int) < (mid : Int) := by omega
              have q4 : (mid : Int) < (en : Int) := by omega
              have q5 : ¬ (en : Int) < (b : Int) := by omega
              have HX := Lib.hid (show symF (ltOf (cfL labels)) (f9 + 1) a m0 b d = (symF (ltOf (cfL labels)) f9 a i mid (rotF m0 (en - i) (m0 - i) (en - m0) d)) from by rw [HE.out]; simp only [symC, rotD, hen, if_pos (show i < m0 ∧ m0 < en from by omega), if_pos (show a < i ∧ i < mid from by omega), if_neg (show ¬ (mid < en ∧ en < b) from by omega)])
              have HT1 := Lib.hid (HROT.out wr d rfl S1.out i m0 en (by omega) (by omega) (by omega))
              clear HE hen
              go_wp2_with (first
                | (go_at_call 86; (with_reducible refine HT1.out.mono ?_); rintro e1 w1 ⟨rfl, hsw⟩; have T1 := Lib.hid hsw; clear hsw HT1; have HT2 := Lib.hid (HIND.out w1 (rotF m0 (en - i) (m0 - i) (en - m0) d) (size_rotF _ _ _ _ _) T1.out a i mid (by omega) (by omega) (by omega) (by omega)))
                | (go_at_call 78; (with_reducible refine HT2.out.mono ?_); rintro e2 w2 ⟨rfl, hsw⟩; have T2 := Lib.hid hsw; clear hsw HT2))
              go_returns
              exact ⟨rfl, by rw [HX.out]; exact T2.out⟩
          · by_cases k4 : en < b
            · have q0 : (i : Int) < (m0 : Int) := by omega
              have q1 : (m0 : Int) < (en : Int) := by omega
              have q2 : ¬ (a : Int) < (i : Int) := by omega
              have q3 : (mid : Int) < (en : Int) := by omega
              have q4 : (en : Int) < (b : Int) := by omega
              have HX := Lib.hid (show symF (ltOf (cfL labels)) (f9 + 1) a m0 b d = (symF (ltOf (cfL labels)) f9 mid en b (rotF m0 (en - i) (m0 - i) (en - m0) d)) from by rw [HE.out]; simp only [symC, rotD, hen, if_pos (show i < m0 ∧ m0 < en from by omega), if_neg (show ¬ (a < i ∧ i < mid) from by omega), if_pos (show mid < en ∧ en < b from by omega)])
              have HT1 := Lib.hid (HROT.out wr d rfl S1.out i m0 en (by omega) (by omega) (by omega))
              clear HE hen
              go_wp2_with (first
                | (go_at_call 86; (with_reducible refine HT1.out.mono ?_); rintro e1 w1 ⟨rfl, hsw⟩; have T1 := Lib.hid hsw; clear hsw HT1; have HT3 := Lib.hid (HIND.out w1 (rotF m0 (en - i) (m0 - i) (en - m0) d) (size_rotF _ _ _ _ _) T1.out mid en b (by omega) (by omega) (by omega) (by omega)))
                | (go_at_call 78; (with_reducible refine HT3.out.mono ?_); rintro e3 w3 ⟨rfl, hsw⟩; have T3 := Lib.hid hsw; clear hsw HT3))
              go_returns
              exact ⟨rfl, by rw [HX.out]; exact T3.out⟩
            · have q0 : (i : Int) < (m0 : Int) := by omega
              have q1 : (m0 : Int) < (en : Int) := by omega
              have q2 : ¬ (a : Int) < (i : Int) := by omega
              have q3 : (mid : Int) < (en : Int) := by omega
              have q4 : ¬ (en : Int) < (b : Int) := by omega
              have HX := Lib.hid (show symF (ltOf (cfL labels)) (f9 + 1) a m0 b d = (rotF m0 (en - i) (m0 - i) (en - m0) d) from by rw [HE.out]; simp only [symC, rotD, hen, if_pos (show i < m0 ∧ m0 < en from by omega), if_neg (show ¬ (a < i ∧ i < mid) from by omega), if_neg (show ¬ (mid < en ∧ en < b) from by omega)])
              have HT1 := Lib.hid (HROT.out wr d rfl S1.out i m0 en (by omega) (by omega) (by omega))
              clear HE hen
              go_wp2_with (first
                | (go_at_call 86; (with_reducible refine HT1.out.mono ?_); rintro e1 w1 ⟨rfl, hsw⟩; have T1 := Lib.hid hsw; clear hsw HT1))
              go_returns
              exact ⟨rfl, by rw [HX.out]; exact T1.out⟩
        · have q0 : (i : Int) < (m0 : Int) := by omega
          have q1 : ¬ (m0 : Int) < (en : Int) := by omega
          have q2 : (a : Int) < (i : Int) := by omega
          have q3 : ¬ (i : Int) < (mid : Int) := by omega
          have q4 : (mid : Int) < (en : Int) := by omega
          have q5 : (en : Int) < (b : Int) := by omega
          have HX := Lib.hid (show symF (ltOf (cfL labels)) (f9 + 1) a m0 b d = (symF (ltOf (cfL labels)) f9 mid en b d) from by rw [HE.out]; simp only [symC, rotD, hen, if_neg (show ¬ (i < m0 ∧ m0 < en) from by omega), if_neg (show ¬ (a < i ∧ i < mid) from by omega), if_pos (show mid < en ∧ en < b from by omega)])
          have HT3 := Lib.hid (HIND.out wr d rfl S1.out mid en b (by omega) (by omega) (by omega) (by omega))
          clear HE hen
          go_wp2_with (first
            | (go_at_call 78; (with_reducible refine HT3.out.mono ?_); rintro e3 w3 ⟨rfl, hsw⟩; have T3 := Lib.hid hsw; clear hsw HT3))
          go_returns
          exact ⟨rfl, by rw [HX.out]; exact T3.out⟩
      · exfalso; omega
set_option maxHeartbeats 16000000 in
set_option maxRecDepth 1000000 in
theorem symC2_any {m : Nat} {w0 : World} {blk off cap lb : Nat} {labels : List Str} (d0 : Array (Fin (m + 1))) (R : Row1 (encF (m := m)) w0 blk off d0) (HC : CmpLays1 Tryd.prog 57 #[.pointer (some ⟨lb, 0, none⟩)] (encF (m := m)) (cfL labels) blk off d0.size w0) (w : World) (d : Array (Fin (m + 1))) (hs : d.size = d0.size) (S : SW (encF (m := m)) w0 blk off d w) (hsz : d.size ≤ 100000000000) (a m0 b : Nat) (ha : a < m0) (hb : m0 < b) (hbs : b ≤ d.size) (f9 : Nat) (IH : ∀ (w : World) (dk : Array (Fin (m + 1))) (hsk : dk.size = d.size) (S : SW (encF (m := m)) w0 blk off dk w) (a m0 b : Nat), a < m0 → m0 < b → b ≤ d.size → b - a ≤ f9 → Calls Tryd.prog 78 #[.slice (some ⟨blk, off, none⟩) d.size cap, .int .i64 (a : Nat), .int .i64 (m0 : Nat), .int .i64 (b : Nat), .func (.func 57) #[] #[.pointer (some ⟨lb, 0, none⟩)]] w fun e w' => e = .returned (.tuple #[]) ∧ SW (encF (m := m)) w0 blk off (symF (ltOf (cfL labels)) f9 a m0 b dk) w') (hf9 : b - a ≤ f9 + 1) (h1 : ¬ m0 - a = 1) (h2 : ¬ b - m0 = 1) (mid : Nat) (hmid : (a + b) / 2 = mid) (hg : ¬ mid < m0) :
    Calls Tryd.prog 78 #[.slice (some ⟨blk, off, none⟩) d.size cap, .int .i64 (a : Nat), .int .i64 (m0 : Nat), .int .i64 (b : Nat), .func (.func 57) #[] #[.pointer (some ⟨lb, 0, none⟩)]] w fun e w' => e = .returned (.tuple #[]) ∧ SW (encF (m := m)) w0 blk off (symF (ltOf (cfL labels)) (f9 + 1) a m0 b d) w' := by
  have HROT := Lib.hid (fun (w : World) (dk : Array (Fin (m + 1))) (hsk : dk.size = d.size) (S : SW (encF (m := m)) w0 blk off dk w) (a m0 b : Nat) (ha : a < m0) (hb : m0 < b) (hbs : b ≤ d.size) => (show Calls Tryd.prog 86 #[.slice (some ⟨blk, off, none⟩) d.size cap, .int .i64 (a : Nat), .int .i64 (m0 : Nat), .int .i64 (b : Nat), .func (.func 57) #[] #[.pointer (some ⟨lb, 0, none⟩)]] w fun e w' => e = .returned (.tuple #[]) ∧ SW (encF (m := m)) w0 blk off (rotF m0 (b - a) (m0 - a) (b - m0) dk) w' from by
    have := rot_any w0 w blk off cap d0 dk R (hsk.trans hs) S (by omega) a m0 b ha hb (by omega) (.func (.func 57) #[] #[.pointer (some ⟨lb, 0, none⟩)])
    rw [hsk] at this
    exact this))
  have HIND := Lib.hid IH
  clear IH
  have mixed : Tryd.prog.follows .mixedOrders = true := by kernel_rfl
  have S0 : Aside (SW (encF (m := m)) w0 blk off d w) := S
  clear S
  have HC : Aside _ := HC
  have eg := cmp_enters
  have HS9 := Lib.hid hs
  clear hs
  have hst : stOf (ltOf (cfL labels)) a m0 b d = bsF (fun c => !(ltOf (cfL labels)) d[mid + m0 - 1 - c]! d[c]!) (mid + m0) (a) (m0) := by unfold stOf; rw [hmid, if_neg hg, if_neg hg]
  have zmid : ((a : Int) + (b : Int)) / 2 = (mid : Int) := by omega
  obtain ⟨P, zP⟩ : ∃ P : Nat, (mid : Int) + (m0 : Int) - 1 = (P : Int) := ⟨mid + m0 - 1, by omega⟩
  have fe : (((m0 : Int) - (a : Int)) == 1) = false := by simp; omega
  have fe2 : (((b : Int) - (m0 : Int)) == 1) = false := by simp; omega
  have hgz : ¬ (mid : Int) < (m0 : Int) := by omega
  go_enter Tryd.func78, Tryd.ntmps78
  go_wp2_with fail
  go_loopg [20, 21] (m0 - (a)) (fun g1 vi vj wr => ∃ (i j f : Nat), vi = .int .i64 i ∧ vj = .int .i64 j ∧ (a ≤ i ∧ i ≤ j ∧ j ≤ m0) ∧ j - i ≤ f ∧ j - i ≤ g1 ∧ Aside (SW (encF (m := m)) w0 blk off d wr) ∧ Hid (bsF (fun c => !(ltOf (cfL labels)) d[mid + m0 - 1 - c]! d[c]!) f i j = bsF (fun c => !(ltOf (cfL labels)) d[mid + m0 - 1 - c]! d[c]!) (mid + m0) (a) (m0)))
  case atStart => exact ⟨a, m0, mid + m0, by first | rfl | go_num, rfl, by omega, by omega, by omega, S0, rfl⟩
  case round =>
    clear S0
    obtain ⟨i, j, f, rfl, rfl, hij, hf, hg1, S1, HO⟩ := hrel
    by_cases hlt : i < j
    · skip
      obtain ⟨f, rfl⟩ : ∃ g, f = g + 1 := ⟨f - 1, by omega⟩
      obtain ⟨h, e0, e1, hh1, hh2⟩ : ∃ h : Nat, (i + j) / 2 = h ∧ ((i : Int) + (j : Int)) / 2 = (h : Int) ∧ i ≤ h ∧ h < j := ⟨(i + j) / 2, rfl, by omega, by omega, by omega⟩
      have hltz : (i : Int) < (j : Int) := by omega
      obtain ⟨cc, zcc⟩ : ∃ cc : Nat, (P : Int) - (h : Int) = (cc : Int) := ⟨P - h, by omega⟩
      cases hlv : (ltOf (cfL labels)) d[mid + m0 - 1 - h]! d[h]! with
      | true =>
        obtain ⟨iN51, hiN51⟩ : ∃ q, q = mid + m0 - 1 - h := ⟨_, rfl⟩
        have ei51 : ((cc : Int)).toNat = iN51 := by omega
        have pi51 : (0 : Int) ≤ (cc : Int) := by omega
        have bi51 : (cc : Int) < (d.size : Int) := by omega
        have ri51 : IntKind.i64.wrap ((cc : Int)) = (cc : Int) := by rw [IntKind.wrap_i64]; omega
        obtain ⟨jN51, hjN51⟩ : ∃ q, q = h := ⟨_, rfl⟩
        have ej51 : ((h : Int)).toNat = jN51 := by omega
        have pj51 : (0 : Int) ≤ (h : Int) := by omega
        have bj51 : (h : Int) < (d.size : Int) := by omega
        have rj51 : IntKind.i64.wrap ((h : Int)) = (h : Int) := by rw [IntKind.wrap_i64]; omega
        obtain ⟨x51, hx51⟩ : ∃ x, x = d[mid + m0 - 1 - h]! := ⟨_, rfl⟩
        obtain ⟨y51, hy51⟩ : ∃ x, x = d[h]! := ⟨_, rfl⟩
        have l51a := S1.out.cl R HS9.out (mid + m0 - 1 - h) (by omega)
        have l51b := S1.out.cl R HS9.out (h) (by omega)
        rw [← hx51, ← hiN51] at l51a
        rw [← hy51, ← hjN51] at l51b
        have hc51 := S1.out.cmp HC.out HS9.out x51 y51
        have hv51 : cfL labels x51 y51 < 0 := by rw [hx51, hy51]; exact of_decide_eq_true hlv
        have hd51 : decide (cfL labels x51 y51 < 0) = true := decide_eq_true hv51
        clear hx51 hy51 hiN51 hjN51
        go_wp2_with fail
        go_quiet_grown (first | (go_at_fn 57; refine Calls.grown_of (hc51 _ _)))
        have S251 : Aside (SW (encF (m := m)) w0 blk off d (grow (wr.drewN nq) osq)) := S1.out.grown nq osq
        clear l51a l51b hc51 S1 hv51 hd51
        generalize grow (wr.drewN nq) osq = w251 at S251 ⊢
        clear nq osq
        clear ei51 ej51 pi51 pj51 bi51 bj51 ri51 rj51
        go_wp2_with fail
        go_roundg (h - i)
        case measure => omega
        case rel => exact ⟨i, h, f, rfl, rfl, by omega, by omega, by omega, S251, (show Hid _ from by
          rw [← HO.out, bsF_no _ f i j hlt (by show (!ltOf (cfL labels) d[mid + m0 - 1 - (i + j) / 2]! d[(i + j) / 2]!) = false; rw [e0, hlv]; rfl), e0]; exact rfl)⟩
      | false =>
        obtain ⟨iN50, hiN50⟩ : ∃ q, q = mid + m0 - 1 - h := ⟨_, rfl⟩
        have ei50 : ((cc : Int)).toNat = iN50 := by omega
        have pi50 : (0 : Int) ≤ (cc : Int) := by omega
        have bi50 : (cc : Int) < (d.size : Int) := by omega
        have ri50 : IntKind.i64.wrap ((cc : Int)) = (cc : Int) := by rw [IntKind.wrap_i64]; omega
        obtain ⟨jN50, hjN50⟩ : ∃ q, q = h := ⟨_, rfl⟩
        have ej50 : ((h : Int)).toNat = jN50 := by omega
        have pj50 : (0 : Int) ≤ (h : Int) := by omega
        have bj50 : (h : Int) < (d.size : Int) := by omega
        have rj50 : IntKind.i64.wrap ((h : Int)) = (h : Int) := by rw [IntKind.wrap_i64]; omega
        obtain ⟨x50, hx50⟩ : ∃ x, x = d[mid + m0 - 1 - h]! := ⟨_, rfl⟩
        obtain ⟨y50, hy50⟩ : ∃ x, x = d[h]! := ⟨_, rfl⟩
        have l50a := S1.out.cl R HS9.out (mid + m0 - 1 - h) (by omega)
        have l50b := S1.out.cl R HS9.out (h) (by omega)
        rw [← hx50, ← hiN50] at l50a
        rw [← hy50, ← hjN50] at l50b
        have hc50 := S1.out.cmp HC.out HS9.out x50 y50
        have hv50 : ¬ cfL labels x50 y50 < 0 := by rw [hx50, hy50]; exact of_decide_eq_false hlv
        have hd50 : decide (cfL labels x50 y50 < 0) = false := decide_eq_false hv50
        clear hx50 hy50 hiN50 hjN50
        go_wp2_with fail
        go_quiet_grown (first | (go_at_fn 57; refine Calls.grown_of (hc50 _ _)))
        have S250 : Aside (SW (encF (m := m)) w0 blk off d (grow (wr.drewN nq) osq)) := S1.out.grown nq osq
        clear l50a l50b hc50 S1 hv50 hd50
        generalize grow (wr.drewN nq) osq = w250 at S250 ⊢
        clear nq osq
        clear ei50 ej50 pi50 pj50 bi50 bj50 ri50 rj50
        go_wp2_with fail
        go_roundg (j - (h + 1))
        case measure => omega
        case rel => exact ⟨h + 1, j, f, by go_num, rfl, by omega, by omega, by omega, S250, (show Hid _ from by
          rw [← HO.out, bsF_yes _ f i j hlt (by show (!ltOf (cfL labels) d[mid + m0 - 1 - (i + j) / 2]! d[(i + j) / 2]!) = true; rw [e0, hlv]; rfl), e0]; exact rfl)⟩
    · obtain rfl : i = j := by omega
      have hltz : ¬ (i : Int) < (i : Int) := by omega
      have hI := HO.out
      rw [bsF_end _ _ _ _ hlt] at hI
      have HI := Lib.hid hI
      clear hI HO
      have HE := Lib.hid (show symF (ltOf (cfL labels)) (f9 + 1) a m0 b d = symC (ltOf (cfL labels)) f9 a b mid m0 i d from by rw [symF_c _ _ _ _ _ _ h1 h2, hmid, hst, HI.out])
      obtain ⟨en, hen⟩ : ∃ en, mid + m0 - i = en := ⟨_, rfl⟩
      have zen : (mid : Int) + (m0 : Int) - (i : Int) = (en : Int) := by omega
      clear HI hlt hltz
      by_cases k1 : i < m0
      · by_cases k2 : i < mid
        · by_cases k3 : a < i
          · by_cases k4 : en < b
            · have q0 : (i : Int) < (m0 : Int) := by omega
              have q1 : (m0 : Int) < (en : Int) := by omega
              have q2 : (a : Int) < (i : Int) := by omega
              have q3 : (i : Int) < (mid : Int) := by omega
              have q4 : (mid : Int) < (en : Int) := by omega
              have q5 : (en : Int) < (b : Int) := by omega
              have HX := Lib.hid (show symF (ltOf (cfL labels)) (f9 + 1) a m0 b d = (symF (ltOf (cfL labels)) f9 mid en b (symF (ltOf (cfL labels)) f9 a i mid (rotF m0 (en - i) (m0 - i) (en - m0) d))) from by rw [HE.out]; simp only [symC, rotD, hen, if_pos (show i < m0 ∧ m0 < en from by omega), if_pos (show a < i ∧ i < mid from by omega), if_pos (show mid < en ∧ en < b from by omega)])
              have HT1 := Lib.hid (HROT.out wr d rfl S1.out i m0 en (by omega) (by omega) (by omega))
              clear HE hen
              go_wp2_with (first
                | (go_at_call 86; (with_reducible refine HT1.out.mono ?_); rintro e1 w1 ⟨rfl, hsw⟩; have T1 := Lib.hid hsw; clear hsw HT1; have HT2 := Lib.hid (HIND.out w1 (rotF m0 (en - i) (m0 - i) (en - m0) d) (size_rotF _ _ _ _ _) T1.out a i mid (by omega) (by omega) (by omega) (by omega)))
                | (go_at_call 78; (with_reducible refine HT2.out.mono ?_); rintro e2 w2 ⟨rfl, hsw⟩; have T2 := Lib.hid hsw; clear hsw HT2; have HT3 := Lib.hid (HIND.out w2 (symF (ltOf (cfL labels)) f9 a i mid (rotF m0 (en - i) (m0 - i) (en - m0) d)) ((size_symF _ _ _ _ _ _).trans (size_rotF _ _ _ _ _)) T2.out mid en b (by omega) (by omega) (by omega) (by omega)))
                | (go_at_call 78; (with_reducible refine HT3.out.mono ?_); rintro e3 w3 ⟨rfl, hsw⟩; have T3 := Lib.hid hsw; clear hsw HT3))
              go_returns
              exact ⟨rfl, by rw [HX.out]; exact T3.out⟩
            · have q0 : (i : Int) < (m0 : Int) := by omega
              have q1 : (m0 : Int) < (en : Int) := by omega
              have q2 : (a : Int) < (i : Int) := by omega
              have q3 : (i : Int) < (mid : Int) := by omega
              have q4 : (mid : Int) < (en : Int) := by omega
              have q5 : ¬ (en : Int) < (b : Int) := by omega
              have HX := Lib.hid (show symF (ltOf (cfL labels)) (f9 + 1) a m0 b d = (symF (ltOf (cfL labels)) f9 a i mid (rotF m0 (en - i) (m0 - i) (en - m0) d)) from by rw [HE.out]; simp only [symC, rotD, hen, if_pos (show i < m0 ∧ m0 < en from by omega), if_pos (show a < i ∧ i < mid from by omega), if_neg (show ¬ (mid < en ∧ en < b) from by omega)])
              have HT1 := Lib.hid (HROT.out wr d rfl S1.out i m0 en (by omega) (by omega) (by omega))
              clear HE hen
              go_wp2_with (first
                | (go_at_call 86; (with_reducible refine HT1.out.mono ?_); rintro e1 w1 ⟨rfl, hsw⟩; have T1 := Lib.hid hsw; clear hsw HT1; have HT2 := Lib.hid (HIND.out w1 (rotF m0 (en - i) (m0 - i) (en - m0) d) (size_rotF _ _ _ _ _) T1.out a i mid (by omega) (by omega) (by omega) (by omega)))
                | (go_at_call 78; (with_reducible refine HT2.out.mono ?_); rintro e2 w2 ⟨rfl, hsw⟩; have T2 := Lib.hid hsw; clear hsw HT2))
              go_returns
              exact ⟨rfl, by rw [HX.out]; exact T2.out⟩
          · by_cases k4 : en < b
            · have q0 : (i : Int) < (m0 : Int) := by omega
              have q1 : (m0 : Int) < (en : Int) := by omega
              have q2 : ¬ (a : Int) < (i : Int) := by omega
              have q3 : (mid : Int) < (en : Int) := by omega
              have q4 : (en : Int) < (b : Int) := by omega
              have HX := Lib.hid (show symF (ltOf (cfL labels)) (f9 + 1) a m0 b d = (symF (ltOf (cfL labels)) f9 mid en b (rotF m0 (en - i) (m0 - i) (en - m0) d)) from by rw [HE.out]; simp only [symC, rotD, hen, if_pos (show i < m0 ∧ m0 < en from by omega), if_neg (show ¬ (a < i ∧ i < mid) from by omega), if_pos (show mid < en ∧ en < b from by omega)])
              have HT1 := Lib.hid (HROT.out wr d rfl S1.out i m0 en (by omega) (by omega) (by omega))
              clear HE hen
              go_wp2_with (first
                | (go_at_call 86; (with_reducible refine HT1.out.mono ?_); rintro e1 w1 ⟨rfl, hsw⟩; have T1 := Lib.hid hsw; clear hsw HT1; have HT3 := Lib.hid (HIND.out w1 (rotF m0 (en - i) (m0 - i) (en - m0) d) (size_rotF _ _ _ _ _) T1.out mid en b (by omega) (by omega) (by omega) (by omega)))
                | (go_at_call 78; (with_reducible refine HT3.out.mono ?_); rintro e3 w3 ⟨rfl, hsw⟩; have T3 := Lib.hid hsw; clear hsw HT3))
              go_returns
              exact ⟨rfl, by rw [HX.out]; exact T3.out⟩
            · have q0 : (i : Int) < (m0 : Int) := by omega
              have q1 : (m0 : Int) < (en : Int) := by omega
              have q2 : ¬ (a : Int) < (i : Int) := by omega
              have q3 : (mid : Int) < (en : Int) := by omega
              have q4 : ¬ (en : Int) < (b : Int) := by omega
              have HX := Lib.hid (show symF (ltOf (cfL labels)) (f9 + 1) a m0 b d = (rotF m0 (en - i) (m0 - i) (en - m0) d) from by rw [HE.out]; simp only [symC, rotD, hen, if_pos (show i < m0 ∧ m0 < en from by omega), if_neg (show ¬ (a < i ∧ i < mid) from by omega), if_neg (show ¬ (mid < en ∧ en < b) from by omega)])
              have HT1 := Lib.hid (HROT.out wr d rfl S1.out i m0 en (by omega) (by omega) (by omega))
              clear HE hen
              go_wp2_with (first
                | (go_at_call 86; (with_reducible refine HT1.out.mono ?_); rintro e1 w1 ⟨rfl, hsw⟩; have T1 := Lib.hid hsw; clear hsw HT1))
              go_returns
              exact ⟨rfl, by rw [HX.out]; exact T1.out⟩
        · exfalso; omega
      · by_cases k2 : i < mid
        · have q0 : ¬ (i : Int) < (m0 : Int) := by omega
          have q1 : (a : Int) < (i : Int) := by omega
          have q2 : (i : Int) < (mid : Int) := by omega
          have q3 : ¬ (mid : Int) < (en : Int) := by omega
          have HX := Lib.hid (show symF (ltOf (cfL labels)) (f9 + 1) a m0 b d = (symF (ltOf (cfL labels)) f9 a i mid d) from by rw [HE.out]; simp only [symC, rotD, hen, if_neg (show ¬ (i < m0 ∧ m0 < en) from by omega), if_pos (show a < i ∧ i < mid from by omega), if_neg (show ¬ (mid < en ∧ en < b) from by omega)])
          have HT2 := Lib.hid (HIND.out wr d rfl S1.out a i mid (by omega) (by omega) (by omega) (by omega))
          clear HE hen
          go_wp2_with (first
            | (go_at_call 78; (with_reducible refine HT2.out.mono ?_); rintro e2 w2 ⟨rfl, hsw⟩; have T2 := Lib.hid hsw; clear hsw HT2))
          go_returns
          exact ⟨rfl, by rw [HX.out]; exact T2.out⟩
        · have q0 : ¬ (i : Int) < (m0 : Int) := by omega
          have q1 : (a : Int) < (i : Int) := by omega
          have q2 : ¬ (i : Int) < (mid : Int) := by omega
          have q3 : ¬ (mid : Int) < (en : Int) := by omega
          have HX := Lib.hid (show symF (ltOf (cfL labels)) (f9 + 1) a m0 b d = d from by rw [HE.out]; simp only [symC, rotD, hen, if_neg (show ¬ (i < m0 ∧ m0 < en) from by omega), if_neg (show ¬ (a < i ∧ i < mid) from by omega), if_neg (show ¬ (mid < en ∧ en < b) from by omega)])
          clear HE hen
          go_wp2_with fail
          go_returns
          exact ⟨rfl, by rw [HX.out]; exact S1.out⟩
theorem sym_any {m : Nat} {w0 : World} {blk off cap lb : Nat} {labels : List Str} (d0 : Array (Fin (m + 1))) (R : Row1 (encF (m := m)) w0 blk off d0) (HC : CmpLays1 Tryd.prog 57 #[.pointer (some ⟨lb, 0, none⟩)] (encF (m := m)) (cfL labels) blk off d0.size w0) (hsz : d0.size ≤ 100000000000) : ∀ (f : Nat) (w : World) (d : Array (Fin (m + 1))) (hs : d.size = d0.size) (S : SW (encF (m := m)) w0 blk off d w) (a m0 b : Nat), a < m0 → m0 < b → b ≤ d.size → b - a ≤ f →
    Calls Tryd.prog 78 #[.slice (some ⟨blk, off, none⟩) d.size cap, .int .i64 (a : Nat), .int .i64 (m0 : Nat), .int .i64 (b : Nat), .func (.func 57) #[] #[.pointer (some ⟨lb, 0, none⟩)]] w fun e w' => e = .returned (.tuple #[]) ∧ SW (encF (m := m)) w0 blk off (symF (ltOf (cfL labels)) f a m0 b d) w'
  | 0, w, d, hs, S, a, m0, b, ha, hb, hbs, hf => absurd hf (by omega)
  | f + 1, w, d, hs, S, a, m0, b, ha, hb, hbs, hf => by
    by_cases h1 : m0 - a = 1
    · rw [symF, if_pos h1]
      exact symA_any d0 R HC w d hs S (by omega) a m0 b ha hb hbs h1
    by_cases h2 : b - m0 = 1
    · rw [symF, if_neg h1, if_pos h2]
      exact symB_any d0 R HC w d hs S (by omega) a m0 b ha hb hbs h1 h2
    have IH := sym_any (cap := cap) d0 R HC hsz f
    have IH2 : ∀ (w : World) (dk : Array (Fin (m + 1))) (hsk : dk.size = d.size) (S : SW (encF (m := m)) w0 blk off dk w) (a m0 b : Nat), a < m0 → m0 < b → b ≤ d.size → b - a ≤ f → Calls Tryd.prog 78 #[.slice (some ⟨blk, off, none⟩) d.size cap, .int .i64 (a : Nat), .int .i64 (m0 : Nat), .int .i64 (b : Nat), .func (.func 57) #[] #[.pointer (some ⟨lb, 0, none⟩)]] w fun e w' => e = .returned (.tuple #[]) ∧ SW (encF (m := m)) w0 blk off (symF (ltOf (cfL labels)) f a m0 b dk) w' := fun w dk hsk S a m0 b h3 h4 h5 h6 => by
      have := IH w dk (hsk.trans hs) S a m0 b h3 h4 (by omega) h6
      rw [hsk] at this
      exact this
    by_cases hg : (a + b) / 2 < m0
    · exact symC1_any d0 R HC w d hs S (by omega) a m0 b ha hb hbs f IH2 hf h1 h2 _ rfl hg
    · exact symC2_any d0 R HC w d hs S (by omega) a m0 b ha hb hbs f IH2 hf h1 h2 _ rfl hg
end Go.Proofs.YtjmgnohepoacbaaDoor

namespace Go.Proofs.YtjmgnohepoacbaaDoor
open Go.ChangeShapes Go.WideShapes Go.ChangeAt Go.RowKit Go.Sort
set_option linter.unusedVariables false
set_option linter.unusedSimpArgs false

theorem size_insI {α : Type} [Inhabited α] (lt : α → α → Bool) (a : Nat) : ∀ (j : Nat) (d : Array α), (insInner lt a j d).size = d.size
  | 0, d => rfl
  | j + 1, d => by
    unfold insInner
    split
    · exact (size_insI lt a j _).trans (size_swp _ _ _)
    · rfl
theorem size_insO {α : Type} [Inhabited α] (lt : α → α → Bool) (a b : Nat) : ∀ (k i : Nat) (d : Array α), b - i ≤ k → (insOuter lt a b i d).size = d.size
  | 0, i, d, h => by
    unfold insOuter
    rw [if_neg (by omega)]
  | k + 1, i, d, h => by
    unfold insOuter
    split
    · exact (size_insO lt a b k (i + 1) _ (by omega)).trans (size_insI _ _ _ _)
    · rfl
theorem size_ins {α : Type} [Inhabited α] (lt : α → α → Bool) (d : Array α) (a b : Nat) : (insertionSort lt d a b).size = d.size := by
  unfold insertionSort
  exact size_insO _ _ _ _ _ _ (Nat.le_refl _)
theorem size_blk1 {α : Type} [Inhabited α] (lt : α → α → Bool) (n : Nat) : ∀ (f a b : Nat) (d : Array α), (blk1 lt n f a b d).size = d.size
  | 0, a, b, d => size_ins _ _ _ _
  | f + 1, a, b, d => by
    unfold blk1
    split
    · exact (size_blk1 lt n f _ _ _).trans (size_ins _ _ _ _)
    · exact size_ins _ _ _ _
theorem size_mrg {α : Type} [Inhabited α] (lt : α → α → Bool) (n bs : Nat) : ∀ (f a b : Nat) (d : Array α), (mrg lt n bs f a b d).size = d.size
  | 0, a, b, d => by
    unfold mrg
    split
    · exact size_symF _ _ _ _ _ _
    · rfl
  | f + 1, a, b, d => by
    unfold mrg
    split
    · exact (size_mrg lt n bs f _ _ _).trans (size_symF _ _ _ _ _ _)
    · split
      · exact size_symF _ _ _ _ _ _
      · rfl
theorem size_rnds {α : Type} [Inhabited α] (lt : α → α → Bool) (n : Nat) : ∀ (f bs : Nat) (d : Array α), (rnds lt n f bs d).size = d.size
  | 0, bs, d => rfl
  | f + 1, bs, d => by
    unfold rnds
    split
    · exact (size_rnds lt n f _ _).trans (size_mrg _ _ _ _ _ _ _)
    · rfl
theorem size_stabF {α : Type} [Inhabited α] (lt : α → α → Bool) (n : Nat) (d : Array α) : (stabF lt n d).size = d.size := (size_rnds _ _ _ _ _).trans (size_blk1 _ _ _ _ _ _)
set_option maxHeartbeats 16000000 in
set_option maxRecDepth 1000000 in
theorem stable_any {m : Nat} {w0 : World} {blk off cap lb : Nat} {labels : List Str} (d : Array (Fin (m + 1))) (R : Row1 (encF (m := m)) w0 blk off d) (HC : CmpLays1 Tryd.prog 57 #[.pointer (some ⟨lb, 0, none⟩)] (encF (m := m)) (cfL labels) blk off d.size w0) (w : World) (S : SW (encF (m := m)) w0 blk off d w) (hsz : d.size ≤ 100000000000) :
    Calls Tryd.prog 66 #[.slice (some ⟨blk, off, none⟩) d.size cap, .int .i64 (d.size : Nat), .func (.func 57) #[] #[.pointer (some ⟨lb, 0, none⟩)]] w fun e w' => e = .returned (.tuple #[]) ∧ SW (encF (m := m)) w0 blk off (stabF (ltOf (cfL labels)) d.size d) w' := by
  obtain ⟨n, hn⟩ : ∃ n, d.size = n := ⟨_, rfl⟩
  have HINS := Lib.hid (fun (w : World) (dk : Array (Fin (m + 1))) (hsk : dk.size = n) (S : SW (encF (m := m)) w0 blk off dk w) (a b : Nat) (hab : a ≤ b) (hb : b ≤ n) => (show Calls Tryd.prog 77 #[.slice (some ⟨blk, off, none⟩) n cap, .int .i64 (a : Nat), .int .i64 (b : Nat), .func (.func 57) #[] #[.pointer (some ⟨lb, 0, none⟩)]] w fun e w' => e = .returned (.tuple #[]) ∧ SW (encF (m := m)) w0 blk off (insertionSort (ltOf (cfL labels)) dk a b) w' from by
    have := Any.insertionSortCmpFunc_s Tryd.insC (encF (m := m)) (cfL labels) 57 #[.pointer (some ⟨lb, 0, none⟩)] blk off cap a b d dk w0 w cmp_enters HC R (hn.trans hsk.symm) S hab (by omega) (by omega)
    rw [hsk] at this
    exact this))
  have HSYM := Lib.hid (fun (w : World) (dk : Array (Fin (m + 1))) (hsk : dk.size = n) (S : SW (encF (m := m)) w0 blk off dk w) (a m0 b : Nat) (h1 : a < m0) (h2 : m0 < b) (h3 : b ≤ n) => (show Calls Tryd.prog 78 #[.slice (some ⟨blk, off, none⟩) n cap, .int .i64 (a : Nat), .int .i64 (m0 : Nat), .int .i64 (b : Nat), .func (.func 57) #[] #[.pointer (some ⟨lb, 0, none⟩)]] w fun e w' => e = .returned (.tuple #[]) ∧ SW (encF (m := m)) w0 blk off (symF (ltOf (cfL labels)) (b - a) a m0 b dk) w' from by
    have := sym_any (cap := cap) d R HC hsz (b - a) w dk (hsk.trans hn.symm) S a m0 b h1 h2 (by omega) (Nat.le_refl _)
    rw [hsk] at this
    exact this))
  rw [hn]
  have S0 : Aside (SW (encF (m := m)) w0 blk off d w) := S
  have HN := Lib.hid hn
  rw [hn] at hsz
  clear S HC R hn
  go_enter Tryd.func66, Tryd.ntmps66
  go_wp2_with fail
  go_loopg [7, 8] n (fun g1 va vb wr => ∃ (a f : Nat) (dk : Array (Fin (m + 1))), va = .int .i64 a ∧ vb = .int .i64 (a + 20 : Nat) ∧ a ≤ n ∧ n - a ≤ f ∧ n - a ≤ g1 ∧ dk.size = n ∧ Aside (SW (encF (m := m)) w0 blk off dk wr) ∧ Hid (blk1 (ltOf (cfL labels)) n f a (a + 20) dk = blk1 (ltOf (cfL labels)) n n 0 20 d))
  case atStart => exact ⟨0, n, d, rfl, rfl, by omega, by omega, by omega, HN.out, S0, rfl⟩
  case round =>
    clear S0
    obtain ⟨a, f, dk, rfl, rfl, han, hf, hg1, hsk, S1, HO⟩ := hrel
    obtain ⟨b, hb⟩ : ∃ b, a + 20 = b := ⟨_, rfl⟩
    rw [hb] at HO ⊢
    by_cases hle : b ≤ n
    · have hlez : (b : Int) ≤ (n : Int) := by omega
      obtain ⟨f, rfl⟩ : ∃ g, f = g + 1 := ⟨f - 1, by omega⟩
      have h := HO.out
      rw [blk1, if_pos hle] at h
      have HX := Lib.hid h
      have HT := Lib.hid (HINS.out wr dk hsk S1.out a b (by omega) hle)
      clear h HO
      go_wp2_with (go_at_call 77; (with_reducible refine HT.out.mono ?_); rintro e1 w1 ⟨rfl, hsw⟩; have S2 := Lib.hid hsw; clear hsw HT)
      go_roundg (n - b)
      case measure => omega
      case rel => exact ⟨b, f, insertionSort (ltOf (cfL labels)) dk a b, rfl, by go_num, hle, by omega, by omega, by rw [size_ins]; exact hsk, S2.out, HX.out⟩
    · have hlez : ¬ (b : Int) ≤ (n : Int) := by omega
      have h := HO.out
      rw [blk1_end _ _ _ _ _ _ hle] at h
      have HX := Lib.hid h
      have HT := Lib.hid (HINS.out wr dk hsk S1.out a n (by omega) (Nat.le_refl _))
      clear h HO
      go_wp2_with (go_at_call 77; (with_reducible refine HT.out.mono ?_); rintro e1 w1 ⟨rfl, hsw⟩; have S2 := Lib.hid hsw; clear hsw HT)
      go_loopg [6] n (fun g2 vs wr2 => ∃ (bs f : Nat) (dk : Array (Fin (m + 1))), vs = .int .i64 bs ∧ 20 ≤ bs ∧ bs ≤ 2 * n + 20 ∧ n - bs ≤ f ∧ n - bs ≤ g2 ∧ dk.size = n ∧ Aside (SW (encF (m := m)) w0 blk off dk wr2) ∧ Hid (rnds (ltOf (cfL labels)) n f bs dk = rnds (ltOf (cfL labels)) n n 20 (blk1 (ltOf (cfL labels)) n n 0 20 d)))
      case atStart => exact ⟨20, n, insertionSort (ltOf (cfL labels)) dk a n, rfl, by omega, by omega, by omega, by omega, by rw [size_ins]; exact hsk, S2.out, by rw [HX.out]; exact rfl⟩
      case round =>
        clear S2 HX S1 hsk
        clear dk
        obtain ⟨bs, f, dk, rfl, hb20, hbs, hf, hg2, hsk, S1, HO⟩ := hrel
        by_cases hlt : bs < n
        · have hltz : (bs : Int) < (n : Int) := by omega
          obtain ⟨f, rfl⟩ : ∃ g, f = g + 1 := ⟨f - 1, by omega⟩
          have h := HO.out
          rw [rnds, if_pos hlt] at h
          have HX := Lib.hid h
          clear h HO
          go_wp2_with fail
          go_loopg [7, 8] n (fun g3 va vb wr3 => ∃ (a f : Nat) (dj : Array (Fin (m + 1))), va = .int .i64 a ∧ vb = .int .i64 (a + 2 * bs : Nat) ∧ a ≤ n ∧ n - a ≤ f ∧ n - a ≤ g3 ∧ dj.size = n ∧ Aside (SW (encF (m := m)) w0 blk off dj wr3) ∧ Hid (mrg (ltOf (cfL labels)) n bs f a (a + 2 * bs) dj = mrg (ltOf (cfL labels)) n bs n 0 (2 * bs) dk))
          case atStart => exact ⟨0, n, dk, rfl, by go_num, by omega, by omega, by omega, hsk, S1, by rw [Nat.zero_add]; exact rfl⟩
          case round =>
            clear S1
            obtain ⟨a, f3, dj, rfl, rfl, han, hf3, hg3, hsj, SJ, HU⟩ := hrel
            obtain ⟨b, hb⟩ : ∃ b, a + 2 * bs = b := ⟨_, rfl⟩
            rw [hb] at HU ⊢
            by_cases hle : b ≤ n
            · have hlez : (b : Int) ≤ (n : Int) := by omega
              obtain ⟨f3, rfl⟩ : ∃ g, f3 = g + 1 := ⟨f3 - 1, by omega⟩
              have h := HU.out
              rw [mrg, if_pos hle] at h
              have HY := Lib.hid h
              have HT := Lib.hid (HSYM.out wr dj hsj SJ.out a (a + bs) b (by omega) (by omega) hle)
              rw [show ((a + bs : Nat) : Int) = (a : Int) + (bs : Int) by omega] at HT
              clear h HU
              go_wp2_with (go_at_call 78; (with_reducible refine HT.out.mono ?_); rintro e1 w1 ⟨rfl, hsw⟩; have S2 := Lib.hid hsw; clear hsw HT)
              go_roundg (n - b)
              case measure => omega
              case rel => exact ⟨b, f3, symF (ltOf (cfL labels)) (b - a) a (a + bs) b dj, rfl, by go_num, hle, by omega, by omega, by rw [size_symF]; exact hsj, S2.out, HY.out⟩
            · have hlez : ¬ (b : Int) ≤ (n : Int) := by omega
              have h := HU.out
              rw [mrg_end _ _ _ _ _ _ _ hle] at h
              by_cases hmn : a + bs < n
              · have hmnz : (a : Int) + (bs : Int) < (n : Int) := by omega
                rw [if_pos hmn] at h
                have HY := Lib.hid h
                have HT := Lib.hid (HSYM.out wr dj hsj SJ.out a (a + bs) n (by omega) hmn (Nat.le_refl _))
                rw [show ((a + bs : Nat) : Int) = (a : Int) + (bs : Int) by omega] at HT
                clear h HU
                go_wp2_with (go_at_call 78; (with_reducible refine HT.out.mono ?_); rintro e1 w1 ⟨rfl, hsw⟩; have S2 := Lib.hid hsw; clear hsw HT)
                go_roundg (n - bs * 2)
                case measure => omega
                case rel => exact ⟨bs * 2, f, symF (ltOf (cfL labels)) (n - a) a (a + bs) n dj, by go_num, by omega, by omega, by omega, by omega, by rw [size_symF]; exact hsj, S2.out, (show Hid _ from by rw [HY.out]; exact HX.out)⟩
              · have hmnz : ¬ (a : Int) + (bs : Int) < (n : Int) := by omega
                rw [if_neg hmn] at h
                have HY := Lib.hid h
                clear h HU
                go_wp2_with fail
                go_roundg (n - bs * 2)
                case measure => omega
                case rel => exact ⟨bs * 2, f, dj, by go_num, by omega, by omega, by omega, by omega, hsj, SJ, (show Hid _ from by rw [HY.out]; exact HX.out)⟩
        · have hltz : ¬ (bs : Int) < (n : Int) := by omega
          have h := HO.out
          rw [rnds_end _ _ _ _ _ hlt] at h
          have HX := Lib.hid h
          clear h HO
          go_wp2_with fail
          go_returns
          exact ⟨rfl, by unfold stabF; rw [← HX.out]; exact S1.out⟩
theorem sortStable_any {m : Nat} {w0 : World} {blk off cap lb : Nat} {labels : List Str} (d : Array (Fin (m + 1))) (R : Row1 (encF (m := m)) w0 blk off d) (HC : CmpLays1 Tryd.prog 57 #[.pointer (some ⟨lb, 0, none⟩)] (encF (m := m)) (cfL labels) blk off d.size w0) (hsz : d.size ≤ 100000000000) :
    Calls Tryd.prog 56 #[.slice (some ⟨blk, off, none⟩) d.size cap, .func (.func 57) #[] #[.pointer (some ⟨lb, 0, none⟩)]] w0 fun e w' => e = .returned (.tuple #[]) ∧ SW (encF (m := m)) w0 blk off (stabF (ltOf (cfL labels)) d.size d) w' := by
  have HT := Lib.hid (stable_any (cap := cap) d R HC w0 (SW.start R.hH) hsz)
  clear R HC
  go_enter Tryd.func56, Tryd.ntmps56
  go_wp2_with (go_at_call 66; (with_reducible refine HT.out.mono ?_); rintro e1 w1 ⟨rfl, hsw⟩; have S2 := Lib.hid hsw; clear hsw HT)
  go_returns
  exact ⟨rfl, S2.out⟩
end Go.Proofs.YtjmgnohepoacbaaDoor

namespace Go.Proofs.YtjmgnohepoacbaaDoor
open Go Go.ChangeShapes Go.WideShapes Go.ChangeAt Go.RowKit Go.Sort
set_option linter.unusedVariables false
set_option linter.unusedSimpArgs false

section
variable {P : Program} {ops : Array Oper} {Q : Exit → Act → World → Prop} {md : Region.Mode} {S1 S2 : World → Prop} {ss : List Nat}
/-- Is no store done yet? -/
def clo (ss : List Nat) (listed : Array Bool) : Bool := ss.all fun l => !listed.getD l true
theorem clo_set {listed : Array Bool} {j : Nat} (hj : j ∉ ss) (h : clo ss listed = true) : clo ss (listed.setIfInBounds j true) = true := by
  unfold clo at h ⊢
  rw [List.all_eq_true] at h ⊢
  intro l hl
  rw [getD_set_ne true (show j ≠ l from fun e => hj (by rw [e]; exact hl))]
  exact h l hl
theorem clo_back {listed : Array Bool} {j : Nat} (h : clo ss (listed.setIfInBounds j true) = true) : clo ss listed = true := by
  unfold clo at h ⊢
  rw [List.all_eq_true] at h ⊢
  intro l hl
  have h := h l hl
  by_cases e : j = l
  · subst e
    rcases Nat.lt_or_ge j listed.size with h' | h'
    · simp [Array.getD, h'] at h
    · simp [Array.getD, Nat.not_lt.2 h'] at h
  · rw [getD_set_ne true e] at h; exact h
def wpAnyC (P : Program) (md : Region.Mode) (ops : Array Oper) (Q : Exit → Act → World → Prop) (S1 S2 : World → Prop) (ss : List Nat) : Nat → Array Bool → Act → World → Prop
  | 0, listed, a, w => Region.ready md ops listed = [] ∧ Q .normal a w
  | fuel + 1, listed, a, w =>
    (Region.ready md ops listed = [] → Q .normal a w) ∧
    ∀ i ∈ Region.ready md ops listed, wpOp P ops Q i (fun a' w' => (S2 w' ∧ (clo ss (listed.setIfInBounds i true) = true → S1 w')) ∧ wpAnyC P md ops Q S1 S2 ss fuel (listed.setIfInBounds i true) a' w') a w
theorem wpAny_of_C : ∀ (fuel : Nat) (listed : Array Bool) (a : Act) (w : World), wpAnyC P md ops Q S1 S2 ss fuel listed a w → wpAny P md ops Q fuel listed a w
  | 0, _, _, _, h => h
  | fuel + 1, _, _, _, h => ⟨h.1, fun i hi => wpOp_mono (fun a' w' h' => wpAny_of_C fuel _ a' w' h'.2) (h.2 i hi)⟩
theorem wpAnyC_first {i : Nat} {oi : Oper} {v : Value} (T : World → Prop) (hi : ops[i]? = some oi) (hsel : ∀ (j : Nat) (o : Oper) cs b, ops[j]? = some o → o.op ≠ .select cs b)
    (hQ : ∀ c a w, Q (.panic c) (a.put oi.dst v) w → Q (.panic c) a w) (hiss : i ∉ ss)
    (hT : (∀ w, S2 w → T w) ∨ ((∀ w, S2 w ∧ S1 w → T w) ∧ ∀ s ∈ ss, Region.waitsFor md ops s i = true)) :
    ∀ (fuel : Nat) (listed : Array Bool) (a : Act) (w : World),
      (∀ j oj, ops[j]? = some oj → j ≠ i → listed.getD j true = false → (∀ e ∈ oj.after, Region.binds md e = true → e.on ≠ i) → oi.apart ops oj = true) →
      i ∈ Region.ready md ops listed → YieldsIf P ops T oi v a → S2 w ∧ (clo ss listed = true → S1 w) → T w → (((∀ w, S2 w ∧ S1 w → T w) ∧ ∀ s ∈ ss, Region.waitsFor md ops s i = true) → clo ss listed = true ∨ ∀ w, S2 w → T w) →
      wpAnyC P md ops Q S1 S2 ss fuel (listed.setIfInBounds i true) (a.put oi.dst v) w → wpAnyC P md ops Q S1 S2 ss (fuel + 1) listed a w := by
  intro fuel
  induction fuel with
  | zero =>
    intro listed a w _ hr hy hS hTw _ H
    refine ⟨fun h => (by rw [h] at hr; cases hr), fun j hj => ?_⟩
    by_cases hji : j = i
    · subst hji; exact hy.wpOp hi hTw ⟨⟨hS.1, fun h => hS.2 (clo_back h)⟩, H⟩
    · have := ready_mono hj hji
      rw [H.1] at this
      cases this
  | succ fuel ih =>
    intro listed a w hfree hr hy hS hTw hcl H
    refine ⟨fun h => (by rw [h] at hr; cases hr), fun j hj => ?_⟩
    by_cases hji : j = i
    · subst hji; exact hy.wpOp hi hTw ⟨⟨hS.1, fun h => hS.2 (clo_back h)⟩, H⟩
    · have h1 := H.2 j (ready_mono hj hji)
      obtain ⟨hjun, oj, hoj, hall⟩ := mem_ready.1 hj
      have hnot : ∀ e ∈ oj.after, Region.binds md e = true → e.on ≠ i := fun e he hb heq => by
        have h1 := hall e he hb
        have h0 := (mem_ready.1 hr).1
        rw [heq] at h1
        rcases Nat.lt_or_ge i listed.size with h' | h'
        · simp [h'] at h0 h1; rw [h0] at h1; cases h1
        · simp [Array.getElem?_eq_none h'] at h1
      have h2 := wpOp_putIf hoj (hfree j oj hoj hji hjun hnot) (fun cs b => hsel i oi cs b hi) (fun cs b => hsel j oj cs b hoj) hQ hy h1
      have hfree' : ∀ k ok, ops[k]? = some ok → k ≠ i → (listed.setIfInBounds j true).getD k true = false →
          (∀ e ∈ ok.after, Region.binds md e = true → e.on ≠ i) → oi.apart ops ok = true := fun k ok hk hki hun hno => by
        refine hfree k ok hk hki ?_ hno
        by_cases hjk : j = k
        · subst hjk; exact hjun
        · rw [getD_set_ne true hjk] at hun; exact hun
      refine wpOp_mono (fun a' w' h3 => ?_) h2
      have hS' : S2 w' ∧ (clo ss (listed.setIfInBounds j true) = true → S1 w') := by
        refine ⟨h3.2.1.1, fun hc => h3.2.1.2 ?_⟩
        rw [Array.setIfInBounds_comm _ _ (Ne.symm hji)]
        exact clo_set hiss hc
      have hcl' : ((∀ w, S2 w ∧ S1 w → T w) ∧ ∀ s ∈ ss, Region.waitsFor md ops s i = true) → clo ss (listed.setIfInBounds j true) = true ∨ ∀ w, S2 w → T w := fun hh => by
        rcases hcl hh with hc | hc
        · refine .inl (clo_set (fun hjs => ?_) hc)
          obtain ⟨oj', hoj', e, he, hb, hon⟩ := Region.waitsFor_spec (hh.2 j hjs)
          rw [hoj] at hoj'
          cases hoj'
          exact hnot e he hb hon
        · exact .inr hc
      have hTw' : T w' := by
        rcases hT with hT | hT
        · exact hT w' hS'.1
        · rcases hcl' hT with hc | hc
          · exact hT.1 w' ⟨hS'.1, hS'.2 hc⟩
          · exact hc w' hS'.1
      exact ⟨hS', ih (listed.setIfInBounds j true) a' w' hfree' (ready_mono hr (Ne.symm hji)) h3.1 hS' hTw' hcl' (by rw [Array.setIfInBounds_comm _ _ hji]; exact h3.2.2)⟩
/-- An operation that yields whatever the stores are. -/
theorem wpAnyC_take {i : Nat} {oi : Oper} {v : Value} {fuel : Nat} {listed : Array Bool} {a : Act} {w : World} (hi : ops[i]? = some oi)
    (hs : Region.noSelect ops = true) (hf : Region.free md ops listed i = true) (hr : (Region.ready md ops listed).contains i = true) (hn : ss.contains i = false)
    (hQ : ∀ c a w, Q (.panic c) (a.put oi.dst v) w → Q (.panic c) a w) (hy : YieldsIf P ops S2 oi v a) (hS : S2 w ∧ (clo ss listed = true → S1 w))
    (h : wpAnyC P md ops Q S1 S2 ss fuel (listed.setIfInBounds i true) (a.put oi.dst v) w) : wpAnyC P md ops Q S1 S2 ss (fuel + 1) listed a w :=
  wpAnyC_first S2 hi (Region.noSelect_spec hs) hQ (by simpa using hn) (.inl fun _ h => h) fuel listed a w (Region.free_spec hi hf) (by simpa using hr) hy hS hS.1 (fun _ => .inr fun _ h => h) h
theorem wpAnyC_takeY {i : Nat} {oi : Oper} {v : Value} {fuel : Nat} {listed : Array Bool} {a : Act} {w : World} (hs : Region.noSelect ops = true) (hf : Region.free md ops listed i = true) (hr : (Region.ready md ops listed).contains i = true) (hn : ss.contains i = false) (hS : S2 w ∧ (clo ss listed = true → S1 w))
    (hi : ops[i]? = some oi) (hQ : ∀ c a w, Q (.panic c) (a.put oi.dst v) w → Q (.panic c) a w) (hw : Region.wanted oi (yielded ops a.tmps) = true) (hy : ∀ w, S2 w → (execOp a.eval oi).run P w = .ok (.value v) w)
    (h : wpAnyC P md ops Q S1 S2 ss fuel (listed.setIfInBounds i true) (a.put oi.dst v) w) : wpAnyC P md ops Q S1 S2 ss (fuel + 1) listed a w :=
  wpAnyC_take hi hs hf hr hn hQ (.inl ⟨hw, hy⟩) hS h
/-- A load of what the stores write. -/
theorem wpAnyC_take1 {i : Nat} {oi : Oper} {v : Value} {fuel : Nat} {listed : Array Bool} {a : Act} {w : World} (hi : ops[i]? = some oi)
    (hs : Region.noSelect ops = true) (hf : Region.free md ops listed i = true) (hr : (Region.ready md ops listed).contains i = true) (hn : ss.contains i = false)
    (hw : ss.all (fun s => Region.waitsFor md ops s i) = true) (hc : clo ss listed = true)
    (hQ : ∀ c a w, Q (.panic c) (a.put oi.dst v) w → Q (.panic c) a w) (hy : YieldsIf P ops (fun w => S2 w ∧ S1 w) oi v a) (hS : S2 w ∧ S1 w)
    (h : wpAnyC P md ops Q S1 S2 ss fuel (listed.setIfInBounds i true) (a.put oi.dst v) w) : wpAnyC P md ops Q S1 S2 ss (fuel + 1) listed a w :=
  wpAnyC_first (fun w => S2 w ∧ S1 w) hi (Region.noSelect_spec hs) hQ (by simpa using hn) (.inr ⟨fun _ h => h, fun s hss => List.all_eq_true.1 hw s hss⟩) fuel listed a w (Region.free_spec hi hf) (by simpa using hr) hy ⟨hS.1, fun _ => hS.2⟩ hS (fun _ => .inl hc) h
theorem wpAnyC_take1Y {i : Nat} {oi : Oper} {v : Value} {fuel : Nat} {listed : Array Bool} {a : Act} {w : World} (hs : Region.noSelect ops = true) (hf : Region.free md ops listed i = true) (hr : (Region.ready md ops listed).contains i = true) (hn : ss.contains i = false) (hws : ss.all (fun s => Region.waitsFor md ops s i) = true) (hc : clo ss listed = true) (hS : S2 w ∧ S1 w)
    (hi : ops[i]? = some oi) (hQ : ∀ c a w, Q (.panic c) (a.put oi.dst v) w → Q (.panic c) a w) (hw : Region.wanted oi (yielded ops a.tmps) = true) (hy : ∀ w, S2 w ∧ S1 w → (execOp a.eval oi).run P w = .ok (.value v) w)
    (h : wpAnyC P md ops Q S1 S2 ss fuel (listed.setIfInBounds i true) (a.put oi.dst v) w) : wpAnyC P md ops Q S1 S2 ss (fuel + 1) listed a w :=
  wpAnyC_take1 hi hs hf hr hn hws hc hQ (.inl ⟨hw, hy⟩) hS h
theorem wpAnyC_done {listed : Array Bool} {a : Act} {w : World} (hr : Region.ready md ops listed = []) (h : Q .normal a w) :
    ∀ fuel, wpAnyC P md ops Q S1 S2 ss fuel listed a w
  | 0 => ⟨hr, h⟩
  | _ + 1 => ⟨fun _ => h, by rw [hr]; simp⟩
theorem wp_region_C {id : Nat} {a : Act} {w : World} (hm : P.follows .mixedOrders = true)
    (h : wpAnyC P .any ops Q S1 S2 ss ops.size (Array.replicate ops.size false) a w.drew) : (Code.region id ops true).wp P Q a w :=
  wp_region_any hm (wpAny_of_C _ _ _ _ h)
/-- One that may come up next. -/
theorem wpAnyC_one {fuel : Nat} {listed : Array Bool} {a : Act} {w : World} {i : Nat} {o : Oper} (hr : Region.ready md ops listed = [i]) (ho : ops[i]? = some o)
    (h : ∀ K' : Act → World → Prop, (∀ a w, S2 w → (clo ss (listed.setIfInBounds i true) = true → S1 w) → wpAnyC P md ops Q S1 S2 ss fuel (listed.setIfInBounds i true) a w → K' a w) → if Region.wanted o (yielded ops a.tmps) = true then Oper.wp P o a w K' Q else K' (a.put o.dst undef) w) :
    wpAnyC P md ops Q S1 S2 ss (fuel + 1) listed a w := by
  refine ⟨fun h0 => (by rw [hr] at h0; cases h0), fun j hj => ?_⟩
  rw [hr] at hj
  have : j = i := by simpa using hj
  subst this
  exact wpOp_step ho (fun K' hK => h K' (fun a w h2 h1 hW => hK a w ⟨⟨h2, h1⟩, hW⟩))
theorem wpAnyC_two {fuel : Nat} {listed : Array Bool} {a : Act} {w : World} {i i' : Nat} {o o' : Oper} (hr : Region.ready md ops listed = [i, i']) (ho : ops[i]? = some o) (ho' : ops[i']? = some o')
    (h : ∀ K' : Act → World → Prop, (∀ a w, S2 w → (clo ss (listed.setIfInBounds i true) = true → S1 w) → wpAnyC P md ops Q S1 S2 ss fuel (listed.setIfInBounds i true) a w → K' a w) → if Region.wanted o (yielded ops a.tmps) = true then Oper.wp P o a w K' Q else K' (a.put o.dst undef) w)
    (h' : ∀ K' : Act → World → Prop, (∀ a w, S2 w → (clo ss (listed.setIfInBounds i' true) = true → S1 w) → wpAnyC P md ops Q S1 S2 ss fuel (listed.setIfInBounds i' true) a w → K' a w) → if Region.wanted o' (yielded ops a.tmps) = true then Oper.wp P o' a w K' Q else K' (a.put o'.dst undef) w) :
    wpAnyC P md ops Q S1 S2 ss (fuel + 1) listed a w := by
  refine ⟨fun h0 => (by rw [hr] at h0; cases h0), fun j hj => ?_⟩
  rw [hr] at hj
  have : j = i ∨ j = i' := by simpa using hj
  rcases this with rfl | rfl
  · exact wpOp_step ho (fun K' hK => h K' (fun a w h2 h1 hW => hK a w ⟨⟨h2, h1⟩, hW⟩))
  · exact wpOp_step ho' (fun K' hK => h' K' (fun a w h2 h1 hW => hK a w ⟨⟨h2, h1⟩, hW⟩))
/-- An operation whose run is known. -/
theorem step_eq {o : Oper} {a : Act} {w w' : World} {v : Value} {K : Act → World → Prop} {E : Prop} (hgd : o.guard = none) (heq : (execOp a.eval o).run P w = .ok (.value v) w') (h : K (a.put o.dst v) w') :
    if Region.wanted o (yielded ops a.tmps) = true then Oper.wp P o a w K Q else E := by
  have hw : Region.wanted o (yielded ops a.tmps) = true := by simp [Region.wanted, hgd]
  rw [if_pos hw]
  unfold Oper.wp
  rw [heq]
  exact h
/-- One that only stores. -/
theorem step_eqS {o : Oper} {a : Act} {w w' : World} {K : Act → World → Prop} {E : Prop} (hgd : o.guard = none) (hd : o.dst = none) (heq : (execOp a.eval o).run P w = .ok .skip w') (h : K a w') :
    if Region.wanted o (yielded ops a.tmps) = true then Oper.wp P o a w K Q else E := by
  have hw : Region.wanted o (yielded ops a.tmps) = true := by simp [Region.wanted, hgd]
  rw [if_pos hw]
  unfold Oper.wp
  rw [heq]
  show K (a.put o.dst undef) w'
  rw [hd]
  exact h
/-- A call of a Go function. -/
theorem step_call {o : Oper} {a : Act} {w : World} {F : FuncId} {args : Array Value} {K : Act → World → Prop} {E : Prop} (hgd : o.guard = none) (heq : (execOp a.eval o).run P w = .ok (.enter F args) w)
    (h : Calls P F args w fun e w' => ∃ v, e = .returned v ∧ K (a.put o.dst v) w') : if Region.wanted o (yielded ops a.tmps) = true then Oper.wp P o a w K Q else E := by
  have hw : Region.wanted o (yielded ops a.tmps) = true := by simp [Region.wanted, hgd]
  rw [if_pos hw]
  unfold Oper.wp
  rw [heq]
  exact h.mono (fun e w' h => by obtain ⟨v, rfl, hk⟩ := h; exact hk)
end
end Go.Proofs.YtjmgnohepoacbaaDoor

namespace Go.Proofs.YtjmgnohepoacbaaDoor
open Go Go.ChangeShapes Go.WideShapes Go.ChangeAt Go.RowKit Go.Sort
set_option linter.unusedVariables false
set_option linter.unusedSimpArgs false

def zV : Val := .mk 0 0 [] [] [] none
/-- What of so many places, in their order, a record has: of a label that stands again right behind, nothing. -/
def recT (labels : List Str) (l : List Val) (ord : List Nat) : Nat → List Str × List Val
  | 0 => ([], [])
  | k + 1 => if k + 1 < ord.length ∧ labels[ord[k + 1]?.getD 0]?.getD [] = labels[ord[k]?.getD 0]?.getD [] then recT labels l ord k
    else ((recT labels l ord k).1 ++ [labels[ord[k]?.getD 0]?.getD []], (recT labels l ord k).2 ++ [l[ord[k]?.getD 0]?.getD zV])
theorem recT_len (labels : List Str) (l : List Val) (ord : List Nat) : ∀ k, (recT labels l ord k).1.length = (recT labels l ord k).2.length ∧ (recT labels l ord k).1.length ≤ k
  | 0 => ⟨rfl, Nat.le_refl _⟩
  | k + 1 => by
    have h := recT_len labels l ord k
    unfold recT
    split
    · omega
    · simp only [List.length_append, List.length_singleton]; omega
/-- The order of the places: sorted by their labels, and of one label by their places. -/
def ordOf : List Str → List Nat
  | [] => []
  | x :: t => (stabF (ltOf (cfL (x :: t) (m := t.length))) (t.length + 1) (Array.ofFn (fun i : Fin (t.length + 1) => i))).toList.map Fin.val
def recOf (labels : List Str) (l : List Val) : Val := .mk 4 0 [] (recT labels l (ordOf labels) labels.length).1 (recT labels l (ordOf labels) labels.length).2 none
theorem ordOf_len (labels : List Str) : (ordOf labels).length = labels.length := by
  cases labels with
  | nil => rfl
  | cons x t => simp [ordOf, size_stabF]
theorem ordOf_lt (labels : List Str) : ∀ i ∈ ordOf labels, i < labels.length := by
  cases labels with
  | nil => intro i hi; cases hi
  | cons x t =>
    intro i hi
    simp only [ordOf, List.mem_map] at hi
    obtain ⟨j, _, rfl⟩ := hi
    exact j.isLt
abbrev HR7 (v3 v4 : Value) : Array Value := #[.int .i64 4, .int .i64 0, .string ⟨#[]⟩, v3, v4, .pointer none]
/-- The record's cells hold c3, c4; its rows are r3, r4 (stored yet, or not). -/
structure TS (w0 : World) (P : Nat → Prop) (g7 : Nat) (W : World) (ls : List Str) (vs : List Val) (css : List (List Value)) (c3 c4 r3 r4 : Value) (V : World) : Prop where
  hd : V.heap[g7]? = some (.cells (HR7 c3 c4) 45)
  o3 : V.ownsRow (g7 + 1) 9 1 r3 ls.length (strs ls)
  o4 : V.ownsRow (g7 + 1) 45 6 r4 vs.length css.flatten
  lr : LR (VR w0 V P) vs css
  ne : ∀ q, r3.ownBlock = some q → r4.ownBlock ≠ some q
  bl : Below g7 W V
  hP : ∀ b, P b → b < g7
section
variable {w0 W V V' : World} {P : Nat → Prop} {g7 : Nat} {ls : List Str} {vs : List Val} {css : List (List Value)} {c3 c4 r3 r4 : Value}
theorem TS.below (h : TS w0 P g7 W ls vs css c3 c4 r3 r4 V) (hb : Below V.heap.size V V') : TS w0 P g7 W ls vs css c3 c4 r3 r4 V' :=
  ⟨(hb.block _ (lt_of_heap h.hd)).trans h.hd, own_below h.o3 hb, own_below h.o4 hb, h.lr.imp (fun a c => VR.keep (Tr.below hb)), h.ne, h.bl.trans (hb.mono (Nat.le_of_lt (lt_of_heap h.hd))), h.hP⟩
theorem TS.app3 (h : TS w0 P g7 W ls vs css c3 c4 r3 r4 V) {x : Str} {v6 : Value} {w6 : World} (hown : w6.ownsRow (g7 + 1) 9 1 v6 (ls.length + 1) (strs ls ++ [.string (bstr x)])) (hg : V.grownBy w6 r3.ownBlock) (hat : v6.ownBlock = r3.ownBlock ∨ v6.ownBlock = some V.heap.size) :
    TS w0 P g7 W (ls ++ [x]) vs css c3 c4 v6 r4 w6 := by
  have hl := lt_of_heap h.hd
  have hk : ∀ k, k < V.heap.size → some k ≠ r3.ownBlock → w6.heap[k]? = V.heap[k]? := fun k hk hne => hg.block k hk hne
  have h3 : ∀ b, b ≤ g7 → some b ≠ r3.ownBlock := fun b hb e => by have := (h.o3.lt b e.symm).1; omega
  refine ⟨(hk g7 hl (h3 g7 (Nat.le_refl _))).trans h.hd, by rw [List.length_append, strs_append]; exact hown, own_keep h.o4 (fun q hq hl' => hk q hl' (fun e => h.ne q e.symm hq)), h.lr.imp (fun a c => VR.keep (fun b hb hlt => ⟨hb, hk b hlt (h3 b (Nat.le_of_lt (h.hP b hb)))⟩)), fun q hq => ?_, h.bl.trans (below_of_grown hg (Nat.le_of_lt hl) (fun k e => by have := (h.o3.lt k e).1; omega)), h.hP⟩
  rcases hat with e | e
  · exact h.ne q (by rw [← e]; exact hq)
  · rw [e] at hq
    injection hq with hq
    intro e4
    have := (h.o4.lt q e4).2
    omega
theorem TS.app4 (h : TS w0 P g7 W ls vs css c3 c4 r3 r4 V) {z : Val} {cs : List Value} (hz : VR w0 V P z cs) {v6 : Value} {w6 : World} (hown : w6.ownsRow (g7 + 1) 45 6 v6 (vs.length + 1) (css.flatten ++ cs)) (hg : V.grownBy w6 r4.ownBlock) (hat : v6.ownBlock = r4.ownBlock ∨ v6.ownBlock = some V.heap.size) :
    TS w0 P g7 W ls (vs ++ [z]) (css ++ [cs]) c3 c4 r3 v6 w6 := by
  have hl := lt_of_heap h.hd
  have hk : ∀ k, k < V.heap.size → some k ≠ r4.ownBlock → w6.heap[k]? = V.heap[k]? := fun k hk hne => hg.block k hk hne
  have h3 : ∀ b, b ≤ g7 → some b ≠ r4.ownBlock := fun b hb e => by have := (h.o4.lt b e.symm).1; omega
  have hT : ∀ b, P b → b < V.heap.size → P b ∧ w6.heap[b]? = V.heap[b]? := fun b hb hlt => ⟨hb, hk b hlt (h3 b (Nat.le_of_lt (h.hP b hb)))⟩
  refine ⟨(hk g7 hl (h3 g7 (Nat.le_refl _))).trans h.hd, own_keep h.o3 (fun q hq hl' => hk q hl' (fun e => h.ne q hq e.symm)), by rw [List.length_append, flat_snoc]; exact hown, (h.lr.imp (fun a c => VR.keep hT)).snoc (hz.keep hT), fun q hq => ?_, h.bl.trans (below_of_grown hg (Nat.le_of_lt hl) (fun k e => by have := (h.o4.lt k e).1; omega)), h.hP⟩
  rcases hat with e | e
  · rw [e]; exact h.ne q hq
  · rw [e]
    intro e4
    injection e4 with e4
    have := (h.o3.lt q hq).2
    omega
theorem TS.b3 (h : TS w0 P g7 W ls vs css c3 c4 r3 r4 V) {w6 : World} (hg : V.grownBy w6 r3.ownBlock) : Below g7 V w6 := below_of_grown hg (Nat.le_of_lt (lt_of_heap h.hd)) (fun k e => by have := (h.o3.lt k e).1; omega)
theorem TS.b4 (h : TS w0 P g7 W ls vs css c3 c4 r3 r4 V) {w6 : World} (hg : V.grownBy w6 r4.ownBlock) : Below g7 V w6 := below_of_grown hg (Nat.le_of_lt (lt_of_heap h.hd)) (fun k e => by have := (h.o4.lt k e).1; omega)
theorem TS.n3 (h : TS w0 P g7 W ls vs css c3 c4 r3 r4 V) : r3.ownBlock ≠ some V.heap.size := fun e => by have := (h.o3.lt _ e).2; omega
theorem lit_keep {V w6 : World} {row : Option Nat} {L size n : Nat} {cs : List Value} (hr : Rd V size (some ⟨L, 0, none⟩) n cs) (hg : V.grownBy w6 row) (hL : L < V.heap.size) (hne : row ≠ some L) : Rd w6 size (some ⟨L, 0, none⟩) n cs :=
  rd_keepP (P := fun b => b = L) hr (fun _ a ha => by cases ha; rfl) (fun b hb hl => by subst hb; exact hg.block _ hl (fun e => hne e.symm))
theorem one_str (x : Str) : ∀ u ∈ [Value.string (bstr x)], u.oneCell' = true := by
  intro u hu
  simp at hu
  subst hu
  rfl
theorem cell_belowG {B : Nat} {w w' : World} (hb : Below B w w') {b o : Nat} (hlt : b < B) {u : Value} (hc : w.cell? ⟨b, o, none⟩ = some u) : w'.cell? ⟨b, o, none⟩ = some u := by
  rw [World.cell?_of_block (hb.block b hlt)]; exact hc
theorem TS.st3 (h : TS w0 P g7 W ls vs css c3 c4 r3 r4 V) : TS w0 P g7 W ls vs css r3 c4 r3 r4 (V.setCell ⟨g7, 3, none⟩ r3) := by
  have ho : ∀ b, b ≠ g7 → (V.setCell ⟨g7, 3, none⟩ r3).heap[b]? = V.heap[b]? := fun b hb => set_other _ _ _ _ hb
  exact ⟨set_cells h.hd 3 r3, own_keep h.o3 (fun q hq _ => ho q (by have := (h.o3.lt q hq).1; omega)), own_keep h.o4 (fun q hq _ => ho q (by have := (h.o4.lt q hq).1; omega)), h.lr.imp (fun a c => VR.keep (fun b hb _ => ⟨hb, ho b (by have := h.hP b hb; omega)⟩)), h.ne, h.bl.setCell (p := ⟨g7, 3, none⟩) (Nat.le_refl _) r3, h.hP⟩
theorem TS.st4 (h : TS w0 P g7 W ls vs css c3 c4 r3 r4 V) : TS w0 P g7 W ls vs css c3 r4 r3 r4 (V.setCell ⟨g7, 4, none⟩ r4) := by
  have ho : ∀ b, b ≠ g7 → (V.setCell ⟨g7, 4, none⟩ r4).heap[b]? = V.heap[b]? := fun b hb => set_other _ _ _ _ hb
  exact ⟨set_cells h.hd 4 r4, own_keep h.o3 (fun q hq _ => ho q (by have := (h.o3.lt q hq).1; omega)), own_keep h.o4 (fun q hq _ => ho q (by have := (h.o4.lt q hq).1; omega)), h.lr.imp (fun a c => VR.keep (fun b hb _ => ⟨hb, ho b (by have := h.hP b hb; omega)⟩)), h.ne, h.bl.setCell (p := ⟨g7, 4, none⟩) (Nat.le_refl _) r4, h.hP⟩
/-- What the region reads. -/
theorem TS.c34 (h : TS w0 P g7 W ls vs css c3 c4 r3 r4 V) : V.cell? ⟨g7, 3, none⟩ = some c3 ∧ V.cell? ⟨g7, 4, none⟩ = some c4 := ⟨(cells6 h.hd).2.2.2.1, (cells6 h.hd).2.2.2.2.1⟩
end
end Go.Proofs.YtjmgnohepoacbaaDoor

namespace Go.Proofs.YtjmgnohepoacbaaDoor
open Go Go.ChangeShapes Go.WideShapes Go.ChangeAt Go.RowKit Go.Sort
set_option linter.unusedVariables false
set_option linter.unusedSimpArgs false

theorem elInt : ElemTy Tryd.prog 91 3 (.int .i64 0) 1 8 := ⟨Tryd.underlying91, by kernel_rfl, rfl, by decide, by decide⟩
def ints (l : List Nat) : List Value := l.map fun k => Value.int .i64 (k : Nat)
theorem ints_len (l : List Nat) : (ints l).length = l.length := by simp [ints]
theorem one_enc {m : Nat} : OneCell (encF (m := m)) := fun _ => rfl
/-- The row of places, filled. -/
theorem holds_id {V : World} {g n cap base : Nat} {xs : List Value} {m : Nat} (hn : n = m + 1) (hown : V.ownsRow base 3 1 (.slice (some ⟨g, 0, none⟩) n cap) n xs) (hx : ∀ j, j < n → xs[j]? = some (.int .i64 (j : Nat))) :
    Holds (encF (m := m)) V g 0 (Array.ofFn (fun i : Fin (m + 1) => i)) := by
  intro j hj
  have hj' : j < m + 1 := by simpa using hj
  obtain ⟨h1, h2⟩ := own_cell hown (hx j (by omega))
  rw [Nat.zero_add]
  refine ⟨?_, h2⟩
  rw [h1]
  simp [encF, hj']
/-- The sorted row, read. -/
theorem rd_sorted {m : Nat} {w0 W : World} {g : Nat} {d0 d : Array (Fin (m + 1))} (R : Row1 (encF (m := m)) w0 g 0 d0) (hs : d.size = d0.size) (S : SW (encF (m := m)) w0 g 0 d W) : Rd W 1 (some ⟨g, 0, none⟩) d.size (ints (d.toList.map Fin.val)) := by
  refine ⟨by rw [ints_len]; simp, fun h0 => ⟨⟨g, 0, none⟩, rfl, ?_⟩⟩
  intro j u hu
  have hj : j < d.size := by have := (List.getElem?_eq_some_iff.1 hu).1; rw [ints_len] at this; simpa using this
  have h1 := S.c1 R hs j hj
  rw [Nat.zero_add] at h1
  rw [show (Addr.add ⟨g, 0, none⟩ j) = ⟨g, j, none⟩ by
    unfold Addr.add
    split
    · rename_i e; first | (subst e; rfl) | (simp at e; subst e; rfl)
    · first | rfl | (congr 1; omega) | simp_all]
  rw [h1]
  rw [← hu]
  simp [ints, encF, hj]
theorem ints_at {l : List Nat} {j k : Nat} (h : l[j]? = some k) : (ints l)[j]? = some (.int .i64 (k : Nat)) := by simp [ints, h]
theorem rd_ints {V : World} {g n : Nat} {l : List Nat} (h : Rd V 1 (some ⟨g, 0, none⟩) n (ints l)) {j k : Nat} (hj : l[j]? = some k) : V.cell? ⟨g, j, none⟩ = some (.int .i64 (k : Nat)) := by
  have hl : 0 < (ints l).length := by rw [ints_len]; have := (List.getElem?_eq_some_iff.1 hj).1; omega
  obtain ⟨b, o, e, _, hh⟩ := h.base hl
  injection e with e
  injection e with e1 e2
  subst e1 e2
  have := hh j _ (ints_at hj)
  rw [Nat.zero_add] at this
  exact this
theorem ins_none (w : World) (A : Option Addr) (c : Nat) (F : Value) : Calls Tryd.prog 77 #[.slice A 0 c, .int .i64 0, .int .i64 0, F] w fun e w' => e = .returned (.tuple #[]) ∧ w' = w := by
  go_enter Tryd.func77, Tryd.ntmps77
  go_wp2_with fail
  refine wp_loop_rounds 1 ?_
  rw [rounds_succ]
  go_wp2_with fail
  go_returns
  exact ⟨rfl, rfl⟩
theorem stable_none (w : World) (A : Option Addr) (c : Nat) (F : Value) : Calls Tryd.prog 66 #[.slice A 0 c, .int .i64 0, F] w fun e w' => e = .returned (.tuple #[]) ∧ w' = w := by
  go_enter Tryd.func66, Tryd.ntmps66
  go_wp2_with fail
  refine wp_loop_rounds 1 ?_
  rw [rounds_succ]
  go_wp2_with (go_at_call 77; refine (ins_none _ _ _ _).mono ?_; rintro e1 w1 ⟨rfl, rfl⟩)
  refine wp_loop_rounds 1 ?_
  rw [rounds_succ]
  go_wp2_with fail
  go_returns
  exact ⟨rfl, rfl⟩
theorem sortStable_none (w : World) (A : Option Addr) (c : Nat) (F : Value) : Calls Tryd.prog 56 #[.slice A 0 c, F] w fun e w' => e = .returned (.tuple #[]) ∧ w' = w := by
  go_enter Tryd.func56, Tryd.ntmps56
  go_wp2_with (go_at_call 66; refine (stable_none _ _ _ _).mono ?_; rintro e1 w1 ⟨rfl, rfl⟩)
  go_returns
  exact ⟨rfl, rfl⟩
theorem sorted_any (wr : World) (lb g n base : Nat) (labels : List Str) (hlb : LbB wr lb g labels) (hn : labels.length = n) (hm : n ≤ 4000000) {xs : List Value} (hown : wr.ownsRow base 3 1 (.slice (some ⟨g, 0, none⟩) n n) n xs) (hx : ∀ j, j < n → xs[j]? = some (.int .i64 (j : Nat))) (hg : g < wr.heap.size) :
    Calls Tryd.prog 56 #[.slice (some ⟨g, 0, none⟩) n n, .func (.func 57) #[] #[.pointer (some ⟨lb, 0, none⟩)]] wr fun e w' => e = .returned (.tuple #[]) ∧ Rd w' 1 (some ⟨g, 0, none⟩) n (ints (ordOf labels)) ∧ Below g wr w' := by
  cases labels with
  | nil =>
    simp only [List.length_nil] at hn
    subst hn
    refine (sortStable_none wr _ _ _).mono ?_
    rintro e w' ⟨rfl, rfl⟩
    exact ⟨rfl, ⟨rfl, fun h => absurd h (by simp [ints, ordOf])⟩, (Below.refl _ _).mono (Nat.le_of_lt hg)⟩
  | cons x t =>
    have hn' : n = t.length + 1 := by rw [← hn]; rfl
    subst hn'
    have hH := holds_id (m := t.length) rfl hown hx
    have R : Row1 (encF (m := t.length)) wr g 0 (Array.ofFn (fun i : Fin (t.length + 1) => i)) := ⟨one_enc, hH, hg⟩
    have hs : (Array.ofFn (fun i : Fin (t.length + 1) => i)).size = t.length + 1 := by simp
    have HC := cmp_lays (m := t.length) (off := 0) (size := (Array.ofFn (fun i : Fin (t.length + 1) => i)).size) (show (x :: t).length = t.length + 1 from rfl) hlb hg (by omega)
    have := sortStable_any (cap := t.length + 1) _ R HC (by omega)
    rw [hs] at this
    refine this.mono ?_
    rintro e w' ⟨rfl, S⟩
    have hrd := rd_sorted R (size_stabF _ _ _) S
    rw [size_stabF, hs] at hrd
    exact ⟨rfl, hrd, sw_below S hg⟩
end Go.Proofs.YtjmgnohepoacbaaDoor

namespace Go.Proofs.YtjmgnohepoacbaaDoor
open Go.ChangeShapes Go.WideShapes Go.ChangeAt Go.RowKit Go.Sort
set_option linter.unusedVariables false
set_option linter.unusedSimpArgs false

abbrev boxM (mb : Nat) : Obj := .cells #[.pointer (some ⟨mb, 0, none⟩)] 41
abbrev boxV (z : Val) (A : Option Addr) (c : Nat) (p : Option Addr) (LA : Option Addr) (lc : Nat) : Obj := .cells #[.int .i64 z.sort, .int .i64 z.n, .string (bstr z.s), .slice LA z.labels.length lc, .slice A z.l.length c, .pointer p] 45
/-- Two new blocks. -/
theorem two_new (W : World) (n : Nat) (hn : W.heap.size = n) (o1 o2 : Obj) : ((W.alloc o1).alloc o2).drew.heap[n]? = some o1 ∧ ((W.alloc o1).alloc o2).drew.heap[n + 1]? = some o2 ∧ Below W.heap.size W ((W.alloc o1).alloc o2).drew := by
  subst hn
  refine ⟨(Below.heap_alloc _ _ _ (by rw [World.size_alloc]; omega)).trans (heap_new rfl), heap_new (World.size_alloc _ _), (((Below.refl _ _).alloc (Nat.le_refl _) _).alloc (by rw [World.size_alloc]; omega) _).drew⟩
theorem Vs.addr {w0 w : World} {P : Nat → Prop} {l : List Val} {A : Option Addr} {css : List (List Value)} (h : Vs w0 w P l A css) (hl : 0 < l.length) : ∃ b o, A = some ⟨b, o, none⟩ := by
  obtain ⟨b, o, e, _⟩ := h.rd.base (by rw [h.rd.1]; omega)
  exact ⟨b, o, e⟩
theorem flat_drop6 {css : List (List Value)} (h : ∀ c ∈ css, c.length = 6) (n : Nat) : css.flatten.drop (n * 6) = (css.drop n).flatten := by
  induction css generalizing n with
  | nil => simp
  | cons x css ih =>
    cases n with
    | zero => simp
    | succ n =>
      have hx := h x (List.mem_cons_self ..)
      rw [List.flatten_cons, List.drop_succ_cons, List.drop_append, List.drop_of_length_le (by rw [hx]; omega), List.nil_append, hx, show (n + 1) * 6 - 6 = n * 6 from by omega, ih (fun c hc => h c (List.mem_cons_of_mem _ hc))]
theorem Vs.cut {w0 w : World} {P : Nat → Prop} {l : List Val} {A : Option Addr} {css : List (List Value)} (h : Vs w0 w P l A css) {lo hi : Nat} (h1 : lo ≤ hi) (h2 : hi ≤ l.length) : Vs w0 w P ((l.drop lo).take (hi - lo)) (A.map (fun x => x.add (lo * 6))) ((css.drop lo).take (hi - lo)) := by
  have h6 := VR.lens h.lr
  have e : ((css.drop lo).take (hi - lo)).flatten = (css.flatten.drop (lo * 6)).take ((hi - lo) * 6) := by
    rw [← flat_take2 (fun c hc => h6 c (List.mem_of_mem_drop hc)), ← flat_drop6 h6]
  refine ⟨?_, (h.lr.drop lo).take _⟩
  have := h.rd.cut (lo := lo) (hi := hi) (k := lo * 6) h1 h2 rfl
  rw [e, show ((l.drop lo).take (hi - lo)).length = hi - lo from by rw [List.length_take, List.length_drop]; omega]
  exact this
theorem Vs.take {w0 w : World} {P : Nat → Prop} {l : List Val} {a : Addr} {css : List (List Value)} (h : Vs w0 w P l (some a) css) (k : Nat) (hk : k ≤ l.length) : Vs w0 w P (l.take k) (some a) (css.take k) := by
  have := h.cut (lo := 0) (hi := k) (by omega) hk
  rw [Nat.zero_mul, List.drop_zero, List.drop_zero, Nat.sub_zero, Option.map_some, add_zero] at this
  exact this
theorem Vs.drop {w0 w : World} {P : Nat → Prop} {l : List Val} {a : Addr} {css : List (List Value)} (h : Vs w0 w P l (some a) css) (k : Nat) (hk : k ≤ l.length) : Vs w0 w P (l.drop k) (some (a.add (k * 6))) (css.drop k) := by
  have := h.cut (lo := k) (hi := l.length) hk (Nat.le_refl _)
  rw [Option.map_some, List.take_of_length_le (by rw [List.length_drop]; exact Nat.le_refl _), List.take_of_length_le (by rw [List.length_drop, h.lr.len]; exact Nat.le_refl _)] at this
  exact this
theorem Vs.dropC {w0 w : World} {P : Nat → Prop} {l : List Val} {a : Addr} {css : List (List Value)} (h : Vs w0 w P l (some a) css) (k : Nat) (hk : k ≤ l.length) (c : Nat) (hc : l.length ≤ c) : Vs w0 w P (l.drop k) (if c = k then some a else some (a.add (k * 6))) (css.drop k) := by
  split
  · rename_i e
    have e1 : l.drop k = [] := List.drop_eq_nil_of_le (by omega)
    have e2 : css.drop k = [] := List.drop_eq_nil_of_le (by rw [h.lr.len]; omega)
    rw [e1, e2]
    exact ⟨Rd.nil w 6 _, LR.nil⟩
  · exact h.drop k hk
theorem Vs.one {w0 w wr : World} {P : Nat → Prop} {x : Val} {l : List Val} {a : Addr} {css : List (List Value)} (h : Vs w0 w P (x :: l) (some a) css) (hb : Below w.heap.size w wr) : Vs w0 wr P [x] (some a) (css.take 1) := by
  have := (h.take 1 (by simp)).below hb
  exact this
end Go.Proofs.YtjmgnohepoacbaaDoor

namespace Go.Proofs.YtjmgnohepoacbaaDoor
open Go Go.ChangeShapes Go.WideShapes Go.ChangeAt Go.RowKit Go.Sort
set_option linter.unusedVariables false
set_option linter.unusedSimpArgs false

/-- The operations, as the program has them. -/
def q13_0 : Oper := { dst := some 54, op := Go.Op.fieldAddr 45 (Go.Operand.tmp 7) 3, type := 0, pos := "apply.go:53", after := #[], guard := none }
def q13_1 : Oper := { dst := some 55, op := Go.Op.load 22 (Go.Operand.tmp 54), type := 22, pos := "apply.go:53", after := #[{ on := 0, ground := Go.Ground.data }], guard := none }
def q13_2 : Oper := { dst := some 56, op := Go.Op.load 22 (Go.Operand.tmp 2), type := 22, pos := "apply.go:53", after := #[], guard := none }
def q13_3 : Oper := { dst := some 57, op := Go.Op.move (Go.Operand.tmp 9), type := 3, pos := "apply.go:53", after := #[], guard := none }
def q13_4 : Oper := { dst := some 58, op := Go.Op.indexAddr 22 (Go.Operand.tmp 56) (Go.Operand.tmp 57), type := 0, pos := "apply.go:53", after := #[{ on := 2, ground := Go.Ground.data }, { on := 3, ground := Go.Ground.data }], guard := none }
def q13_5 : Oper := { dst := some 59, op := Go.Op.load 9 (Go.Operand.tmp 58), type := 9, pos := "apply.go:53", after := #[{ on := 4, ground := Go.Ground.data }], guard := none }
def q13_6 : Oper := { dst := some 60, op := Go.Op.buildSlice 22 1 #[(0, Go.Operand.tmp 59)], type := 22, pos := "apply.go:53", after := #[{ on := 5, ground := Go.Ground.data }], guard := none }
def q13_7 : Oper := { dst := some 61, op := Go.Op.call { callee := Go.Callee.builtin Go.Builtin.append, args := #[Go.Operand.tmp 55, Go.Operand.tmp 60], argTypes := #[22, 22] }, type := 22, pos := "apply.go:53", after := #[{ on := 1, ground := Go.Ground.data }, { on := 6, ground := Go.Ground.data }], guard := none }
def q13_8 : Oper := { dst := some 62, op := Go.Op.fieldAddr 45 (Go.Operand.tmp 7) 4, type := 0, pos := "apply.go:53", after := #[], guard := none }
def q13_9 : Oper := { dst := some 63, op := Go.Op.load 42 (Go.Operand.tmp 62), type := 42, pos := "apply.go:53", after := #[{ on := 8, ground := Go.Ground.data }], guard := none }
def q13_10 : Oper := { dst := some 64, op := Go.Op.move (Go.Operand.tmp 1), type := 42, pos := "apply.go:53", after := #[], guard := none }
def q13_11 : Oper := { dst := some 65, op := Go.Op.move (Go.Operand.tmp 9), type := 3, pos := "apply.go:53", after := #[], guard := none }
def q13_12 : Oper := { dst := some 66, op := Go.Op.indexAddr 42 (Go.Operand.tmp 64) (Go.Operand.tmp 65), type := 0, pos := "apply.go:53", after := #[{ on := 10, ground := Go.Ground.data }, { on := 11, ground := Go.Ground.data }], guard := none }
def q13_13 : Oper := { dst := some 67, op := Go.Op.load 45 (Go.Operand.tmp 66), type := 45, pos := "apply.go:53", after := #[{ on := 12, ground := Go.Ground.data }], guard := none }
def q13_14 : Oper := { dst := some 68, op := Go.Op.buildSlice 42 1 #[(0, Go.Operand.tmp 67)], type := 42, pos := "apply.go:53", after := #[{ on := 13, ground := Go.Ground.data }], guard := none }
def q13_15 : Oper := { dst := some 69, op := Go.Op.call { callee := Go.Callee.builtin Go.Builtin.append, args := #[Go.Operand.tmp 63, Go.Operand.tmp 68], argTypes := #[42, 42] }, type := 42, pos := "apply.go:53", after := #[{ on := 9, ground := Go.Ground.data }, { on := 14, ground := Go.Ground.data }, { on := 7, ground := Go.Ground.chain }], guard := none }
def q13_16 : Oper := { dst := some 70, op := Go.Op.fieldAddr 45 (Go.Operand.tmp 7) 3, type := 0, pos := "apply.go:53", after := #[{ on := 0, ground := Go.Ground.phase }, { on := 1, ground := Go.Ground.phase }, { on := 2, ground := Go.Ground.phase }, { on := 3, ground := Go.Ground.phase }, { on := 4, ground := Go.Ground.phase }, { on := 5, ground := Go.Ground.phase }, { on := 6, ground := Go.Ground.phase }, { on := 7, ground := Go.Ground.phase }, { on := 8, ground := Go.Ground.phase }, { on := 9, ground := Go.Ground.phase }, { on := 10, ground := Go.Ground.textOnly Go.Departure.lateStores }, { on := 11, ground := Go.Ground.textOnly Go.Departure.lateStores }, { on := 12, ground := Go.Ground.textOnly Go.Departure.lateStores }, { on := 13, ground := Go.Ground.textOnly Go.Departure.lateStores }, { on := 14, ground := Go.Ground.textOnly Go.Departure.lateStores }, { on := 15, ground := Go.Ground.textOnly Go.Departure.lateStoresUnsure }], guard := none }
def q13_17 : Oper := { dst := none, op := Go.Op.store 22 (Go.Operand.tmp 70) (Go.Operand.tmp 61), type := 0, pos := "apply.go:53", after := #[{ on := 16, ground := Go.Ground.data }, { on := 7, ground := Go.Ground.data }, { on := 15, ground := Go.Ground.chain }, { on := 0, ground := Go.Ground.phase }, { on := 1, ground := Go.Ground.phase }, { on := 2, ground := Go.Ground.phase }, { on := 3, ground := Go.Ground.phase }, { on := 4, ground := Go.Ground.phase }, { on := 5, ground := Go.Ground.phase }, { on := 6, ground := Go.Ground.phase }, { on := 7, ground := Go.Ground.phase }, { on := 8, ground := Go.Ground.phase }, { on := 9, ground := Go.Ground.phase }, { on := 10, ground := Go.Ground.textOnly Go.Departure.lateStores }, { on := 11, ground := Go.Ground.textOnly Go.Departure.lateStores }, { on := 12, ground := Go.Ground.textOnly Go.Departure.lateStores }, { on := 13, ground := Go.Ground.textOnly Go.Departure.lateStores }, { on := 14, ground := Go.Ground.textOnly Go.Departure.lateStores }, { on := 15, ground := Go.Ground.textOnly Go.Departure.lateStoresUnsure }], guard := none }
def q13_18 : Oper := { dst := some 71, op := Go.Op.fieldAddr 45 (Go.Operand.tmp 7) 4, type := 0, pos := "apply.go:53", after := #[{ on := 0, ground := Go.Ground.phase }, { on := 1, ground := Go.Ground.phase }, { on := 2, ground := Go.Ground.phase }, { on := 3, ground := Go.Ground.phase }, { on := 4, ground := Go.Ground.phase }, { on := 5, ground := Go.Ground.phase }, { on := 6, ground := Go.Ground.phase }, { on := 7, ground := Go.Ground.phase }, { on := 8, ground := Go.Ground.phase }, { on := 9, ground := Go.Ground.phase }, { on := 10, ground := Go.Ground.phase }, { on := 11, ground := Go.Ground.phase }, { on := 12, ground := Go.Ground.phase }, { on := 13, ground := Go.Ground.phase }, { on := 14, ground := Go.Ground.phase }, { on := 15, ground := Go.Ground.phase }, { on := 16, ground := Go.Ground.phase }, { on := 17, ground := Go.Ground.phase }], guard := none }
def q13_19 : Oper := { dst := none, op := Go.Op.store 42 (Go.Operand.tmp 71) (Go.Operand.tmp 69), type := 0, pos := "apply.go:53", after := #[{ on := 18, ground := Go.Ground.data }, { on := 15, ground := Go.Ground.data }, { on := 17, ground := Go.Ground.chain }, { on := 0, ground := Go.Ground.phase }, { on := 1, ground := Go.Ground.phase }, { on := 2, ground := Go.Ground.phase }, { on := 3, ground := Go.Ground.phase }, { on := 4, ground := Go.Ground.phase }, { on := 5, ground := Go.Ground.phase }, { on := 6, ground := Go.Ground.phase }, { on := 7, ground := Go.Ground.phase }, { on := 8, ground := Go.Ground.phase }, { on := 9, ground := Go.Ground.phase }, { on := 10, ground := Go.Ground.phase }, { on := 11, ground := Go.Ground.phase }, { on := 12, ground := Go.Ground.phase }, { on := 13, ground := Go.Ground.phase }, { on := 14, ground := Go.Ground.phase }, { on := 15, ground := Go.Ground.phase }, { on := 16, ground := Go.Ground.phase }, { on := 17, ground := Go.Ground.phase }], guard := none }
def r13 : Array Oper := #[q13_0, q13_1, q13_2, q13_3, q13_4, q13_5, q13_6, q13_7, q13_8, q13_9, q13_10, q13_11, q13_12, q13_13, q13_14, q13_15, q13_16, q13_17, q13_18, q13_19]
def C1 (g7 : Nat) (c3 c4 : Value) (V : World) : Prop := V.cell? ⟨g7, 3, none⟩ = some c3 ∧ V.cell? ⟨g7, 4, none⟩ = some c4
def C2 (lb b o i ab ao k lc : Nat) (x : Str) (z : Val) (LAz : Option Addr) (lcz : Nat) (Az : Option Addr) (cz : Nat) (pz : Option Addr) (V : World) : Prop :=
  V.cell? ⟨lb, 0, none⟩ = some (.slice (some ⟨b, o, none⟩) k lc) ∧ V.cell? ⟨b, o + i, none⟩ = some (.string (bstr x)) ∧ V.cell? ⟨ab, ao + i * 6, none⟩ = some (.int .i64 z.sort) ∧ V.cell? ⟨ab, ao + i * 6 + 1, none⟩ = some (.int .i64 z.n) ∧ V.cell? ⟨ab, ao + i * 6 + 2, none⟩ = some (.string (bstr z.s)) ∧ V.cell? ⟨ab, ao + i * 6 + 3, none⟩ = some (.slice LAz z.labels.length lcz) ∧ V.cell? ⟨ab, ao + i * 6 + 4, none⟩ = some (.slice Az z.l.length cz) ∧ V.cell? ⟨ab, ao + i * 6 + 5, none⟩ = some (.pointer pz)
theorem C2.keep {lb b o i ab ao k lc : Nat} {x : Str} {z : Val} {LAz : Option Addr} {lcz : Nat} {Az : Option Addr} {cz : Nat} {pz : Option Addr} {V V' : World} {g7 : Nat} (h : C2 lb b o i ab ao k lc x z LAz lcz Az cz pz V) (hg : lb < g7 ∧ b < g7 ∧ ab < g7) (hb : Below g7 V V') : C2 lb b o i ab ao k lc x z LAz lcz Az cz pz V' :=
  ⟨cell_belowG hb hg.1 h.1, cell_belowG hb hg.2.1 h.2.1, cell_belowG hb hg.2.2 h.2.2.1, cell_belowG hb hg.2.2 h.2.2.2.1, cell_belowG hb hg.2.2 h.2.2.2.2.1, cell_belowG hb hg.2.2 h.2.2.2.2.2.1, cell_belowG hb hg.2.2 h.2.2.2.2.2.2.1, cell_belowG hb hg.2.2 h.2.2.2.2.2.2.2⟩
theorem clo_no {X : Prop} {b : Bool} (h : b = false) : b = true → X := fun e => by rw [h] at e; cases e
set_option maxHeartbeats 4000000 in
set_option maxRecDepth 100000 in
theorem rec13_any {Q : Exit → Act → World → Prop} (hQp : ∀ c (a : Act) (d : Tmp) v w, Q (.panic c) (a.put (some d) v) w → Q (.panic c) a w) {w0 W : World} {P : Nat → Prop} {g7 : Nat} {ls : List Str} {vs : List Val} {css : List (List Value)} {c3 c4 : Value} {V : World}
    {lb b o i ab ao k lc c : Nat} {x : Str} {z : Val} {LAz : Option Addr} {lcz : Nat} {Az : Option Addr} {cz : Nat} {pz : Option Addr}
    (hT : TS w0 P g7 W ls vs css c3 c4 c3 c4 V) (hS : C2 lb b o i ab ao k lc x z LAz lcz Az cz pz V) (hZ : VR w0 V P z [.int .i64 z.sort, .int .i64 z.n, .string (bstr z.s), .slice LAz z.labels.length lcz, .slice Az z.l.length cz, .pointer pz]) (hg : lb < g7 ∧ b < g7 ∧ ab < g7) (hi : i < k) (hk : k ≤ 4000000) (hq : ls.length ≤ 4000000 ∧ vs.length ≤ 4000000) {u0 u3 u4 u5 u6 u8 u10 u11 u12 u13 u14 u15 u16 u17 u18 u19 u20 u21 u22 u23 u24 u25 u26 u27 u28 u29 u30 u31 u32 u33 u34 u35 u36 u37 u38 u39 u40 u41 u42 u43 u44 u45 u46 u47 u48 u49 u50 u51 u52 u53 u54 u55 u56 u57 u58 u59 u60 u61 u62 u63 u64 u65 u66 u67 u68 u69 u70 u71 u72 u73 : Value}
    (hKK : ∀ (y54 : Value) (y55 : Value) (y56 : Value) (y57 : Value) (y58 : Value) (y59 : Value) (y60 : Value) (y61 : Value) (y62 : Value) (y63 : Value) (y64 : Value) (y65 : Value) (y66 : Value) (y67 : Value) (y68 : Value) (y69 : Value) (y70 : Value) (y71 : Value) V' d3 d4, TS w0 P g7 W (ls ++ [x]) (vs ++ [z]) (css ++ [[.int .i64 z.sort, .int .i64 z.n, .string (bstr z.s), .slice LAz z.labels.length lcz, .slice Az z.l.length cz, .pointer pz]]) d3 d4 d3 d4 V' → Q .normal ⟨#[u0, .slice (some ⟨ab, ao, none⟩) k c, .pointer (some ⟨lb, 0, none⟩), u3, u4, u5, u6, .pointer (some ⟨g7, 0, none⟩), u8, .int .i64 (i : Nat), u10, u11, u12, u13, u14, u15, u16, u17, u18, u19, u20, u21, u22, u23, u24, u25, u26, u27, u28, u29, u30, u31, u32, u33, u34, u35, u36, u37, u38, u39, u40, u41, u42, u43, u44, u45, u46, u47, u48, u49, u50, u51, u52, u53, y54, y55, y56, y57, y58, y59, y60, y61, y62, y63, y64, y65, y66, y67, y68, y69, y70, y71, u72, u73], []⟩ V') :
    Code.wp Tryd.prog (.region 13 r13 true) Q ⟨#[u0, .slice (some ⟨ab, ao, none⟩) k c, .pointer (some ⟨lb, 0, none⟩), u3, u4, u5, u6, .pointer (some ⟨g7, 0, none⟩), u8, .int .i64 (i : Nat), u10, u11, u12, u13, u14, u15, u16, u17, u18, u19, u20, u21, u22, u23, u24, u25, u26, u27, u28, u29, u30, u31, u32, u33, u34, u35, u36, u37, u38, u39, u40, u41, u42, u43, u44, u45, u46, u47, u48, u49, u50, u51, u52, u53, u54, u55, u56, u57, u58, u59, u60, u61, u62, u63, u64, u65, u66, u67, u68, u69, u70, u71, u72, u73], []⟩ V := by
  have hi1 : (i : Int) < (k : Int) := by omega
  have hi2 : (0 : Int) ≤ (i : Int) := by omega
  have HBG := Lib.hid hg
  have HLQ := Lib.hid hq
  have hKK := Lib.hid hKK
  have HT0 := Lib.hid (hT.below (Below.drew (Below.refl V.heap.size V)))
  have HS0 := Lib.hid (hS.keep hg (Below.drew (Below.refl g7 V)))
  have HZ0 := Lib.hid (hZ.keep (Tr.below (Below.drew (Below.refl V.heap.size V))))
  clear hT hS hZ hg hq hi
  refine wp_region_C (S1 := (C1 g7 c3 c4)) (S2 := (C2 lb b o i ab ao k lc x z LAz lcz Az cz pz)) (ss := [17, 19]) (by kernel_rfl) ?_
  generalize V.drew = W9 at HT0 HS0 HZ0 ⊢
  refine wpAnyC_takeY (i := 0) (oi := q13_0) (v := ?v1) (by kernel_rfl) (by kernel_rfl) (by kernel_rfl) (by kernel_rfl) ⟨HS0.out, fun _ => HT0.out.c34⟩ rfl (fun c a w h => hQp c a _ _ w h) rfl ?hy1 ?rest1
  case hy1 => intro W hSw; obtain ⟨s0, s1, s2, s3, s4, s5, s6, s7⟩ := hSw; unfold q13_0; go_simp; try with_reducible rfl
  simp only [q13_0, Act.put, List.setIfInBounds_toArray, List.set_cons_zero, List.set_cons_succ]
  refine wpAnyC_take1Y (i := 1) (oi := q13_1) (v := ?v2) (by kernel_rfl) (by kernel_rfl) (by kernel_rfl) (by kernel_rfl) (by kernel_rfl) (by kernel_rfl) ⟨HS0.out, HT0.out.c34⟩ rfl (fun c a w h => hQp c a _ _ w h) rfl ?hy2 ?rest2
  case hy2 => intro W hSw; obtain ⟨⟨s0, s1, s2, s3, s4, s5, s6, s7⟩, r3, r4⟩ := hSw; unfold q13_1; go_simp; try with_reducible rfl
  simp only [q13_1, Act.put, List.setIfInBounds_toArray, List.set_cons_zero, List.set_cons_succ]
  refine wpAnyC_takeY (i := 2) (oi := q13_2) (v := ?v3) (by kernel_rfl) (by kernel_rfl) (by kernel_rfl) (by kernel_rfl) ⟨HS0.out, fun _ => HT0.out.c34⟩ rfl (fun c a w h => hQp c a _ _ w h) rfl ?hy3 ?rest3
  case hy3 => intro W hSw; obtain ⟨s0, s1, s2, s3, s4, s5, s6, s7⟩ := hSw; unfold q13_2; go_simp; try with_reducible rfl
  simp only [q13_2, Act.put, List.setIfInBounds_toArray, List.set_cons_zero, List.set_cons_succ]
  refine wpAnyC_takeY (i := 3) (oi := q13_3) (v := ?v4) (by kernel_rfl) (by kernel_rfl) (by kernel_rfl) (by kernel_rfl) ⟨HS0.out, fun _ => HT0.out.c34⟩ rfl (fun c a w h => hQp c a _ _ w h) rfl ?hy4 ?rest4
  case hy4 => intro W hSw; obtain ⟨s0, s1, s2, s3, s4, s5, s6, s7⟩ := hSw; unfold q13_3; go_simp; try with_reducible rfl
  simp only [q13_3, Act.put, List.setIfInBounds_toArray, List.set_cons_zero, List.set_cons_succ]
  refine wpAnyC_takeY (i := 4) (oi := q13_4) (v := ?v5) (by kernel_rfl) (by kernel_rfl) (by kernel_rfl) (by kernel_rfl) ⟨HS0.out, fun _ => HT0.out.c34⟩ rfl (fun c a w h => hQp c a _ _ w h) rfl ?hy5 ?rest5
  case hy5 => intro W hSw; obtain ⟨s0, s1, s2, s3, s4, s5, s6, s7⟩ := hSw; unfold q13_4; go_simp; try with_reducible rfl
  simp only [q13_4, Act.put, List.setIfInBounds_toArray, List.set_cons_zero, List.set_cons_succ]
  refine wpAnyC_takeY (i := 5) (oi := q13_5) (v := ?v6) (by kernel_rfl) (by kernel_rfl) (by kernel_rfl) (by kernel_rfl) ⟨HS0.out, fun _ => HT0.out.c34⟩ rfl (fun c a w h => hQp c a _ _ w h) rfl ?hy6 ?rest6
  case hy6 => intro W hSw; obtain ⟨s0, s1, s2, s3, s4, s5, s6, s7⟩ := hSw; unfold q13_5; go_simp; try with_reducible rfl
  simp only [q13_5, Act.put, List.setIfInBounds_toArray, List.set_cons_zero, List.set_cons_succ]
  refine wpAnyC_takeY (i := 8) (oi := q13_8) (v := ?v7) (by kernel_rfl) (by kernel_rfl) (by kernel_rfl) (by kernel_rfl) ⟨HS0.out, fun _ => HT0.out.c34⟩ rfl (fun c a w h => hQp c a _ _ w h) rfl ?hy7 ?rest7
  case hy7 => intro W hSw; obtain ⟨s0, s1, s2, s3, s4, s5, s6, s7⟩ := hSw; unfold q13_8; go_simp; try with_reducible rfl
  simp only [q13_8, Act.put, List.setIfInBounds_toArray, List.set_cons_zero, List.set_cons_succ]
  refine wpAnyC_take1Y (i := 9) (oi := q13_9) (v := ?v8) (by kernel_rfl) (by kernel_rfl) (by kernel_rfl) (by kernel_rfl) (by kernel_rfl) (by kernel_rfl) ⟨HS0.out, HT0.out.c34⟩ rfl (fun c a w h => hQp c a _ _ w h) rfl ?hy8 ?rest8
  case hy8 => intro W hSw; obtain ⟨⟨s0, s1, s2, s3, s4, s5, s6, s7⟩, r3, r4⟩ := hSw; unfold q13_9; go_simp; try with_reducible rfl
  simp only [q13_9, Act.put, List.setIfInBounds_toArray, List.set_cons_zero, List.set_cons_succ]
  refine wpAnyC_takeY (i := 10) (oi := q13_10) (v := ?v9) (by kernel_rfl) (by kernel_rfl) (by kernel_rfl) (by kernel_rfl) ⟨HS0.out, fun _ => HT0.out.c34⟩ rfl (fun c a w h => hQp c a _ _ w h) rfl ?hy9 ?rest9
  case hy9 => intro W hSw; obtain ⟨s0, s1, s2, s3, s4, s5, s6, s7⟩ := hSw; unfold q13_10; go_simp; try with_reducible rfl
  simp only [q13_10, Act.put, List.setIfInBounds_toArray, List.set_cons_zero, List.set_cons_succ]
  refine wpAnyC_takeY (i := 11) (oi := q13_11) (v := ?v10) (by kernel_rfl) (by kernel_rfl) (by kernel_rfl) (by kernel_rfl) ⟨HS0.out, fun _ => HT0.out.c34⟩ rfl (fun c a w h => hQp c a _ _ w h) rfl ?hy10 ?rest10
  case hy10 => intro W hSw; obtain ⟨s0, s1, s2, s3, s4, s5, s6, s7⟩ := hSw; unfold q13_11; go_simp; try with_reducible rfl
  simp only [q13_11, Act.put, List.setIfInBounds_toArray, List.set_cons_zero, List.set_cons_succ]
  refine wpAnyC_takeY (i := 12) (oi := q13_12) (v := ?v11) (by kernel_rfl) (by kernel_rfl) (by kernel_rfl) (by kernel_rfl) ⟨HS0.out, fun _ => HT0.out.c34⟩ rfl (fun c a w h => hQp c a _ _ w h) rfl ?hy11 ?rest11
  case hy11 => intro W hSw; obtain ⟨s0, s1, s2, s3, s4, s5, s6, s7⟩ := hSw; unfold q13_12; go_simp; try with_reducible rfl
  simp only [q13_12, Act.put, List.setIfInBounds_toArray, List.set_cons_zero, List.set_cons_succ]
  refine wpAnyC_takeY (i := 13) (oi := q13_13) (v := ?v12) (by kernel_rfl) (by kernel_rfl) (by kernel_rfl) (by kernel_rfl) ⟨HS0.out, fun _ => HT0.out.c34⟩ rfl (fun c a w h => hQp c a _ _ w h) rfl ?hy12 ?rest12
  case hy12 => intro W hSw; obtain ⟨s0, s1, s2, s3, s4, s5, s6, s7⟩ := hSw; unfold q13_13; go_simp; try with_reducible rfl
  simp only [q13_13, Act.put, List.setIfInBounds_toArray, List.set_cons_zero, List.set_cons_succ]
  refine wpAnyC_two (i := 6) (i' := 14) (o := q13_6) (o' := q13_14) (by kernel_rfl) rfl rfl ?_ ?_
  · intro K1 hK1
    have HK1 := Lib.hid hK1
    clear hK1
    unfold q13_6
    refine step_eq rfl (v := .slice (some ⟨W9.heap.size, 0, none⟩) 1 1) (w' := W9.alloc (.cells #[.string (bstr x)] 9)) ?hr13 ?hn13
    case hr13 => go_simp; try with_reducible rfl
    have HA1 := Lib.hid (And.intro (show Below W9.heap.size W9 (W9.alloc (.cells #[.string (bstr x)] 9)) from (Below.refl _ _).alloc (Nat.le_refl _) _) (show W9.heap.size < (W9.alloc (.cells #[.string (bstr x)] 9)).heap.size by rw [World.size_alloc]; omega))
    have HT1 := Lib.hid (HT0.out.below HA1.out.1)
    have HS1 := Lib.hid (HS0.out.keep HBG.out (HA1.out.1.mono (Nat.le_of_lt (lt_of_heap HT0.out.hd))))
    have HZ1 := Lib.hid (HZ0.out.keep (Tr.below HA1.out.1))
    have HR1_1 := Lib.hid (show Rd (W9.alloc (.cells #[.string (bstr x)] 9)) 1 (some ⟨W9.heap.size, 0, none⟩) 1 [.string (bstr x)] from Rd.lit (size := 1) (n := 1) W9 #[.string (bstr x)] _ rfl (fr := (0, 0)))
    have HL1_1 := Lib.hid HA1.out.2
    refine HK1.out _ _ HS1.out (fun _ => HT1.out.c34) ?_
    clear HK1 K1
    generalize W9.alloc (.cells #[.string (bstr x)] 9) = V1 at HA1 HT1 HS1 HZ1 HR1_1 HL1_1 ⊢
    try simp only [Act.put, List.setIfInBounds_toArray, List.set_cons_zero, List.set_cons_succ]
    refine wpAnyC_two (i := 7) (i' := 14) (o := q13_7) (o' := q13_14) (by kernel_rfl) rfl rfl ?_ ?_
    · intro K2 hK2
      have HK2 := Lib.hid hK2
      clear hK2
      unfold q13_7
      refine step_app elStr V1 (by rfl) (.tmp 55) (.tmp 60) (by rfl) (g7 + 1) c3 _ _ (by rfl) HT1.out.o3 (some ⟨W9.heap.size, 0, none⟩) 1 1 [.string (bstr x)] (by rfl) HR1_1.out (one_str x) (by have := HLQ.out; omega) (lt_of_heap HT1.out.hd) ?_
      intro v2 V2 hown hg hat
      obtain ⟨A2, k2, rfl, _⟩ := own_cap hown
      have HT2 := Lib.hid (HT1.out.app3 hown hg hat)
      have HS2 := Lib.hid (HS1.out.keep HBG.out (HT1.out.b3 hg))
      have HZ2 := Lib.hid (HZ1.out.keep (Q := P) (fun b hb hlt => ⟨hb, (HT1.out.b3 hg).block b (HT1.out.hP b hb)⟩))
      clear hown hg hat
      refine HK2.out _ _ HS2.out (fun _ => HT2.out.c34) ?_
      clear HK2 K2
      try simp only [Act.put, List.setIfInBounds_toArray, List.set_cons_zero, List.set_cons_succ]
      refine wpAnyC_takeY (i := 16) (oi := q13_16) (v := ?v14) (by kernel_rfl) (by kernel_rfl) (by kernel_rfl) (by kernel_rfl) ⟨HS2.out, fun _ => HT2.out.c34⟩ rfl (fun c a w h => hQp c a _ _ w h) rfl ?hy14 ?rest14
      case hy14 => intro W hSw; obtain ⟨s0, s1, s2, s3, s4, s5, s6, s7⟩ := hSw; unfold q13_16; go_simp; try with_reducible rfl
      simp only [q13_16, Act.put, List.setIfInBounds_toArray, List.set_cons_zero, List.set_cons_succ]
      refine wpAnyC_one (i := 14) (o := q13_14) (by kernel_rfl) rfl ?_
      intro K3 hK3
      have HK3 := Lib.hid hK3
      clear hK3
      unfold q13_14
      refine step_eq rfl (v := .slice (some ⟨V2.heap.size, 0, none⟩) 1 1) (w' := V2.alloc (.cells #[.int .i64 z.sort, .int .i64 z.n, .string (bstr z.s), .slice LAz z.labels.length lcz, .slice Az z.l.length cz, .pointer pz] 45)) ?hr15 ?hn15
      case hr15 => go_simp; try with_reducible rfl
      have HA3 := Lib.hid (And.intro (show Below V2.heap.size V2 (V2.alloc (.cells #[.int .i64 z.sort, .int .i64 z.n, .string (bstr z.s), .slice LAz z.labels.length lcz, .slice Az z.l.length cz, .pointer pz] 45)) from (Below.refl _ _).alloc (Nat.le_refl _) _) (show V2.heap.size < (V2.alloc (.cells #[.int .i64 z.sort, .int .i64 z.n, .string (bstr z.s), .slice LAz z.labels.length lcz, .slice Az z.l.length cz, .pointer pz] 45)).heap.size by rw [World.size_alloc]; omega))
      have HT3 := Lib.hid (HT2.out.below HA3.out.1)
      have HS3 := Lib.hid (HS2.out.keep HBG.out (HA3.out.1.mono (Nat.le_of_lt (lt_of_heap HT2.out.hd))))
      have HZ3 := Lib.hid (HZ2.out.keep (Tr.below HA3.out.1))
      have HR2_3 := Lib.hid (show Rd (V2.alloc (.cells #[.int .i64 z.sort, .int .i64 z.n, .string (bstr z.s), .slice LAz z.labels.length lcz, .slice Az z.l.length cz, .pointer pz] 45)) 6 (some ⟨V2.heap.size, 0, none⟩) 1 [.int .i64 z.sort, .int .i64 z.n, .string (bstr z.s), .slice LAz z.labels.length lcz, .slice Az z.l.length cz, .pointer pz] from Rd.lit (size := 6) (n := 1) V2 #[.int .i64 z.sort, .int .i64 z.n, .string (bstr z.s), .slice LAz z.labels.length lcz, .slice Az z.l.length cz, .pointer pz] _ rfl (fr := (0, 0)))
      have HL2_3 := Lib.hid HA3.out.2
      refine HK3.out _ _ HS3.out (fun _ => HT3.out.c34) ?_
      clear HK3 K3
      generalize V2.alloc (.cells #[.int .i64 z.sort, .int .i64 z.n, .string (bstr z.s), .slice LAz z.labels.length lcz, .slice Az z.l.length cz, .pointer pz] 45) = V3 at HA3 HT3 HS3 HZ3 HR2_3 HL2_3 ⊢
      try simp only [Act.put, List.setIfInBounds_toArray, List.set_cons_zero, List.set_cons_succ]
      refine wpAnyC_one (i := 15) (o := q13_15) (by kernel_rfl) rfl ?_
      intro K4 hK4
      have HK4 := Lib.hid hK4
      clear hK4
      unfold q13_15
      refine step_app elVal V3 (by rfl) (.tmp 63) (.tmp 68) (by rfl) (g7 + 1) c4 _ _ (by rfl) HT3.out.o4 (some ⟨V2.heap.size, 0, none⟩) 1 1 [.int .i64 z.sort, .int .i64 z.n, .string (bstr z.s), .slice LAz z.labels.length lcz, .slice Az z.l.length cz, .pointer pz] (by rfl) HR2_3.out HZ3.out.ones (by have := HLQ.out; omega) (lt_of_heap HT3.out.hd) ?_
      intro v4 V4 hown hg hat
      obtain ⟨A4, k4, rfl, _⟩ := own_cap hown
      have HT4 := Lib.hid (HT3.out.app4 HZ3.out hown hg hat)
      have HS4 := Lib.hid (HS3.out.keep HBG.out (HT3.out.b4 hg))
      have HZ4 := Lib.hid (HZ3.out.keep (Q := P) (fun b hb hlt => ⟨hb, (HT3.out.b4 hg).block b (HT3.out.hP b hb)⟩))
      clear hown hg hat
      refine HK4.out _ _ HS4.out (fun _ => HT4.out.c34) ?_
      clear HK4 K4
      try simp only [Act.put, List.setIfInBounds_toArray, List.set_cons_zero, List.set_cons_succ]
      refine wpAnyC_one (i := 17) (o := q13_17) (by kernel_rfl) rfl ?_
      intro K5 hK5
      have HK5 := Lib.hid hK5
      clear hK5
      unfold q13_17
      have e3 := HT4.out.c34.1
      have f3 := frozenN HT4.out.hd 3
      refine step_eqS rfl rfl (w' := V4.setCell ⟨g7, 3, none⟩ (.slice A2 (ls.length + 1) k2)) ?hr16 ?hn16
      case hr16 => go_simp; try with_reducible rfl
      have HT5 := Lib.hid HT4.out.st3
      have HS5 := Lib.hid (HS4.out.keep HBG.out ((Below.refl g7 V4).setCell (p := ⟨g7, 3, none⟩) (Nat.le_refl _) (.slice A2 (ls.length + 1) k2)))
      refine HK5.out _ _ HS5.out (clo_no (by kernel_rfl)) ?_
      clear HK5 K5 e3 f3
      try simp only [Act.put, List.setIfInBounds_toArray, List.set_cons_zero, List.set_cons_succ]
      generalize World.setCell V4 ⟨g7, 3, none⟩ (.slice A2 (ls.length + 1) k2) = U5 at HT5 HS5 ⊢
      refine wpAnyC_takeY (i := 18) (oi := q13_18) (v := ?v17) (by kernel_rfl) (by kernel_rfl) (by kernel_rfl) (by kernel_rfl) ⟨HS5.out, clo_no (by kernel_rfl)⟩ rfl (fun c a w h => hQp c a _ _ w h) rfl ?hy17 ?rest17
      case hy17 => intro W hSw; obtain ⟨s0, s1, s2, s3, s4, s5, s6, s7⟩ := hSw; unfold q13_18; go_simp; try with_reducible rfl
      simp only [q13_18, Act.put, List.setIfInBounds_toArray, List.set_cons_zero, List.set_cons_succ]
      refine wpAnyC_one (i := 19) (o := q13_19) (by kernel_rfl) rfl ?_
      intro K6 hK6
      have HK6 := Lib.hid hK6
      clear hK6
      unfold q13_19
      have e4 := HT5.out.c34.2
      have f4 := frozenN HT5.out.hd 4
      refine step_eqS rfl rfl (w' := U5.setCell ⟨g7, 4, none⟩ (.slice A4 (vs.length + 1) k4)) ?hr18 ?hn18
      case hr18 => go_simp; try with_reducible rfl
      have HT6 := Lib.hid HT5.out.st4
      have HS6 := Lib.hid (HS5.out.keep HBG.out ((Below.refl g7 U5).setCell (p := ⟨g7, 4, none⟩) (Nat.le_refl _) (.slice A4 (vs.length + 1) k4)))
      refine HK6.out _ _ HS6.out (clo_no (by kernel_rfl)) ?_
      clear HK6 K6 e4 f4
      try simp only [Act.put, List.setIfInBounds_toArray, List.set_cons_zero, List.set_cons_succ]
      generalize World.setCell U5 ⟨g7, 4, none⟩ (.slice A4 (vs.length + 1) k4) = U6 at HT6 HS6 ⊢
      exact wpAnyC_done (by kernel_rfl) (hKK.out _ _ _ _ _ _ _ _ _ _ _ _ _ _ _ _ _ _ _ _ _ HT6.out) _
    · intro K2 hK2
      have HK2 := Lib.hid hK2
      clear hK2
      unfold q13_14
      refine step_eq rfl (v := .slice (some ⟨V1.heap.size, 0, none⟩) 1 1) (w' := V1.alloc (.cells #[.int .i64 z.sort, .int .i64 z.n, .string (bstr z.s), .slice LAz z.labels.length lcz, .slice Az z.l.length cz, .pointer pz] 45)) ?hr19 ?hn19
      case hr19 => go_simp; try with_reducible rfl
      have HA2 := Lib.hid (And.intro (show Below V1.heap.size V1 (V1.alloc (.cells #[.int .i64 z.sort, .int .i64 z.n, .string (bstr z.s), .slice LAz z.labels.length lcz, .slice Az z.l.length cz, .pointer pz] 45)) from (Below.refl _ _).alloc (Nat.le_refl _) _) (show V1.heap.size < (V1.alloc (.cells #[.int .i64 z.sort, .int .i64 z.n, .string (bstr z.s), .slice LAz z.labels.length lcz, .slice Az z.l.length cz, .pointer pz] 45)).heap.size by rw [World.size_alloc]; omega))
      have HT2 := Lib.hid (HT1.out.below HA2.out.1)
      have HS2 := Lib.hid (HS1.out.keep HBG.out (HA2.out.1.mono (Nat.le_of_lt (lt_of_heap HT1.out.hd))))
      have HZ2 := Lib.hid (HZ1.out.keep (Tr.below HA2.out.1))
      have HR2_2 := Lib.hid (show Rd (V1.alloc (.cells #[.int .i64 z.sort, .int .i64 z.n, .string (bstr z.s), .slice LAz z.labels.length lcz, .slice Az z.l.length cz, .pointer pz] 45)) 6 (some ⟨V1.heap.size, 0, none⟩) 1 [.int .i64 z.sort, .int .i64 z.n, .string (bstr z.s), .slice LAz z.labels.length lcz, .slice Az z.l.length cz, .pointer pz] from Rd.lit (size := 6) (n := 1) V1 #[.int .i64 z.sort, .int .i64 z.n, .string (bstr z.s), .slice LAz z.labels.length lcz, .slice Az z.l.length cz, .pointer pz] _ rfl (fr := (0, 0)))
      have HR1_2 := Lib.hid (HR1_1.out.below HA2.out.1)
      have HL1_2 := Lib.hid (Nat.lt_trans HL1_1.out HA2.out.2)
      have HL2_2 := Lib.hid HA2.out.2
      have HN2 := Lib.hid HT1.out.n3
      refine HK2.out _ _ HS2.out (fun _ => HT2.out.c34) ?_
      clear HK2 K2
      generalize V1.alloc (.cells #[.int .i64 z.sort, .int .i64 z.n, .string (bstr z.s), .slice LAz z.labels.length lcz, .slice Az z.l.length cz, .pointer pz] 45) = V2 at HA2 HT2 HS2 HZ2 HR2_2 HR1_2 HL1_2 HL2_2 ⊢
      try simp only [Act.put, List.setIfInBounds_toArray, List.set_cons_zero, List.set_cons_succ]
      refine wpAnyC_one (i := 7) (o := q13_7) (by kernel_rfl) rfl ?_
      intro K3 hK3
      have HK3 := Lib.hid hK3
      clear hK3
      unfold q13_7
      refine step_app elStr V2 (by rfl) (.tmp 55) (.tmp 60) (by rfl) (g7 + 1) c3 _ _ (by rfl) HT2.out.o3 (some ⟨W9.heap.size, 0, none⟩) 1 1 [.string (bstr x)] (by rfl) HR1_2.out (one_str x) (by have := HLQ.out; omega) (lt_of_heap HT2.out.hd) ?_
      intro v3 V3 hown hg hat
      obtain ⟨A3, k3, rfl, _⟩ := own_cap hown
      have HT3 := Lib.hid (HT2.out.app3 hown hg hat)
      have HS3 := Lib.hid (HS2.out.keep HBG.out (HT2.out.b3 hg))
      have HZ3 := Lib.hid (HZ2.out.keep (Q := P) (fun b hb hlt => ⟨hb, (HT2.out.b3 hg).block b (HT2.out.hP b hb)⟩))
      have HR2_3 := Lib.hid (lit_keep HR2_2.out hg HL2_2.out HN2.out)
      clear hown hg hat
      refine HK3.out _ _ HS3.out (fun _ => HT3.out.c34) ?_
      clear HK3 K3
      try simp only [Act.put, List.setIfInBounds_toArray, List.set_cons_zero, List.set_cons_succ]
      refine wpAnyC_takeY (i := 16) (oi := q13_16) (v := ?v20) (by kernel_rfl) (by kernel_rfl) (by kernel_rfl) (by kernel_rfl) ⟨HS3.out, fun _ => HT3.out.c34⟩ rfl (fun c a w h => hQp c a _ _ w h) rfl ?hy20 ?rest20
      case hy20 => intro W hSw; obtain ⟨s0, s1, s2, s3, s4, s5, s6, s7⟩ := hSw; unfold q13_16; go_simp; try with_reducible rfl
      simp only [q13_16, Act.put, List.setIfInBounds_toArray, List.set_cons_zero, List.set_cons_succ]
      refine wpAnyC_one (i := 15) (o := q13_15) (by kernel_rfl) rfl ?_
      intro K4 hK4
      have HK4 := Lib.hid hK4
      clear hK4
      unfold q13_15
      refine step_app elVal V3 (by rfl) (.tmp 63) (.tmp 68) (by rfl) (g7 + 1) c4 _ _ (by rfl) HT3.out.o4 (some ⟨V1.heap.size, 0, none⟩) 1 1 [.int .i64 z.sort, .int .i64 z.n, .string (bstr z.s), .slice LAz z.labels.length lcz, .slice Az z.l.length cz, .pointer pz] (by rfl) HR2_3.out HZ3.out.ones (by have := HLQ.out; omega) (lt_of_heap HT3.out.hd) ?_
      intro v4 V4 hown hg hat
      obtain ⟨A4, k4, rfl, _⟩ := own_cap hown
      have HT4 := Lib.hid (HT3.out.app4 HZ3.out hown hg hat)
      have HS4 := Lib.hid (HS3.out.keep HBG.out (HT3.out.b4 hg))
      have HZ4 := Lib.hid (HZ3.out.keep (Q := P) (fun b hb hlt => ⟨hb, (HT3.out.b4 hg).block b (HT3.out.hP b hb)⟩))
      clear hown hg hat
      refine HK4.out _ _ HS4.out (fun _ => HT4.out.c34) ?_
      clear HK4 K4
      try simp only [Act.put, List.setIfInBounds_toArray, List.set_cons_zero, List.set_cons_succ]
      refine wpAnyC_one (i := 17) (o := q13_17) (by kernel_rfl) rfl ?_
      intro K5 hK5
      have HK5 := Lib.hid hK5
      clear hK5
      unfold q13_17
      have e3 := HT4.out.c34.1
      have f3 := frozenN HT4.out.hd 3
      refine step_eqS rfl rfl (w' := V4.setCell ⟨g7, 3, none⟩ (.slice A3 (ls.length + 1) k3)) ?hr21 ?hn21
      case hr21 => go_simp; try with_reducible rfl
      have HT5 := Lib.hid HT4.out.st3
      have HS5 := Lib.hid (HS4.out.keep HBG.out ((Below.refl g7 V4).setCell (p := ⟨g7, 3, none⟩) (Nat.le_refl _) (.slice A3 (ls.length + 1) k3)))
      refine HK5.out _ _ HS5.out (clo_no (by kernel_rfl)) ?_
      clear HK5 K5 e3 f3
      try simp only [Act.put, List.setIfInBounds_toArray, List.set_cons_zero, List.set_cons_succ]
      generalize World.setCell V4 ⟨g7, 3, none⟩ (.slice A3 (ls.length + 1) k3) = U5 at HT5 HS5 ⊢
      refine wpAnyC_takeY (i := 18) (oi := q13_18) (v := ?v22) (by kernel_rfl) (by kernel_rfl) (by kernel_rfl) (by kernel_rfl) ⟨HS5.out, clo_no (by kernel_rfl)⟩ rfl (fun c a w h => hQp c a _ _ w h) rfl ?hy22 ?rest22
      case hy22 => intro W hSw; obtain ⟨s0, s1, s2, s3, s4, s5, s6, s7⟩ := hSw; unfold q13_18; go_simp; try with_reducible rfl
      simp only [q13_18, Act.put, List.setIfInBounds_toArray, List.set_cons_zero, List.set_cons_succ]
      refine wpAnyC_one (i := 19) (o := q13_19) (by kernel_rfl) rfl ?_
      intro K6 hK6
      have HK6 := Lib.hid hK6
      clear hK6
      unfold q13_19
      have e4 := HT5.out.c34.2
      have f4 := frozenN HT5.out.hd 4
      refine step_eqS rfl rfl (w' := U5.setCell ⟨g7, 4, none⟩ (.slice A4 (vs.length + 1) k4)) ?hr23 ?hn23
      case hr23 => go_simp; try with_reducible rfl
      have HT6 := Lib.hid HT5.out.st4
      have HS6 := Lib.hid (HS5.out.keep HBG.out ((Below.refl g7 U5).setCell (p := ⟨g7, 4, none⟩) (Nat.le_refl _) (.slice A4 (vs.length + 1) k4)))
      refine HK6.out _ _ HS6.out (clo_no (by kernel_rfl)) ?_
      clear HK6 K6 e4 f4
      try simp only [Act.put, List.setIfInBounds_toArray, List.set_cons_zero, List.set_cons_succ]
      generalize World.setCell U5 ⟨g7, 4, none⟩ (.slice A4 (vs.length + 1) k4) = U6 at HT6 HS6 ⊢
      exact wpAnyC_done (by kernel_rfl) (hKK.out _ _ _ _ _ _ _ _ _ _ _ _ _ _ _ _ _ _ _ _ _ HT6.out) _
  · intro K1 hK1
    have HK1 := Lib.hid hK1
    clear hK1
    unfold q13_14
    refine step_eq rfl (v := .slice (some ⟨W9.heap.size, 0, none⟩) 1 1) (w' := W9.alloc (.cells #[.int .i64 z.sort, .int .i64 z.n, .string (bstr z.s), .slice LAz z.labels.length lcz, .slice Az z.l.length cz, .pointer pz] 45)) ?hr24 ?hn24
    case hr24 => go_simp; try with_reducible rfl
    have HA1 := Lib.hid (And.intro (show Below W9.heap.size W9 (W9.alloc (.cells #[.int .i64 z.sort, .int .i64 z.n, .string (bstr z.s), .slice LAz z.labels.length lcz, .slice Az z.l.length cz, .pointer pz] 45)) from (Below.refl _ _).alloc (Nat.le_refl _) _) (show W9.heap.size < (W9.alloc (.cells #[.int .i64 z.sort, .int .i64 z.n, .string (bstr z.s), .slice LAz z.labels.length lcz, .slice Az z.l.length cz, .pointer pz] 45)).heap.size by rw [World.size_alloc]; omega))
    have HT1 := Lib.hid (HT0.out.below HA1.out.1)
    have HS1 := Lib.hid (HS0.out.keep HBG.out (HA1.out.1.mono (Nat.le_of_lt (lt_of_heap HT0.out.hd))))
    have HZ1 := Lib.hid (HZ0.out.keep (Tr.below HA1.out.1))
    have HR2_1 := Lib.hid (show Rd (W9.alloc (.cells #[.int .i64 z.sort, .int .i64 z.n, .string (bstr z.s), .slice LAz z.labels.length lcz, .slice Az z.l.length cz, .pointer pz] 45)) 6 (some ⟨W9.heap.size, 0, none⟩) 1 [.int .i64 z.sort, .int .i64 z.n, .string (bstr z.s), .slice LAz z.labels.length lcz, .slice Az z.l.length cz, .pointer pz] from Rd.lit (size := 6) (n := 1) W9 #[.int .i64 z.sort, .int .i64 z.n, .string (bstr z.s), .slice LAz z.labels.length lcz, .slice Az z.l.length cz, .pointer pz] _ rfl (fr := (0, 0)))
    have HL2_1 := Lib.hid HA1.out.2
    have HN1 := Lib.hid HT0.out.n3
    refine HK1.out _ _ HS1.out (fun _ => HT1.out.c34) ?_
    clear HK1 K1
    generalize W9.alloc (.cells #[.int .i64 z.sort, .int .i64 z.n, .string (bstr z.s), .slice LAz z.labels.length lcz, .slice Az z.l.length cz, .pointer pz] 45) = V1 at HA1 HT1 HS1 HZ1 HR2_1 HL2_1 ⊢
    try simp only [Act.put, List.setIfInBounds_toArray, List.set_cons_zero, List.set_cons_succ]
    refine wpAnyC_one (i := 6) (o := q13_6) (by kernel_rfl) rfl ?_
    intro K2 hK2
    have HK2 := Lib.hid hK2
    clear hK2
    unfold q13_6
    refine step_eq rfl (v := .slice (some ⟨V1.heap.size, 0, none⟩) 1 1) (w' := V1.alloc (.cells #[.string (bstr x)] 9)) ?hr25 ?hn25
    case hr25 => go_simp; try with_reducible rfl
    have HA2 := Lib.hid (And.intro (show Below V1.heap.size V1 (V1.alloc (.cells #[.string (bstr x)] 9)) from (Below.refl _ _).alloc (Nat.le_refl _) _) (show V1.heap.size < (V1.alloc (.cells #[.string (bstr x)] 9)).heap.size by rw [World.size_alloc]; omega))
    have HT2 := Lib.hid (HT1.out.below HA2.out.1)
    have HS2 := Lib.hid (HS1.out.keep HBG.out (HA2.out.1.mono (Nat.le_of_lt (lt_of_heap HT1.out.hd))))
    have HZ2 := Lib.hid (HZ1.out.keep (Tr.below HA2.out.1))
    have HR1_2 := Lib.hid (show Rd (V1.alloc (.cells #[.string (bstr x)] 9)) 1 (some ⟨V1.heap.size, 0, none⟩) 1 [.string (bstr x)] from Rd.lit (size := 1) (n := 1) V1 #[.string (bstr x)] _ rfl (fr := (0, 0)))
    have HR2_2 := Lib.hid (HR2_1.out.below HA2.out.1)
    have HL2_2 := Lib.hid (Nat.lt_trans HL2_1.out HA2.out.2)
    have HL1_2 := Lib.hid HA2.out.2
    refine HK2.out _ _ HS2.out (fun _ => HT2.out.c34) ?_
    clear HK2 K2
    generalize V1.alloc (.cells #[.string (bstr x)] 9) = V2 at HA2 HT2 HS2 HZ2 HR1_2 HR2_2 HL2_2 HL1_2 ⊢
    try simp only [Act.put, List.setIfInBounds_toArray, List.set_cons_zero, List.set_cons_succ]
    refine wpAnyC_one (i := 7) (o := q13_7) (by kernel_rfl) rfl ?_
    intro K3 hK3
    have HK3 := Lib.hid hK3
    clear hK3
    unfold q13_7
    refine step_app elStr V2 (by rfl) (.tmp 55) (.tmp 60) (by rfl) (g7 + 1) c3 _ _ (by rfl) HT2.out.o3 (some ⟨V1.heap.size, 0, none⟩) 1 1 [.string (bstr x)] (by rfl) HR1_2.out (one_str x) (by have := HLQ.out; omega) (lt_of_heap HT2.out.hd) ?_
    intro v3 V3 hown hg hat
    obtain ⟨A3, k3, rfl, _⟩ := own_cap hown
    have HT3 := Lib.hid (HT2.out.app3 hown hg hat)
    have HS3 := Lib.hid (HS2.out.keep HBG.out (HT2.out.b3 hg))
    have HZ3 := Lib.hid (HZ2.out.keep (Q := P) (fun b hb hlt => ⟨hb, (HT2.out.b3 hg).block b (HT2.out.hP b hb)⟩))
    have HR2_3 := Lib.hid (lit_keep HR2_2.out hg HL2_2.out HN1.out)
    clear hown hg hat
    refine HK3.out _ _ HS3.out (fun _ => HT3.out.c34) ?_
    clear HK3 K3
    try simp only [Act.put, List.setIfInBounds_toArray, List.set_cons_zero, List.set_cons_succ]
    refine wpAnyC_takeY (i := 16) (oi := q13_16) (v := ?v26) (by kernel_rfl) (by kernel_rfl) (by kernel_rfl) (by kernel_rfl) ⟨HS3.out, fun _ => HT3.out.c34⟩ rfl (fun c a w h => hQp c a _ _ w h) rfl ?hy26 ?rest26
    case hy26 => intro W hSw; obtain ⟨s0, s1, s2, s3, s4, s5, s6, s7⟩ := hSw; unfold q13_16; go_simp; try with_reducible rfl
    simp only [q13_16, Act.put, List.setIfInBounds_toArray, List.set_cons_zero, List.set_cons_succ]
    refine wpAnyC_one (i := 15) (o := q13_15) (by kernel_rfl) rfl ?_
    intro K4 hK4
    have HK4 := Lib.hid hK4
    clear hK4
    unfold q13_15
    refine step_app elVal V3 (by rfl) (.tmp 63) (.tmp 68) (by rfl) (g7 + 1) c4 _ _ (by rfl) HT3.out.o4 (some ⟨W9.heap.size, 0, none⟩) 1 1 [.int .i64 z.sort, .int .i64 z.n, .string (bstr z.s), .slice LAz z.labels.length lcz, .slice Az z.l.length cz, .pointer pz] (by rfl) HR2_3.out HZ3.out.ones (by have := HLQ.out; omega) (lt_of_heap HT3.out.hd) ?_
    intro v4 V4 hown hg hat
    obtain ⟨A4, k4, rfl, _⟩ := own_cap hown
    have HT4 := Lib.hid (HT3.out.app4 HZ3.out hown hg hat)
    have HS4 := Lib.hid (HS3.out.keep HBG.out (HT3.out.b4 hg))
    have HZ4 := Lib.hid (HZ3.out.keep (Q := P) (fun b hb hlt => ⟨hb, (HT3.out.b4 hg).block b (HT3.out.hP b hb)⟩))
    clear hown hg hat
    refine HK4.out _ _ HS4.out (fun _ => HT4.out.c34) ?_
    clear HK4 K4
    try simp only [Act.put, List.setIfInBounds_toArray, List.set_cons_zero, List.set_cons_succ]
    refine wpAnyC_one (i := 17) (o := q13_17) (by kernel_rfl) rfl ?_
    intro K5 hK5
    have HK5 := Lib.hid hK5
    clear hK5
    unfold q13_17
    have e3 := HT4.out.c34.1
    have f3 := frozenN HT4.out.hd 3
    refine step_eqS rfl rfl (w' := V4.setCell ⟨g7, 3, none⟩ (.slice A3 (ls.length + 1) k3)) ?hr27 ?hn27
    case hr27 => go_simp; try with_reducible rfl
    have HT5 := Lib.hid HT4.out.st3
    have HS5 := Lib.hid (HS4.out.keep HBG.out ((Below.refl g7 V4).setCell (p := ⟨g7, 3, none⟩) (Nat.le_refl _) (.slice A3 (ls.length + 1) k3)))
    refine HK5.out _ _ HS5.out (clo_no (by kernel_rfl)) ?_
    clear HK5 K5 e3 f3
    try simp only [Act.put, List.setIfInBounds_toArray, List.set_cons_zero, List.set_cons_succ]
    generalize World.setCell V4 ⟨g7, 3, none⟩ (.slice A3 (ls.length + 1) k3) = U5 at HT5 HS5 ⊢
    refine wpAnyC_takeY (i := 18) (oi := q13_18) (v := ?v28) (by kernel_rfl) (by kernel_rfl) (by kernel_rfl) (by kernel_rfl) ⟨HS5.out, clo_no (by kernel_rfl)⟩ rfl (fun c a w h => hQp c a _ _ w h) rfl ?hy28 ?rest28
    case hy28 => intro W hSw; obtain ⟨s0, s1, s2, s3, s4, s5, s6, s7⟩ := hSw; unfold q13_18; go_simp; try with_reducible rfl
    simp only [q13_18, Act.put, List.setIfInBounds_toArray, List.set_cons_zero, List.set_cons_succ]
    refine wpAnyC_one (i := 19) (o := q13_19) (by kernel_rfl) rfl ?_
    intro K6 hK6
    have HK6 := Lib.hid hK6
    clear hK6
    unfold q13_19
    have e4 := HT5.out.c34.2
    have f4 := frozenN HT5.out.hd 4
    refine step_eqS rfl rfl (w' := U5.setCell ⟨g7, 4, none⟩ (.slice A4 (vs.length + 1) k4)) ?hr29 ?hn29
    case hr29 => go_simp; try with_reducible rfl
    have HT6 := Lib.hid HT5.out.st4
    have HS6 := Lib.hid (HS5.out.keep HBG.out ((Below.refl g7 U5).setCell (p := ⟨g7, 4, none⟩) (Nat.le_refl _) (.slice A4 (vs.length + 1) k4)))
    refine HK6.out _ _ HS6.out (clo_no (by kernel_rfl)) ?_
    clear HK6 K6 e4 f4
    try simp only [Act.put, List.setIfInBounds_toArray, List.set_cons_zero, List.set_cons_succ]
    generalize World.setCell U5 ⟨g7, 4, none⟩ (.slice A4 (vs.length + 1) k4) = U6 at HT6 HS6 ⊢
    exact wpAnyC_done (by kernel_rfl) (hKK.out _ _ _ _ _ _ _ _ _ _ _ _ _ _ _ _ _ _ _ _ _ HT6.out) _
end Go.Proofs.YtjmgnohepoacbaaDoor
