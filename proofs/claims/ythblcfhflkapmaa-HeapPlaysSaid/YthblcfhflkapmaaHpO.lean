/-
  The heap's small functions: words that are fine, rows of words made anew.
-/
import Derived.Test.YthblcfhflkapmaaHpN
import Derived.Test.YthblcfhflkapmaaWordB
namespace Go.Proofs.Ythblcfhflkapmaa
open Go Go.ChangeShapes Go.WideShapes Go.ChangeAt Go.RowKit Go.Sort
set_option linter.unusedVariables false
set_option linter.unusedSimpArgs false

theorem elWord : ElemTy Try.prog 34 36 (.agg #[.bool false, .int .i64 0]) 2 16 :=
  ⟨Try.underlying34, by kernel_rfl, rfl, by decide, by decide⟩
theorem elBool : ElemTy Try.prog 73 4 (.bool false) 1 1 :=
  ⟨Try.underlying73, by kernel_rfl, rfl, by decide, by decide⟩
theorem wnil_yes (n c : Nat) (w : World) : (binOp .eql 34 (.slice none n c) (.slice none 0 0)).run Try.prog w = .ok (.bool true) w := by kernel_rfl
theorem wnil_no (a : Addr) (n c : Nat) (w : World) : (binOp .eql 34 (.slice (some a) n c) (.slice none 0 0)).run Try.prog w = .ok (.bool false) w := by kernel_rfl
theorem Rd.wn {w : World} {A : Option Addr} {n : Nat} {l : List Wd} (h : Rd w 2 A n (wcells l)) : l.length = n := by have := h.1; rw [wcells_len] at this; omega
/-- A word of a row. -/
theorem Rd.word {w : World} {A : Option Addr} {l : List Wd} {n : Nat} (h : Rd w 2 A n (wcells l)) {k : Nat} {u : Wd} (hk : l[k]? = some u) : ∃ b o, A = some ⟨b, o, none⟩ ∧ b < w.heap.size ∧ w.cell? ⟨b, o + k * 2, none⟩ = some (.bool u.ptr) ∧ w.cell? ⟨b, o + k * 2 + 1, none⟩ = some (.int .i64 u.v) := by
  have hkl := (List.getElem?_eq_some_iff.1 hk).1
  obtain ⟨b, o, rfl, hb, hh⟩ := h.base (by rw [wcells_len]; omega)
  obtain ⟨h1, h2⟩ := wcells_at hk
  exact ⟨b, o, rfl, hb, hh _ _ h1, by have := hh _ _ h2; rw [← Nat.add_assoc] at this; exact this⟩
set_option maxRecDepth 100000 in
set_option maxHeartbeats 1000000 in
theorem wclone_any (w : World) (A : Option Addr) (l : List Wd) (c : Nat) (h : Rd w 2 A l.length (wcells l)) (hm : l.length ≤ 100000000) :
    Calls Try.prog 30 #[.slice A l.length c] w fun e w' => ∃ v, e = .returned v ∧ w'.ownsRow w.heap.size WTy 2 v l.length (wcells l) ∧ Below w.heap.size w w' := by
  have HR := Lib.hid h
  have HM := Lib.hid hm
  have q1 := wnil_yes
  have q2 := wnil_no
  cases A with
  | none =>
    have hn : l = [] := by
      rcases Nat.eq_zero_or_pos l.length with q | q
      · exact List.eq_nil_of_length_eq_zero q
      · obtain ⟨a, e, _⟩ := h.addr (by rw [h.1]; omega)
        cases e
    subst hn
    clear h hm
    go_enter Try.func30, Try.ntmps30
    go_wp2_with fail
    go_returns
    exact ⟨_, rfl, World.ownsRow_nil _ _ _ _, Below.refl _ _⟩
  | some a =>
    clear h hm
    have HO := Lib.hid (wcells_ones l)
    have HRD := Lib.hid (HR.out.alloc (.cells #[] 36))
    go_enter Try.func30, Try.ntmps30
    have HOW := Lib.hid (World.ownsRow_made (base := w.heap.size) (e := 36) (size := 2) w #[] 0 (Nat.le_refl _) (by simp [maxLen]) rfl)
    go_wp2_with (at_builtin; refine wpList_app elWord _ rfl (.tmp 5) (.tmp 6) rfl w.heap.size (.slice (some ⟨w.heap.size, 0, none⟩) 0 0) 0 [] rfl HOW.out (some a) l.length c _ rfl HRD.out HO.out (by have := HM.out; omega) (by simp) ?_; intro v6 w6 hown6 hb6 hg6 hat6; rw [Nat.zero_add] at hown6; rw [List.nil_append] at hown6; have H6 := Lib.hid (And.intro hown6 hb6); clear hown6 hb6 hg6 hat6)
    go_returns
    exact ⟨_, rfl, H6.out.1, ((Below.refl w.heap.size w).alloc (Nat.le_refl _) _).trans H6.out.2⟩
/-- Whether a word is fine. -/
def fineB (L : List Ob) (u : Wd) : Bool := !u.ptr || (at_ L u.v).isSome
theorem fineB_iff (L : List Ob) (u : Wd) : fineB L u = true ↔ Fine L u := by
  unfold fineB Fine
  cases u.ptr with
  | false => simp
  | true =>
    simp only [Bool.not_true, Bool.false_or, true_implies]
    exact Option.isSome_iff_exists
section
variable {w : World} {B hb : Nat} {size runs : Int} {L : List Ob} {V G V' G' : Value}
set_option maxRecDepth 100000 in
set_option maxHeartbeats 2000000 in
theorem isFine_any (h : CH w B hb size runs L V G V' G') (hs : sizes L ≤ 4000000) (u : Wd) :
    Calls Try.prog 38 #[.pointer (some ⟨hb, 2, none⟩), .agg #[.bool u.ptr, .int .i64 u.v]] w fun e w' => e = .returned (.bool (fineB L u)) ∧ Below w.heap.size w w' := by
  have hb1 : Below w.heap.size w (w.alloc (.cells #[.bool u.ptr, .int .i64 u.v] 36)) := (Below.refl _ _).alloc (Nat.le_refl _) _
  have HI := Lib.hid (isObject_any (h.below hb1) hs u.v)
  obtain ⟨c0, c1⟩ := cells2 (heap_new (w := w) (o := .cells #[.bool u.ptr, .int .i64 u.v] 36) rfl)
  have HB := Lib.hid hb1
  unfold fineB
  clear h hs hb1
  rcases Bool.eq_false_or_eq_true u.ptr with q | q
  all_goals
    rw [q] at c0 HI HB ⊢
    go_enter Try.func38, Try.ntmps38
    go_wp2_with (go_at_call 39; (with_reducible refine HI.out.mono ?_); rintro e w1 ⟨rfl, rfl⟩)
    go_returns
    first | exact ⟨rfl, HB.out⟩ | exact ⟨rfl, Below.refl _ _⟩
theorem all_take {f : Wd → Bool} {l : List Wd} {k : Nat} {u : Wd} (h : l[k]? = some u) (ha : (l.take k).all f = true) : (l.take (k + 1)).all f = f u := by
  obtain ⟨h1, h2⟩ := List.getElem?_eq_some_iff.1 h
  rw [List.take_succ_eq_append_getElem h1, h2, List.all_append, ha]
  simp
theorem all_bad {f : Wd → Bool} {l : List Wd} {k : Nat} {u : Wd} (h : l[k]? = some u) (hf : f u = false) : l.all f = false := by
  rw [List.all_eq_false]
  exact ⟨u, List.mem_of_getElem? h, by rw [hf]; simp⟩
set_option maxRecDepth 100000 in
set_option maxHeartbeats 2000000 in
theorem fine_any (h : CH w B hb size runs L V G V' G') (hs : sizes L ≤ 4000000) (A : Option Addr) (l : List Wd) (c : Nat) (hr : Rd w 2 A l.length (wcells l)) (hm : l.length ≤ 4000000) :
    Calls Try.prog 29 #[.pointer (some ⟨hb, 2, none⟩), .slice A l.length c] w fun e w' => e = .returned (.bool (l.all (fineB L))) ∧ Below w.heap.size w w' := by
  have H := Lib.hid (And.intro h (And.intro hs (And.intro hr hm)))
  clear h hs hr hm
  go_enter Try.func29, Try.ntmps29
  go_wp2_with fail
  go_loopw [6, 9] (fun _ i wr => ∃ k : Nat, i = .int .i64 k ∧ k ≤ l.length ∧ (l.take k).all (fineB L) = true ∧ Below w.heap.size w wr) (fun _ i _ => l.length - (intOf i).toNat)
  case atStart => exact ⟨0, rfl, Nat.zero_le _, rfl, Below.refl _ _⟩
  case round =>
    obtain ⟨k, rfl, hk, hall, hb⟩ := hrel
    have HB := Lib.hid hb
    have HA := Lib.hid hall
    by_cases hlt : k < l.length
    · obtain ⟨u, hu⟩ : ∃ u, l[k]? = some u := ⟨_, List.getElem?_eq_getElem hlt⟩
      obtain ⟨b, o, rfl, _, h1, h2⟩ := (H.out.2.2.1.below hb).word hu
      have HU := Lib.hid hu
      have n1 : (k : Int) < (l.length : Int) := by omega
      have n0 : (0 : Int) ≤ (k : Int) := by omega
      have n2 : (l.length : Int) ≤ 4000000 := by have := H.out.2.2.2; omega
      have hb1 : Below wr.heap.size wr (wr.alloc (.cells #[.bool u.ptr, .int .i64 u.v] 36)) := (Below.refl _ _).alloc (Nat.le_refl _) _
      obtain ⟨c0, c1⟩ := cells2 (heap_new (w := wr) (o := .cells #[.bool u.ptr, .int .i64 u.v] 36) rfl)
      have hb2 := below_then hb hb1
      have HF := Lib.hid (isFine_any (H.out.1.below hb2) H.out.2.1 u)
      have HB2 := Lib.hid hb2
      clear hb hall hu hb1 hb2
      rcases Bool.eq_false_or_eq_true (fineB L u) with q | q
      all_goals
        rw [q] at HF
        have HQ := Lib.hid q
        clear q
        go_wp2_with (go_at_call 38; (with_reducible refine HF.out.mono ?_); rintro e w1 ⟨rfl, hb3⟩; have HB3 := Lib.hid (below_then HB2.out hb3); clear hb3)
      · go_roundw
        case rel => exact ⟨k + 1, by go_num, hlt, by rw [all_take HU.out HA.out, HQ.out], HB3.out⟩
        case measure => simp [intOf] <;> omega
      · go_returns
        exact ⟨by rw [all_bad HU.out HQ.out]; rfl, HB3.out⟩
    · have hkk : k = l.length := by omega
      subst hkk
      rw [List.take_length] at HA
      clear hb hall hk
      go_wp2_with fail
      go_returns
      exact ⟨by rw [HA.out]; rfl, HB.out⟩
theorem used_any (h : CH w B hb size runs L V G V' G') :
    Calls Try.prog 26 #[.pointer (some ⟨hb, 0, none⟩)] w fun e w' => e = .returned (.int .i64 (sizes L)) ∧ w = w' := by
  obtain ⟨x0, x1, x2, x3, x4, x5⟩ := cells6 h.hd
  obtain ⟨A, c, rfl, _⟩ := own_cap h.fw
  clear h
  go_enter Try.func26, Try.ntmps26
  go_wp2_with fail
  go_returns
  exact ⟨rfl, rfl⟩
theorem runs_any (h : CH w B hb size runs L V G V' G') :
    Calls Try.prog 27 #[.pointer (some ⟨hb, 0, none⟩)] w fun e w' => e = .returned (.int .i64 runs) ∧ w = w' := by
  obtain ⟨x0, x1, x2, x3, x4, x5⟩ := cells6 h.hd
  clear h
  go_enter Try.func27, Try.ntmps27
  go_wp2_with fail
  go_returns
  exact ⟨rfl, rfl⟩
set_option maxHeartbeats 1000000 in
theorem hasRoom_any (h : CH w B hb size runs L V G V' G') (hs : sizes L ≤ 4000000) (hz : -4000000 ≤ size ∧ size ≤ 4000000) (n : Int) :
    Calls Try.prog 31 #[.pointer (some ⟨hb, 0, none⟩), .int .i64 n] w fun e w' => e = .returned (.bool (decide (n < size - sizes L))) ∧ Below w.heap.size w w' := by
  obtain ⟨x0, x1, x2, x3, x4, x5⟩ := cells6 h.hd
  obtain ⟨A, c, rfl, _⟩ := own_cap h.fw
  have HB := Lib.hid (below_drew1 w)
  clear h
  go_enter Try.func31, Try.ntmps31
  go_wp2_with fail
  go_quiet (fail)
  go_wp2_with fail
  go_returns
  exact ⟨by first | rfl | go_num, below_drewN (Below.refl _ _) _⟩
end
end Go.Proofs.Ythblcfhflkapmaa
