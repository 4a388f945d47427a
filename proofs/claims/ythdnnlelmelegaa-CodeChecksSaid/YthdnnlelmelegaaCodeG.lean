/-
  Images held against each other, by the document's answer.
-/
import Derived.Test.YthdnnlelmelegaaCodeF
namespace Go.Proofs.Ythdnnlelmelegaa
open Go.ChangeShapes Go.WideShapes Go.ChangeAt Go.RowKit
set_option linter.unusedVariables false

theorem sameImg_len {x y : AImg} (h : ¬ (x.ints.length = y.ints.length ∧ x.texts.length = y.texts.length ∧ x.funs.length = y.funs.length)) : sameImg x y = false := by
  unfold sameImg
  rw [Bool.and_eq_false_iff]
  by_cases h1 : x.ints = y.ints
  · by_cases h2 : x.texts = y.texts
    · exact .inr (sameFncs_len (fun h3 => h ⟨by rw [h1], by rw [h2], h3⟩))
    · exact .inl (by rw [decide_eq_false h2, Bool.and_false])
  · exact .inl (by rw [decide_eq_false h1]; rfl)
theorem sameImg_ints {x y : AImg} {k : Nat} (h1 : k < x.ints.length) (h2 : k < y.ints.length) (h : ¬ x.ints[k] = y.ints[k]) : sameImg x y = false := by
  unfold sameImg
  rw [decide_eq_false (show ¬ x.ints = y.ints from fun e => h (by simp only [e]))]; rfl
theorem sameImg_texts {x y : AImg} {k : Nat} (h1 : k < x.texts.length) (h2 : k < y.texts.length) (h : ¬ x.texts[k] = y.texts[k]) : sameImg x y = false := by
  unfold sameImg
  rw [decide_eq_false (show ¬ x.texts = y.texts from fun e => h (by simp only [e])), Bool.and_false]; rfl
theorem sameImg_funs {x y : AImg} {k : Nat} (h1 : k < x.funs.length) (h2 : k < y.funs.length) (h : sameFnc x.funs[k] y.funs[k] = false) : sameImg x y = false := by
  unfold sameImg
  rw [sameFncs_no h1 h2 h, Bool.and_false]
theorem sameImg_yes {x y : AImg} (l1 : x.ints.length = y.ints.length) (l2 : x.texts.length = y.texts.length) (l3 : x.funs.length = y.funs.length)
    (h1 : ∀ j (a : j < x.ints.length) (b : j < y.ints.length), x.ints[j] = y.ints[j]) (h2 : ∀ j (a : j < x.texts.length) (b : j < y.texts.length), x.texts[j] = y.texts[j])
    (h3 : ∀ j (a : j < x.funs.length) (b : j < y.funs.length), sameFnc x.funs[j] y.funs[j] = true) : sameImg x y = true := by
  unfold sameImg
  rw [decide_eq_true (List.ext_getElem l1 h1), decide_eq_true (List.ext_getElem l2 h2), sameFncs_yes l3 h3]; rfl
theorem sameFnc_head {x y : AFnc} (h : ¬ (x.regs = y.regs ∧ x.caps = y.caps ∧ x.code.length = y.code.length)) : sameFnc x y = false := by
  unfold sameFnc
  rw [Bool.and_eq_false_iff]
  by_cases h1 : x.regs = y.regs
  · by_cases h2 : x.caps = y.caps
    · exact .inr (sameInss_len (fun h3 => h ⟨h1, h2, h3⟩))
    · exact .inl (by rw [decide_eq_false h2, Bool.and_false])
  · exact .inl (by rw [decide_eq_false h1]; rfl)
theorem sameFnc_code {x y : AFnc} {k : Nat} (h1 : k < x.code.length) (h2 : k < y.code.length) (h : sameIns x.code[k] y.code[k] = false) : sameFnc x y = false := by
  unfold sameFnc
  rw [sameInss_no h1 h2 h, Bool.and_false]
theorem sameFnc_yes {x y : AFnc} (e1 : x.regs = y.regs) (e2 : x.caps = y.caps) (l : x.code.length = y.code.length) (h : ∀ j (a : j < x.code.length) (b : j < y.code.length), sameIns x.code[j] y.code[j] = true) : sameFnc x y = true := by
  unfold sameFnc
  rw [decide_eq_true e1, decide_eq_true e2, sameInss_yes l h]; rfl
theorem sameIns_head {x y : AIns} (h : ¬ (x.op = y.op ∧ x.a = y.a ∧ x.l.length = y.l.length)) : sameIns x y = false := decide_eq_false fun h1 => h ⟨h1.1, h1.2.1, by rw [h1.2.2]⟩
theorem sameIns_num {x y : AIns} {k : Nat} (h1 : k < x.l.length) (h2 : k < y.l.length) (h : ¬ x.l[k] = y.l[k]) : sameIns x y = false := decide_eq_false fun h3 => h (by simp only [h3.2.2])
theorem sameIns_yes {x y : AIns} (e1 : x.op = y.op) (e2 : x.a = y.a) (l : x.l.length = y.l.length) (h : ∀ j (a : j < x.l.length) (b : j < y.l.length), x.l[j] = y.l[j]) : sameIns x y = true := decide_eq_true ⟨e1, e2, List.ext_getElem l h⟩

theorem upto_succ {α : Type} {l r : List α} {k : Nat} (h : ∀ j (a : j < l.length) (b : j < r.length), j < k → l[j] = r[j]) (h1 : k < l.length) (h2 : k < r.length) (e : l[k] = r[k]) : ∀ j (a : j < l.length) (b : j < r.length), j < k + 1 → l[j] = r[j] := by
  intro j a b hj
  rcases Nat.lt_succ_iff_lt_or_eq.1 hj with h' | h'
  · exact h j a b h'
  · subst h'; exact e

/-- The two images as the call holds them. -/
structure Held2 (w : World) (h : Nat) (x y : AImg) : Prop where
  x0 : w.cell? ⟨h, 0, none⟩ = some (.slice x.iA x.iN x.iC)
  x1 : w.cell? ⟨h, 1, none⟩ = some (.slice x.tA x.tN x.tC)
  x2 : w.cell? ⟨h, 2, none⟩ = some (.slice x.fA x.fN x.fC)
  y0 : w.cell? ⟨h + 1, 0, none⟩ = some (.slice y.iA y.iN y.iC)
  y1 : w.cell? ⟨h + 1, 1, none⟩ = some (.slice y.tA y.tN y.tC)
  y2 : w.cell? ⟨h + 1, 2, none⟩ = some (.slice y.fA y.fN y.fC)
  hx : x.In w
  hy : y.In w
theorem Held2.below {w w' : World} {h : Nat} {x y : AImg} (k : Held2 w h x y) (hb : Below w.heap.size w w') : Held2 w' h x y :=
  ⟨cell_below hb k.x0, cell_below hb k.x1, cell_below hb k.x2, cell_below hb k.y0, cell_below hb k.y1, cell_below hb k.y2, k.hx.below hb, k.hy.below hb⟩
theorem held2_made (w : World) (x y : AImg) (hx : x.In w) (hy : y.In w) : Held2 ((w.alloc (.cells #[.slice x.iA x.iN x.iC, .slice x.tA x.tN x.tC, .slice x.fA x.fN x.fC] 26)).alloc (.cells #[.slice y.iA y.iN y.iC, .slice y.tA y.tN y.tC, .slice y.fA y.fN y.fC] 26)) w.heap.size x y := by
  have hb0 : Below w.heap.size w ((w.alloc (.cells #[.slice x.iA x.iN x.iC, .slice x.tA x.tN x.tC, .slice x.fA x.fN x.fC] 26)).alloc (.cells #[.slice y.iA y.iN y.iC, .slice y.tA y.tN y.tC, .slice y.fA y.fN y.fC] 26)) := ((Below.refl _ _).alloc (Nat.le_refl _) _).alloc (by simp) _
  have hn : ∀ (j : Nat) (v : Value), (#[.slice y.iA y.iN y.iC, .slice y.tA y.tN y.tC, .slice y.fA y.fN y.fC] : Array Value)[j]? = some v → ((w.alloc (.cells #[.slice x.iA x.iN x.iC, .slice x.tA x.tN x.tC, .slice x.fA x.fN x.fC] 26)).alloc (.cells #[.slice y.iA y.iN y.iC, .slice y.tA y.tN y.tC, .slice y.fA y.fN y.fC] 26)).cell? ⟨w.heap.size + 1, j, none⟩ = some v := by
    intro j v hv
    have h := cell_new (w.alloc (.cells #[.slice x.iA x.iN x.iC, .slice x.tA x.tN x.tC, .slice x.fA x.fN x.fC] 26)) #[.slice y.iA y.iN y.iC, .slice y.tA y.tN y.tC, .slice y.fA y.fN y.fC] 26 j (fr := (0, 0)) hv
    rwa [World.size_alloc] at h
  exact ⟨cell_alloc (cell_new w _ _ 0 rfl), cell_alloc (cell_new w _ _ 1 rfl), cell_alloc (cell_new w _ _ 2 rfl), hn 0 _ rfl, hn 1 _ rfl, hn 2 _ rfl, hx.below hb0, hy.below hb0⟩

/-- Two functions, and two instructions, as the call holds them, behind the tests of how long they are. -/
structure HeldF (w : World) (h : Nat) (x y : AFnc) : Prop where
  x2 : w.cell? ⟨h, 2, none⟩ = some (.slice x.A x.n x.c)
  y2 : w.cell? ⟨h + 1, 2, none⟩ = some (.slice y.A x.n y.c)
  hx : x.In w
  hy : y.In w
  hn : y.n = x.n
theorem HeldF.below {w w' : World} {h : Nat} {x y : AFnc} (k : HeldF w h x y) (hb : Below w.heap.size w w') : HeldF w' h x y :=
  ⟨cell_below hb k.x2, cell_below hb k.y2, k.hx.below hb, k.hy.below hb, k.hn⟩
theorem heldF_made (w : World) (x y : AFnc) (hx : x.In w) (hy : y.In w) (hn : y.n = x.n) (r1 r2 c1 c2 : Int) : HeldF ((w.alloc (.cells #[.int .i64 r1, .int .i64 c1, .slice x.A x.n x.c] 44)).alloc (.cells #[.int .i64 r2, .int .i64 c2, .slice y.A x.n y.c] 44)) w.heap.size x y := by
  have hb0 : Below w.heap.size w ((w.alloc (.cells #[.int .i64 r1, .int .i64 c1, .slice x.A x.n x.c] 44)).alloc (.cells #[.int .i64 r2, .int .i64 c2, .slice y.A x.n y.c] 44)) := ((Below.refl _ _).alloc (Nat.le_refl _) _).alloc (by simp) _
  have h := cell_new (w.alloc (.cells #[.int .i64 r1, .int .i64 c1, .slice x.A x.n x.c] 44)) #[.int .i64 r2, .int .i64 c2, .slice y.A x.n y.c] 44 2 (v := .slice y.A x.n y.c) (fr := (0, 0)) rfl
  rw [World.size_alloc] at h
  exact ⟨cell_alloc (cell_new w _ _ 2 rfl), h, hx.below hb0, hy.below hb0, hn⟩
structure HeldI (w : World) (h : Nat) (x y : AIns) : Prop where
  x2 : w.cell? ⟨h, 2, none⟩ = some (.slice x.A x.n x.c)
  y2 : w.cell? ⟨h + 1, 2, none⟩ = some (.slice y.A x.n y.c)
  hx : x.In w
  hy : y.In w
  hn : y.n = x.n
theorem HeldI.below {w w' : World} {h : Nat} {x y : AIns} (k : HeldI w h x y) (hb : Below w.heap.size w w') : HeldI w' h x y :=
  ⟨cell_below hb k.x2, cell_below hb k.y2, k.hx.below hb, k.hy.below hb, k.hn⟩
theorem heldI_made (w : World) (x y : AIns) (hx : x.In w) (hy : y.In w) (hn : y.n = x.n) (r1 r2 c1 c2 : Int) : HeldI ((w.alloc (.cells #[.int .i64 r1, .int .i64 c1, .slice x.A x.n x.c] 47)).alloc (.cells #[.int .i64 r2, .int .i64 c2, .slice y.A x.n y.c] 47)) w.heap.size x y := by
  have hb0 : Below w.heap.size w ((w.alloc (.cells #[.int .i64 r1, .int .i64 c1, .slice x.A x.n x.c] 47)).alloc (.cells #[.int .i64 r2, .int .i64 c2, .slice y.A x.n y.c] 47)) := ((Below.refl _ _).alloc (Nat.le_refl _) _).alloc (by simp) _
  have h := cell_new (w.alloc (.cells #[.int .i64 r1, .int .i64 c1, .slice x.A x.n x.c] 47)) #[.int .i64 r2, .int .i64 c2, .slice y.A x.n y.c] 47 2 (v := .slice y.A x.n y.c) (fr := (0, 0)) rfl
  rw [World.size_alloc] at h
  exact ⟨cell_alloc (cell_new w _ _ 2 rfl), h, hx.below hb0, hy.below hb0, hn⟩

set_option maxRecDepth 100000 in
theorem refSame_len (x y : AImg) (w : World) (hx : x.In w) (hy : y.In w) (hne : ¬ (x.iN = y.iN ∧ x.tN = y.tN ∧ x.fN = y.fN)) :
    Calls Try.prog 10 #[x.value, y.value] w fun e w' => e = .returned (.bool (sameImg x y)) ∧ Below w.heap.size w w' := by
  have hb0 : Below w.heap.size w ((w.alloc (.cells #[.slice x.iA x.iN x.iC, .slice x.tA x.tN x.tC, .slice x.fA x.fN x.fC] 26)).alloc (.cells #[.slice y.iA y.iN y.iC, .slice y.tA y.tN y.tC, .slice y.fA y.fN y.fC] 26)) := ((Below.refl _ _).alloc (Nat.le_refl _) _).alloc (by simp) _
  have e := sameImg_len (x := x) (y := y) (by rw [hx.ints.ints, hy.ints.ints, hx.texts.strN, hy.texts.strN, hx.funs.fncN, hy.funs.fncN]; exact hne)
  have E := Lib.hid e
  clear e hx hy
  by_cases h1 : x.iN = y.iN
  · by_cases h2 : x.tN = y.tN
    · have h3 : ¬ x.fN = y.fN := fun h3 => hne ⟨h1, h2, h3⟩
      have q3 : ¬ (x.fN : Int) = (y.fN : Int) := by omega
      clear hne h3
      go_enter Try.func10, Try.ntmps10
      unfold AImg.value
      rw [← h1, ← h2] at hb0 ⊢
      clear h1 h2
      go_wp2_with fail
      go_returns
      exact ⟨by rw [E.out]; rfl, hb0⟩
    · have q2 : ¬ (x.tN : Int) = (y.tN : Int) := by omega
      clear hne h2
      go_enter Try.func10, Try.ntmps10
      unfold AImg.value
      rw [← h1] at hb0 ⊢
      clear h1
      go_wp2_with fail
      go_returns
      exact ⟨by rw [E.out]; rfl, hb0⟩
  · have q1 : ¬ (x.iN : Int) = (y.iN : Int) := by omega
    clear hne h1
    go_enter Try.func10, Try.ntmps10
    unfold AImg.value
    go_wp2_with fail
    go_returns
    exact ⟨by rw [E.out]; rfl, hb0⟩

set_option maxRecDepth 100000 in
set_option maxHeartbeats 4000000 in
theorem refSame_any (x y : AImg) (w : World) (hx : x.In w) (hy : y.In w) :
    Calls Try.prog 10 #[x.value, y.value] w fun e w' => e = .returned (.bool (sameImg x y)) ∧ Below w.heap.size w w' := by
  by_cases hne : ¬ (x.iN = y.iN ∧ x.tN = y.tN ∧ x.fN = y.fN)
  · exact refSame_len x y w hx hy hne
  have hne := Decidable.not_not.1 hne
  have L1 : x.ints.length = x.iN := hx.ints.ints
  have L2 : x.texts.length = x.tN := hx.texts.strN
  have L3 : x.funs.length = x.fN := hx.funs.fncN
  have M1 : y.ints.length = x.iN := by rw [hne.1]; exact hy.ints.ints
  have M2 : y.texts.length = x.tN := by rw [hne.2.1]; exact hy.texts.strN
  have M3 : y.funs.length = x.fN := by rw [hne.2.2]; exact hy.funs.fncN
  have s1 := hx.isz
  have s2 := hx.tsz
  have s3 := hx.fsz
  have hb0 : Below w.heap.size w ((w.alloc (.cells #[.slice x.iA x.iN x.iC, .slice x.tA x.tN x.tC, .slice x.fA x.fN x.fC] 26)).alloc (.cells #[.slice y.iA y.iN y.iC, .slice y.tA y.tN y.tC, .slice y.fA y.fN y.fC] 26)) := ((Below.refl _ _).alloc (Nat.le_refl _) _).alloc (by simp) _
  have HD := held2_made w x y hx hy
  clear hx hy
  go_enter Try.func10, Try.ntmps10
  unfold AImg.value
  rw [← hne.1, ← hne.2.1, ← hne.2.2] at hb0 HD ⊢
  have HNE := Lib.hid hne
  have HB := Lib.hid hb0
  have HDH := Lib.hid HD
  clear hne hb0 HD
  go_wp2_with fail
  generalize ((w.alloc (.cells #[.slice x.iA x.iN x.iC, .slice x.tA x.tN x.tC, .slice x.fA x.fN x.fC] 26)).alloc (.cells #[.slice y.iA x.iN y.iC, .slice y.tA x.tN y.tC, .slice y.fA x.fN y.fC] 26)) = w1 at *
  go_loopw [5] (fun i wr => ∃ k : Nat, i = .int .i64 k ∧ k ≤ x.iN ∧ (∀ j (a : j < x.ints.length) (b : j < y.ints.length), j < k → x.ints[j] = y.ints[j]) ∧ Below w1.heap.size w1 wr) (fun i _ => x.iN - (intOf i).toNat)
  case atStart => exact ⟨0, rfl, by omega, by intro j _ _ h; omega, Below.refl _ _⟩
  case round =>
    obtain ⟨k, rfl, hk, he, hb⟩ := hrel
    have HE := Lib.hid he
    clear he
    have HK := HDH.out.below hb
    by_cases hlt : k < x.iN
    · obtain ⟨b, o, e, _, hc⟩ := HK.hx.ints.int (k := k) (by omega)
      obtain ⟨b', o', e', _, hc'⟩ := HK.hy.ints.int (k := k) (by omega)
      have h1 := hc k (by omega)
      have h2 := hc' k (by omega)
      have d1 := HK.x0
      have d2 := HK.y0
      rw [e] at d1
      rw [e'] at d2
      rw [← HNE.out.1] at d2
      have HKH := Lib.hid HK
      clear hc hc' HK e e'
      by_cases hq0 : x.ints[k]'(by omega) = y.ints[k]'(by omega)
      · have hq : ((x.ints[k]'(by omega) : Int) == y.ints[k]'(by omega)) = true := by simpa using hq0
        have HQ := Lib.hid hq0
        clear hq0
        go_wp2_with fail
        have i1 : (k : Int) < (x.iN : Int) := by omega
        go_quiet (fail)
        clear i1
        go_wp2_with fail
        go_roundw
        case rel => exact ⟨k + 1, by go_num, by omega, upto_succ HE.out (by omega) (by omega) HQ.out, below_drewN hb _⟩
        case measure => simp [intOf] <;> omega
      · have hq : ((x.ints[k]'(by omega) : Int) == y.ints[k]'(by omega)) = false := by simpa using hq0
        have HQ := Lib.hid hq0
        clear hq0
        go_wp2_with fail
        have i1 : (k : Int) < (x.iN : Int) := by omega
        go_quiet (fail)
        clear i1
        go_wp2_with fail
        go_returns
        exact ⟨by rw [sameImg_ints (by omega) (by omega) HQ.out]; rfl, below_then HB.out (below_drewN hb _)⟩
    · have d1 := HK.x0
      have HKH := Lib.hid HK
      clear HK
      go_wp2_with fail
      clear d1
      have H1 : RowKit.Hid (∀ j (a : j < x.ints.length) (b : j < y.ints.length), x.ints[j] = y.ints[j]) := Lib.hid fun j a b => HE.out j a b (by omega)
      clear HE
      have HKK := HKH
      clear HKH
      go_loopw [6] (fun i wr => ∃ k : Nat, i = .int .i64 k ∧ k ≤ x.tN ∧ (∀ j (a : j < x.texts.length) (b : j < y.texts.length), j < k → x.texts[j] = y.texts[j]) ∧ Below w1.heap.size w1 wr) (fun i _ => x.tN - (intOf i).toNat)
      case atStart => exact ⟨0, rfl, by omega, by intro j _ _ h; omega, hb⟩
      case round =>
        clear hb HKK
        obtain ⟨k2, rfl, hk2, he, hb⟩ := hrel
        have HE := Lib.hid he
        clear he
        have HK := HDH.out.below hb
        by_cases hlt2 : k2 < x.tN
        · obtain ⟨b, o, e, _, hc⟩ := HK.hx.texts.str (k := k2) (by omega)
          obtain ⟨b', o', e', _, hc'⟩ := HK.hy.texts.str (k := k2) (by omega)
          have h1 := hc k2 (by omega)
          have h2 := hc' k2 (by omega)
          have d1 := HK.x1
          have d2 := HK.y1
          rw [e] at d1
          rw [e'] at d2
          rw [← HNE.out.2.1] at d2
          have HKH := Lib.hid HK
          clear hc hc' HK e e'
          by_cases hq0 : x.texts[k2]'(by omega) = y.texts[k2]'(by omega)
          · have hq : ((bstr (x.texts[k2]'(by omega))).toList == (bstr (y.texts[k2]'(by omega))).toList) = true := by rw [beq_bstr]; simpa using hq0
            have HQ := Lib.hid hq0
            clear hq0
            go_wp2_with fail
            have i1 : (k2 : Int) < (x.tN : Int) := by omega
            go_quiet (fail)
            clear i1
            go_wp2_with fail
            go_roundw
            case rel => exact ⟨k2 + 1, by go_num, by omega, upto_succ HE.out (by omega) (by omega) HQ.out, below_drewN hb _⟩
            case measure => simp [intOf] <;> omega
          · have hq : ((bstr (x.texts[k2]'(by omega))).toList == (bstr (y.texts[k2]'(by omega))).toList) = false := by rw [beq_bstr]; simpa using hq0
            have HQ := Lib.hid hq0
            clear hq0
            go_wp2_with fail
            have i1 : (k2 : Int) < (x.tN : Int) := by omega
            go_quiet (fail)
            clear i1
            go_wp2_with fail
            go_returns
            exact ⟨by rw [sameImg_texts (by omega) (by omega) HQ.out]; rfl, below_then HB.out (below_drewN hb _)⟩
        · have d1 := HK.x1
          have HKH := Lib.hid HK
          clear HK
          go_wp2_with fail
          clear d1
          have H2 : RowKit.Hid (∀ j (a : j < x.texts.length) (b : j < y.texts.length), x.texts[j] = y.texts[j]) := Lib.hid fun j a b => HE.out j a b (by omega)
          clear HE HKH
          go_loopw [7] (fun i wr => ∃ k : Nat, i = .int .i64 k ∧ k ≤ x.fN ∧ (∀ j (a : j < x.funs.length) (b : j < y.funs.length), j < k → sameFnc x.funs[j] y.funs[j] = true) ∧ Below w1.heap.size w1 wr) (fun i _ => x.fN - (intOf i).toNat)
          case atStart => exact ⟨0, rfl, by omega, by intro j _ _ h; omega, hb⟩
          case round =>
            clear hb
            obtain ⟨k3, rfl, hk3, he, hb⟩ := hrel
            have HE := Lib.hid he
            clear he
            have HK := HDH.out.below hb
            by_cases hlt3 : k3 < x.fN
            · obtain ⟨b, o, e, _, hc⟩ := HK.hx.funs.fnc (k := k3) (by omega)
              obtain ⟨b', o', e', _, hc'⟩ := HK.hy.funs.fnc (k := k3) (by omega)
              obtain ⟨p0, p1, p2⟩ := hc k3 (by omega)
              obtain ⟨r0, r1, r2⟩ := hc' k3 (by omega)
              have d1 := HK.x2
              have d2 := HK.y2
              rw [e] at d1
              rw [e'] at d2
              rw [← HNE.out.2.2] at d2
              have fx := HK.hx.fall _ (List.getElem_mem (show k3 < x.funs.length by omega))
              have fy := HK.hy.fall _ (List.getElem_mem (show k3 < y.funs.length by omega))
              clear hc hc' HK e e'
              obtain ⟨xf, hxf⟩ : ∃ xf, x.funs[k3]'(by omega) = xf := ⟨_, rfl⟩
              obtain ⟨yf, hyf⟩ : ∃ yf, y.funs[k3]'(by omega) = yf := ⟨_, rfl⟩
              rw [hxf] at p0 p1 p2 fx
              rw [hyf] at r0 r1 r2 fy
              have HXF := Lib.hid hxf
              have HYF := Lib.hid hyf
              have HFX := Lib.hid fx
              have HFY := Lib.hid fy
              have cx := fx.rd.insN
              have cy := fy.rd.insN
              have cz := fx.sz
              clear hxf hyf fx fy
              have HFF : RowKit.Hid (sameFnc xf yf = false → sameImg x y = false) := Lib.hid fun h =>
                sameImg_funs (k := k3) (by omega) (by omega) (by
                  have e1 := HXF.out
                  have e2 := HYF.out
                  rw [e1, e2]
                  exact h)
              by_cases g1 : xf.regs = yf.regs
              · by_cases g2 : xf.caps = yf.caps
                · by_cases g3 : xf.n = yf.n
                  · rw [← g1] at r0
                    rw [← g2] at r1
                    rw [← g3] at r2
                    have HG := Lib.hid (And.intro g1 (And.intro g2 g3))
                    have dl : w.heap.size + 1 < wr.heap.size := World.block_lt_of_cell? wr _ d2
                    clear g1 g2 g3
                    go_wp2_with fail
                    have HF := Lib.hid (heldF_made wr xf yf HFX.out HFY.out HG.out.2.2.symm xf.regs xf.regs xf.caps xf.caps)
                    have hb3 : Below wr.heap.size wr ((wr.alloc (.cells #[.int .i64 xf.regs, .int .i64 xf.caps, .slice xf.A xf.n xf.c] 44)).alloc (.cells #[.int .i64 xf.regs, .int .i64 xf.caps, .slice yf.A xf.n yf.c] 44)) := ((Below.refl _ _).alloc (Nat.le_refl _) _).alloc (by simp) _
                    clear p0 p1 p2 r0 r1 r2 d1 d2
                    obtain ⟨wo, rfl⟩ : ∃ wo : World, wo = wr := ⟨_, rfl⟩
                    generalize ((wo.alloc (.cells #[.int .i64 xf.regs, .int .i64 xf.caps, .slice xf.A xf.n xf.c] 44)).alloc (.cells #[.int .i64 xf.regs, .int .i64 xf.caps, .slice yf.A xf.n yf.c] 44)) = w3 at *
                    have HB3 := Lib.hid (And.intro hb hb3)
                    clear hb hb3
                    go_loopw [10] (fun i wr => ∃ p : Nat, i = .int .i64 p ∧ p ≤ xf.n ∧ (∀ j (a : j < xf.code.length) (b : j < yf.code.length), j < p → sameIns xf.code[j] yf.code[j] = true) ∧ Below w3.heap.size w3 wr) (fun i _ => xf.n - (intOf i).toNat)
                    case atStart => exact ⟨0, rfl, by omega, by intro j _ _ h; omega, Below.refl _ _⟩
                    case round =>
                      obtain ⟨p, rfl, hp, he, hb⟩ := hrel
                      have HE2 := Lib.hid he
                      clear he
                      have HK := HF.out.below hb
                      have hcy : yf.code.length = xf.n := by have := HK.hn; omega
                      by_cases hltp : p < xf.n
                      · obtain ⟨b, o, e, _, hc⟩ := HK.hx.rd.ins (k := p) (by omega)
                        obtain ⟨b', o', e', _, hc'⟩ := HK.hy.rd.ins (k := p) (by omega)
                        obtain ⟨p0, p1, p2⟩ := hc p (by omega)
                        obtain ⟨r0, r1, r2⟩ := hc' p (by omega)
                        have d1 := HK.x2
                        have d2 := HK.y2
                        rw [e] at d1
                        rw [e'] at d2
                        have fx := HK.hx.all _ (List.getElem_mem (show p < xf.code.length by omega))
                        have fy := HK.hy.all _ (List.getElem_mem (show p < yf.code.length by omega))
                        clear hc hc' HK e e'
                        obtain ⟨xi, hxi⟩ : ∃ xi, xf.code[p]'(by omega) = xi := ⟨_, rfl⟩
                        obtain ⟨yi, hyi⟩ : ∃ yi, yf.code[p]'(by omega) = yi := ⟨_, rfl⟩
                        rw [hxi] at p0 p1 p2 fx
                        rw [hyi] at r0 r1 r2 fy
                        have HXI := Lib.hid hxi
                        have HYI := Lib.hid hyi
                        have HFXI := Lib.hid fx
                        have HFYI := Lib.hid fy
                        have cxi := fx.rd.ints
                        have cyi := fy.rd.ints
                        have czi := fx.sz
                        clear hxi hyi fx fy
                        have dl2 : wo.heap.size + 1 < wr.heap.size := World.block_lt_of_cell? wr _ d2
                        have HOUT : RowKit.Hid (∀ w', Below wr.heap.size wr w' → Below w.heap.size w w') := Lib.hid fun w' h => below_then HB.out (below_then HB3.out.1 (below_then HB3.out.2 (below_then hb h)))
                        have HFAIL : RowKit.Hid (sameIns xi yi = false → sameImg x y = false) := Lib.hid fun h =>
                          sameImg_funs (k := k3) (by omega) (by omega) (by
                            have e1 := HXF.out
                            have e2 := HYF.out
                            rw [e1, e2]
                            refine sameFnc_code (k := p) (by omega) (by omega) ?_
                            have e3 := HXI.out
                            have e4 := HYI.out
                            rw [e3, e4]
                            exact h)
                        by_cases g1 : xi.op = yi.op
                        · by_cases g2 : xi.a = yi.a
                          · by_cases g3 : xi.n = yi.n
                            · rw [← g1] at r0
                              rw [← g2] at r1
                              rw [← g3] at r2
                              have HGI := Lib.hid (And.intro g1 (And.intro g2 g3))
                              clear g1 g2 g3
                              go_wp2_with fail
                              have HFI := Lib.hid (heldI_made wr xi yi HFXI.out HFYI.out HGI.out.2.2.symm xi.op xi.op xi.a xi.a)
                              have hb4 : Below wr.heap.size wr ((wr.alloc (.cells #[.int .i64 xi.op, .int .i64 xi.a, .slice xi.A xi.n xi.c] 47)).alloc (.cells #[.int .i64 xi.op, .int .i64 xi.a, .slice yi.A xi.n yi.c] 47)) := ((Below.refl _ _).alloc (Nat.le_refl _) _).alloc (by simp) _
                              clear p0 p1 p2 r0 r1 r2 d1 d2
                              obtain ⟨wi, rfl⟩ : ∃ wi : World, wi = wr := ⟨_, rfl⟩
                              generalize ((wi.alloc (.cells #[.int .i64 xi.op, .int .i64 xi.a, .slice xi.A xi.n xi.c] 47)).alloc (.cells #[.int .i64 xi.op, .int .i64 xi.a, .slice yi.A xi.n yi.c] 47)) = w4 at *
                              have HB4 := Lib.hid (And.intro hb hb4)
                              clear hb hb4
                              go_loopw [13] (fun i wr => ∃ q : Nat, i = .int .i64 q ∧ q ≤ xi.n ∧ (∀ j (a : j < xi.l.length) (b : j < yi.l.length), j < q → xi.l[j] = yi.l[j]) ∧ Below w4.heap.size w4 wr) (fun i _ => xi.n - (intOf i).toNat)
                              case atStart => exact ⟨0, rfl, by omega, by intro j _ _ h; omega, Below.refl _ _⟩
                              case round =>
                                obtain ⟨q, rfl, hq, he, hb⟩ := hrel
                                have HE3 := Lib.hid he
                                clear he
                                have HK := HFI.out.below hb
                                have hcz : yi.l.length = xi.n := by have := HK.hn; omega
                                by_cases hltq : q < xi.n
                                · obtain ⟨b, o, e, _, hc⟩ := HK.hx.rd.int (k := q) (by omega)
                                  obtain ⟨b', o', e', _, hc'⟩ := HK.hy.rd.int (k := q) (by omega)
                                  have h1 := hc q (by omega)
                                  have h2 := hc' q (by omega)
                                  have d1 := HK.x2
                                  have d2 := HK.y2
                                  rw [e] at d1
                                  rw [e'] at d2
                                  have dl3 : wi.heap.size + 1 < wr.heap.size := World.block_lt_of_cell? wr _ d2
                                  clear hc hc' HK e e'
                                  by_cases hq0 : xi.l[q]'(by omega) = yi.l[q]'(by omega)
                                  · have hqq : ((xi.l[q]'(by omega) : Int) == yi.l[q]'(by omega)) = true := by simpa using hq0
                                    have HQ := Lib.hid hq0
                                    clear hq0
                                    go_wp2_with fail
                                    have i1 : (q : Int) < (xi.n : Int) := by omega
                                    go_quiet (fail)
                                    clear i1
                                    go_wp2_with fail
                                    go_roundw
                                    case rel => exact ⟨q + 1, by go_num, by omega, upto_succ HE3.out (by omega) (by omega) HQ.out, below_drewN hb _⟩
                                    case measure => simp [intOf] <;> omega
                                  · have hqq : ((xi.l[q]'(by omega) : Int) == yi.l[q]'(by omega)) = false := by simpa using hq0
                                    have HQ := Lib.hid hq0
                                    clear hq0
                                    go_wp2_with fail
                                    have i1 : (q : Int) < (xi.n : Int) := by omega
                                    go_quiet (fail)
                                    clear i1
                                    go_wp2_with fail
                                    go_returns
                                    exact ⟨by rw [HFAIL.out (sameIns_num (by omega) (by omega) HQ.out)]; rfl, HOUT.out _ (below_then HB4.out.2 (below_drewN hb _))⟩
                                · have d1 := HK.x2
                                  have HKH := Lib.hid HK
                                  clear HK
                                  have HS : RowKit.Hid (sameIns xi yi = true) := Lib.hid (sameIns_yes HGI.out.1 HGI.out.2.1 (by have := HGI.out.2.2; omega) (fun j a b => HE3.out j a b (by omega)))
                                  go_wp2_with fail
                                  go_roundw
                                  case rel =>
                                    refine ⟨p + 1, by go_num, by omega, ?_, HB4.out.1.trans ((below_then HB4.out.2 hb).mono HB4.out.1.size)⟩
                                    intro j a b hj
                                    rcases Nat.lt_succ_iff_lt_or_eq.1 hj with h' | h'
                                    · exact HE2.out j a b h'
                                    · subst h'
                                      have e3 := HXI.out
                                      have e4 := HYI.out
                                      rw [e3, e4]
                                      exact HS.out
                                  case measure => simp [intOf] <;> omega
                            · have g3' : ¬ (xi.n : Int) = (yi.n : Int) := by omega
                              rw [← g1] at r0
                              rw [← g2] at r1
                              have HS := Lib.hid (HFAIL.out (sameIns_head (fun h => g3 (by omega))))
                              clear g1 g2 g3
                              go_wp2_with fail
                              go_returns
                              exact ⟨by rw [HS.out]; rfl, HOUT.out _ (((Below.refl _ _).alloc (Nat.le_refl _) _).alloc (by simp) _)⟩
                          · rw [← g1] at r0
                            have HS := Lib.hid (HFAIL.out (sameIns_head (fun h => g2 h.2.1)))
                            clear g1
                            go_wp2_with fail
                            go_returns
                            exact ⟨by rw [HS.out]; rfl, HOUT.out _ (((Below.refl _ _).alloc (Nat.le_refl _) _).alloc (by simp) _)⟩
                        · have HS := Lib.hid (HFAIL.out (sameIns_head (fun h => g1 h.1)))
                          go_wp2_with fail
                          go_returns
                          exact ⟨by rw [HS.out]; rfl, HOUT.out _ (((Below.refl _ _).alloc (Nat.le_refl _) _).alloc (by simp) _)⟩
                      · have d1 := HK.x2
                        have HKH := Lib.hid HK
                        clear HK
                        have HS : RowKit.Hid (sameFnc xf yf = true) := Lib.hid (sameFnc_yes HG.out.1 HG.out.2.1 (by have := HG.out.2.2; omega) (fun j a b => HE2.out j a b (by omega)))
                        go_wp2_with fail
                        go_roundw
                        case rel =>
                          refine ⟨k3 + 1, by go_num, by omega, ?_, HB3.out.1.trans ((below_then HB3.out.2 hb).mono HB3.out.1.size)⟩
                          intro j a b hj
                          rcases Nat.lt_succ_iff_lt_or_eq.1 hj with h' | h'
                          · exact HE.out j a b h'
                          · subst h'
                            have e3 := HXF.out
                            have e4 := HYF.out
                            rw [e3, e4]
                            exact HS.out
                        case measure => simp [intOf] <;> omega
                  · have g3' : ¬ (xf.n : Int) = (yf.n : Int) := by omega
                    rw [← g1] at r0
                    rw [← g2] at r1
                    have HS := Lib.hid (HFF.out (sameFnc_head (fun h => g3 (by omega))))
                    have dl : w.heap.size + 1 < wr.heap.size := World.block_lt_of_cell? wr _ d2
                    clear g1 g2 g3
                    go_wp2_with fail
                    go_returns
                    exact ⟨by rw [HS.out]; rfl, below_then HB.out (below_then hb (((Below.refl _ _).alloc (Nat.le_refl _) _).alloc (by simp) _))⟩
                · rw [← g1] at r0
                  have HS := Lib.hid (HFF.out (sameFnc_head (fun h => g2 h.2.1)))
                  have dl : w.heap.size + 1 < wr.heap.size := World.block_lt_of_cell? wr _ d2
                  clear g1
                  go_wp2_with fail
                  go_returns
                  exact ⟨by rw [HS.out]; rfl, below_then HB.out (below_then hb (((Below.refl _ _).alloc (Nat.le_refl _) _).alloc (by simp) _))⟩
              · have HS := Lib.hid (HFF.out (sameFnc_head (fun h => g1 h.1)))
                have dl : w.heap.size + 1 < wr.heap.size := World.block_lt_of_cell? wr _ d2
                go_wp2_with fail
                go_returns
                exact ⟨by rw [HS.out]; rfl, below_then HB.out (below_then hb (((Below.refl _ _).alloc (Nat.le_refl _) _).alloc (by simp) _))⟩
            · have d1 := HK.x2
              have HKH := Lib.hid HK
              clear HK
              go_wp2_with fail
              go_returns
              refine ⟨?_, below_then HB.out hb⟩
              rw [sameImg_yes (by omega) (by omega) (by omega) H1.out H2.out (fun j a b => HE.out j a b (by omega))]
              rfl
end Go.Proofs.Ythdnnlelmelegaa
