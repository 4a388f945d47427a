/-
  Whether an image is small, by the document's answer.
-/
import Derived.Test.YthdnnlelmelegaaCodeA
namespace Go.Proofs.Ythdnnlelmelegaa
open Go.ChangeShapes Go.WideShapes Go.ChangeAt Go.RowKit
set_option linter.unusedVariables false

/-- How many instructions the first functions have. -/
def csum (l : List AFnc) (k : Nat) : Nat := ((l.take k).map AFnc.n).sum
theorem csum_succ (l : List AFnc) (k : Nat) (h : k < l.length) : csum l (k + 1) = csum l k + l[k].n := by
  unfold csum
  rw [List.take_succ_eq_append_getElem h, List.map_append, List.sum_append]
  simp only [List.map_cons, List.map_nil, List.sum_cons, List.sum_nil, Nat.add_zero]
theorem csum_zero (l : List AFnc) : csum l 0 = 0 := by simp [csum]
structure FewP (m : AImg) : Prop where
  all : m.iN + m.tN + m.fN + csum m.funs m.fN ≤ 500
  texts : ∀ j (h : j < m.texts.length), m.texts[j].length ≤ 3000
  nums : ∀ j (h : j < m.funs.length) p (h2 : p < m.funs[j].code.length), m.funs[j].code[p].n ≤ 50

/-- It tells a Bool; if it is true the image is small. -/
def FewRes (m : AImg) (e : Ending) : Prop := ∃ r : Bool, e = .returned (.bool r) ∧ (r = true → FewP m)

set_option maxHeartbeats 2000000 in
theorem few_any (m : AImg) (w : World) (h : m.In w) : Calls Try.prog 6 #[m.value] w fun e w' => FewRes m e ∧ Below w.heap.size w w' := by
  have hti := h.texts.strN
  have hfi := h.funs.fncN
  have s1 := h.isz
  have s2 := h.tsz
  have s3 := h.fsz
  have HI := Lib.hid h
  clear h
  go_enter Try.func6, Try.ntmps6
  unfold AImg.value
  go_wp2_with fail
  have hb1 : Below w.heap.size w (w.alloc (.cells #[.slice m.iA m.iN m.iC, .slice m.tA m.tN m.tC, .slice m.fA m.fN m.fC] 26)) := (Below.refl _ _).alloc (Nat.le_refl _) _
  have c0 : (w.alloc (.cells #[.slice m.iA m.iN m.iC, .slice m.tA m.tN m.tC, .slice m.fA m.fN m.fC] 26)).cell? ⟨w.heap.size, 0, none⟩ = some (.slice m.iA m.iN m.iC) := cell_new w _ _ 0 rfl
  have c1 : (w.alloc (.cells #[.slice m.iA m.iN m.iC, .slice m.tA m.tN m.tC, .slice m.fA m.fN m.fC] 26)).cell? ⟨w.heap.size, 1, none⟩ = some (.slice m.tA m.tN m.tC) := cell_new w _ _ 1 rfl
  have c2 : (w.alloc (.cells #[.slice m.iA m.iN m.iC, .slice m.tA m.tN m.tC, .slice m.fA m.fN m.fC] 26)).cell? ⟨w.heap.size, 2, none⟩ = some (.slice m.fA m.fN m.fC) := cell_new w _ _ 2 rfl
  have HI := Lib.hid (HI.out.below hb1)
  generalize (w.alloc (.cells #[.slice m.iA m.iN m.iC, .slice m.tA m.tN m.tC, .slice m.fA m.fN m.fC] 26)) = w1 at *
  go_loopw [4] (fun i wr => ∃ k : Nat, i = .int .i64 k ∧ k ≤ m.tN ∧ (∀ j (h : j < m.texts.length), j < k → m.texts[j].length ≤ 3000) ∧ Below w1.heap.size w1 wr) (fun i _ => m.tN - (intOf i).toNat)
  case atStart => exact ⟨0, rfl, by omega, by intro j _ h; omega, Below.refl _ _⟩
  case round =>
    obtain ⟨k, rfl, hk, ht, hb⟩ := hrel
    have d1 := cell_below hb c1
    have d2 := cell_below hb c2
    by_cases hlt : k < m.tN
    · obtain ⟨b, o, e, _, hc⟩ := (HI.out.texts.below hb).str (k := k) (by omega)
      have hc1 := hc k (by omega)
      rw [e] at d1
      have hsz := bstr_size (m.texts[k]'(by omega))
      clear hc
      by_cases h3 : (m.texts[k]'(by omega)).length ≤ 3000
      · rw [← hsz] at h3
        have HZ := Lib.hid hsz
        clear hsz
        go_wp2_with fail
        go_roundw
        case rel => exact ⟨k + 1, by go_num, by omega, by intro j hj hjk; rcases Nat.lt_succ_iff_lt_or_eq.1 hjk with h | h; exact ht j hj h; subst h; rw [← HZ.out]; exact h3, hb⟩
        case measure => simp [intOf] <;> omega
      · rw [← hsz] at h3
        clear hsz
        go_wp2_with fail
        go_returns
        exact ⟨⟨false, rfl, (fun h => by cases h)⟩, below_then hb1 hb⟩
    · have htx : ∀ j (h : j < m.texts.length), m.texts[j].length ≤ 3000 := fun j hj => ht j hj (by omega)
      have HT := Lib.hid htx
      clear htx ht
      go_wp2_with fail
      go_loopw [3, 5] (fun z i wr => ∃ q k : Nat, z = .int .i64 q ∧ i = .int .i64 k ∧ k ≤ m.fN ∧ q = m.iN + m.tN + m.fN + csum m.funs k ∧ q ≤ 600000000000000 ∧ (q ≤ 500 → ∀ j (h : j < m.funs.length), j < k → ∀ p (h2 : p < m.funs[j].code.length), m.funs[j].code[p].n ≤ 50) ∧ Below w1.heap.size w1 wr) (fun _ i _ => m.fN - (intOf i).toNat)
      case atStart => exact ⟨m.iN + m.tN + m.fN, 0, by go_num, rfl, by omega, by rw [csum_zero]; rfl, by omega, by intro _ j _ h; omega, hb⟩
      case round =>
        clear hb d2 d1
        obtain ⟨q, k2, rfl, rfl, hk2, hq, hqb, hn, hb⟩ := hrel
        have d2 := cell_below hb c2
        have HQ := Lib.hid hq
        have HN := Lib.hid hn
        clear hq hn
        by_cases hlt2 : k2 < m.fN
        · by_cases hq5 : q ≤ 500
          · obtain ⟨b, o, e, _, hc⟩ := (HI.out.funs.below hb).fnc (k := k2) (by omega)
            have hc2 := (hc k2 (by omega)).2.2
            rw [e] at d2
            have hfin := (HI.out.fall m.funs[k2] (List.getElem_mem _)).below hb
            have hfz := hfin.sz
            have hcs := csum_succ m.funs k2 (by omega)
            have HC := Lib.hid hcs
            have HFI := Lib.hid hfin
            clear hc hcs hfin
            go_wp2_with fail
            have hbo := hb
            have d2o := cell_below hb c2
            clear d2
            go_loopw [6] (fun i wr2 => ∃ p : Nat, i = .int .i64 p ∧ p ≤ m.funs[k2].n ∧ (∀ x (h : x < m.funs[k2].code.length), x < p → m.funs[k2].code[x].n ≤ 50) ∧ Below w1.heap.size w1 wr2) (fun i _ => m.funs[k2].n - (intOf i).toNat)
            case atStart => exact ⟨0, rfl, by omega, by intro x _ h; omega, hb⟩
            case round =>
              clear hc2 hb hbo d2o
              obtain ⟨p, rfl, hp, hx, hb⟩ := hrel
              have d2 := cell_below hb c2
              obtain ⟨b', o', e', _, hc⟩ := (HI.out.funs.below hb).fnc (k := k2) (by omega)
              rw [e] at e'
              injection e' with e'
              injection e' with e1 e2
              subst e1
              subst e2
              have hc2 := (hc k2 (by omega)).2.2
              rw [e] at d2
              have hcl := HFI.out.rd.insN
              have hinn := ((HI.out.fall m.funs[k2] (List.getElem_mem _)).below hb).rd
              clear hc
              by_cases hq2 : q + m.funs[k2].n ≤ 500
              · by_cases hp2 : p < m.funs[k2].n
                · obtain ⟨b3, o3, e3, _, hc3⟩ := hinn.ins (k := p) (by omega)
                  have hc4 := (hc3 p (by omega)).2.2
                  rw [e3] at hc2
                  clear hc3 hinn
                  by_cases h50 : (m.funs[k2].code[p]'(by omega)).n ≤ 50
                  · go_wp2_with fail
                    go_roundw
                    case rel => exact ⟨p + 1, by go_num, by omega, by intro j hj hjk; rcases Nat.lt_succ_iff_lt_or_eq.1 hjk with h | h; exact hx j hj h; subst h; exact h50, hb⟩
                    case measure => simp [intOf] <;> omega
                  · go_wp2_with fail
                    go_returns
                    exact ⟨⟨false, rfl, (fun h => by cases h)⟩, below_then hb1 hb⟩
                · clear hinn
                  go_wp2_with fail
                  go_roundw
                  case rel => exact ⟨q + m.funs[k2].n, k2 + 1, by go_num, by go_num, by omega, by rw [HC.out]; have := HQ.out; omega, by omega, by
                    intro _ j hj hjk x hx2
                    rcases Nat.lt_succ_iff_lt_or_eq.1 hjk with h | h
                    · exact HN.out hq5 j hj h x hx2
                    · subst h; exact hx x hx2 (by omega), hb⟩
                  case measure => simp [intOf] <;> omega
              · clear hinn
                by_cases hp2 : p < m.funs[k2].n
                · go_wp2_with fail
                  go_roundw
                  case rel => exact ⟨q + m.funs[k2].n, k2 + 1, by go_num, by go_num, by omega, by rw [HC.out]; have := HQ.out; omega, by omega, by intro h; omega, hb⟩
                  case measure => simp [intOf] <;> omega
                · go_wp2_with fail
                  go_roundw
                  case rel => exact ⟨q + m.funs[k2].n, k2 + 1, by go_num, by go_num, by omega, by rw [HC.out]; have := HQ.out; omega, by omega, by intro h; omega, hb⟩
                  case measure => simp [intOf] <;> omega
          · go_wp2_with fail
            go_returns
            exact ⟨⟨_, rfl, (fun h => absurd (of_decide_eq_true h) (by omega))⟩, below_then hb1 hb⟩
        · obtain rfl : k2 = m.fN := by omega
          by_cases hq5 : q ≤ 500
          · go_wp2_with fail
            go_returns
            exact ⟨⟨_, rfl, fun _ => ⟨by have := HQ.out; omega, HT.out, fun j hj p hp => HN.out hq5 j hj (by omega) p hp⟩⟩, below_then hb1 hb⟩
          · go_wp2_with fail
            go_returns
            exact ⟨⟨_, rfl, (fun h => absurd (of_decide_eq_true h) (by omega))⟩, below_then hb1 hb⟩
end Go.Proofs.Ythdnnlelmelegaa
