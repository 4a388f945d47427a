/-
  What is a function of its own; how many there are; whether one has no name: by the code.
-/
import Derived.Test.YtpnihimoekkepaaCoN
namespace Go.Proofs.Ytpnihimoekkepaa
open Go.ChangeShapes Go.WideShapes Go.ChangeAt Go.RowKit Go.Sort
set_option linter.unusedVariables false
set_option linter.unusedSimpArgs false

theorem isFunction_any (d : ExD) (b o : Nat) (w : World) (h : d.At w b o) : Calls Try.prog 30 #[.pointer (some ⟨b, o, none⟩)] w fun e w' => e = .returned (.bool (decide (d.kind = 4 ∨ d.kind = 7))) ∧ w' = w := by
  obtain ⟨c0, _, _, _, _, _⟩ := h
  by_cases h4 : d.kind = 4
  · have q4 : (d.kind == 4) = true := by simpa using h4
    go_enter Try.func30, Try.ntmps30
    go_wp2_with fail
    go_returns
    exact ⟨by rw [decide_eq_true (Or.inl h4)]; rfl, rfl⟩
  · have q4 : (d.kind == 4) = false := by simpa using h4
    by_cases h7 : d.kind = 7
    · have q7 : (d.kind == 7) = true := by simpa using h7
      go_enter Try.func30, Try.ntmps30
      go_wp2_with fail
      go_returns
      exact ⟨by rw [decide_eq_true (Or.inr h7)]; rfl, rfl⟩
    · have q7 : (d.kind == 7) = false := by simpa using h7
      go_enter Try.func30, Try.ntmps30
      go_wp2_with fail
      go_returns
      exact ⟨by rw [decide_eq_false (by rintro (h | h); exact h4 h; exact h7 h)]; rfl, rfl⟩

theorem str_empty {s : Str} (hs : s ≠ []) : (bstr s).toList.isEmpty = false := by
  rw [bstr_toList]; cases s with
  | nil => exact absurd rfl hs
  | cons a r => rfl
theorem str_nil : (bstr []).toList.isEmpty = true := by rw [bstr_toList]; rfl
theorem cntL_take1 (l : List Ex) (k : Nat) : cntL (l.take k) ≤ cntL l := by
  induction l generalizing k with
  | nil => simp [cntL]
  | cons y l ih =>
    cases k with
    | zero => simp [cntL]
    | succ k => simp only [List.take_succ_cons, cntL]; have := ih k; omega
mutual
def Ex.nlB : Ex → Bool
  | .mk d l => (decide (d.kind = 7) && decide (d.s = [])) || nlL l
def nlL : List Ex → Bool
  | [] => false
  | x :: l => x.nlB || nlL l
end
theorem nlL_app : ∀ (a b : List Ex), nlL (a ++ b) = (nlL a || nlL b)
  | [], b => by simp [nlL]
  | x :: a, b => by simp only [List.cons_append, nlL, nlL_app a b, Bool.or_assoc]
theorem nlL_take {l : List Ex} {k : Nat} (h : nlL (l.take k) = true) : nlL l = true := by
  have := nlL_app (l.take k) (l.drop k)
  rw [List.take_append_drop, h] at this
  exact this

set_option maxRecDepth 100000 in
set_option maxHeartbeats 1000000 in
theorem hasNameless_any (w0 : World) (t : Ex) (hI : t.In w0) : ∀ (b o : Nat) (W : World), t.d.At w0 b o → Below w0.heap.size w0 W →
    Calls Try.prog 16 #[.pointer (some ⟨b, o, none⟩)] W fun e w' => e = .returned (.bool t.nlB) ∧ Below W.heap.size W w' := by
  induction hI with
  | mk d l nam par cap sub ih =>
  intro b o W hAt hb
  have hI : (Ex.mk d l).In w0 := .mk d l nam par cap sub
  have HE := Lib.hid (fun V (h : Below w0.heap.size w0 V) => (show d.At w0 b o from hAt).lower h)
  have HB := Lib.hid hb
  have HI := Lib.hid hI
  have HX := Lib.hid ih
  have HL := Lib.hid (show l.length = d.pn from hI.len)
  have HCP := Lib.hid cap
  obtain ⟨c0, c1, c2, c3, c4, c5⟩ := HE.out _ hb
  clear nam par cap sub ih hAt hb hI
  have key : ∀ (x : Bool), (decide (d.kind = 7) && decide (d.s = [])) = x → (x = true ∧ d.kind = 7 ∧ d.s = []) ∨ (x = false ∧ d.kind = 7 ∧ d.s ≠ []) ∨ (x = false ∧ d.kind ≠ 7) := by
    intro x hx
    by_cases h1 : d.kind = 7
    · by_cases h2 : d.s = []
      · left; rw [decide_eq_true h1, decide_eq_true h2] at hx; exact ⟨hx.symm, h1, h2⟩
      · right; left; rw [decide_eq_true h1, decide_eq_false h2] at hx; exact ⟨hx.symm, h1, h2⟩
    · right; right; rw [decide_eq_false h1] at hx; exact ⟨hx.symm, h1⟩
  obtain ⟨x, hx⟩ : ∃ x, (decide (d.kind = 7) && decide (d.s = [])) = x := ⟨_, rfl⟩
  have HN : RowKit.Hid ((Ex.mk d l).nlB = (x || nlL l)) := Lib.hid (by unfold Ex.nlB; rw [hx])
  rw [HN.out]
  rcases key x hx with ⟨rfl, h1, h2⟩ | h3
  · have q7 : (d.kind == 7) = true := by simpa using h1
    have qs : (bstr d.s).toList.isEmpty = true := by rw [h2]; exact str_nil
    clear key hx h1 h2
    go_enter Try.func16, Try.ntmps16
    go_wp2_with fail
    go_returns
    exact ⟨rfl, Below.refl _ _⟩
  · obtain rfl : x = false := by rcases h3 with h | h; exact h.1; exact h.1
    have h4 : ((d.kind == 7) = true ∧ (bstr d.s).toList.isEmpty = false) ∨ (d.kind == 7) = false := by
      rcases h3 with ⟨_, h1, h2⟩ | ⟨_, h1⟩
      · left
        exact ⟨by simpa using h1, str_empty h2⟩
      · right; simpa using h1
    clear key hx h3
    rw [Bool.false_or]
    rcases h4 with ⟨q7, qs⟩ | q7
    all_goals
      go_enter Try.func16, Try.ntmps16
      go_wp2_with fail
      clear c0 c1 c2 c3 c4 c5
      go_loopw [21] (fun i wr => ∃ k : Nat, i = .int .i64 k ∧ k ≤ d.pn ∧ nlL (l.take k) = false ∧ Below W.heap.size W wr) (fun i _ => d.pn - (intOf i).toNat)
      case atStart => exact ⟨0, rfl, Nat.zero_le _, rfl, Below.refl _ _⟩
      case round =>
        obtain ⟨k, rfl, hk, hn, hbr⟩ := hrel
        have HR := Lib.hid (And.intro hn hbr)
        clear hn hbr
        by_cases hlt : k < d.pn
        · have hkl : k < l.length := by rw [HL.out]; exact hlt
          obtain ⟨pb, po, hpA, hAtP⟩ := HI.out.part (k := k) hkl
          have hpA' : d.pA = some ⟨pb, po, none⟩ := hpA
          have c5 := (HE.out _ (below_then HB.out HR.out.2)).c5
          rw [hpA'] at c5
          have HM := Lib.hid (HX.out l[k] (List.getElem_mem hkl) pb (po + k * 6) wr (hAtP k hkl) (below_then HB.out HR.out.2))
          have HTK := Lib.hid (show l.take (k + 1) = l.take k ++ [l[k]] from List.take_succ_eq_append_getElem hkl)
          obtain ⟨y, hy⟩ : ∃ y, l[k] = y := ⟨_, rfl⟩
          rw [hy] at HM HTK
          obtain ⟨u, hu⟩ : ∃ u, y.nlB = u := ⟨_, rfl⟩
          rw [hu] at HM
          have HTL := Lib.hid (show nlL (l.take (k + 1)) = u by rw [HTK.out, nlL_app, HR.out.1, Bool.false_or]; simp only [nlL]; rw [hu, Bool.or_false])
          have hki : (k : Int) < (d.pn : Int) := by omega
          have hk0 : (0 : Int) ≤ (k : Int) := by omega
          have hk4 : (k : Int) ≤ 4000000 := by have := HCP.out.2.1.2.2; omega
          clear hpA hpA' hAtP hkl hy hu
          go_wp2_with fail
          refine HM.out.mono ?_
          rintro e w4 ⟨rfl, hb4⟩
          have H4 := Lib.hid (below_then HR.out.2 hb4)
          clear hb4 HM
          cases u with
          | true =>
            go_wp2_with fail
            go_returns
            exact ⟨by rw [nlL_take HTL.out]; rfl, H4.out⟩
          | false =>
            go_wp2_with fail
            go_roundw
            case rel => exact ⟨k + 1, by go_num, hlt, HTL.out, H4.out⟩
            case measure => simp [intOf] <;> omega
        · have hki : ¬ (k : Int) < (d.pn : Int) := by omega
          have hmm : l.take k = l := List.take_of_length_le (by rw [HL.out]; omega)
          go_wp2_with fail
          go_returns
          exact ⟨by rw [← HR.out.1, hmm]; rfl, HR.out.2⟩

set_option maxRecDepth 100000 in
set_option maxHeartbeats 1000000 in
theorem functions_any (w0 : World) (t : Ex) (hI : t.In w0) : t.nodes ≤ 4000000 → ∀ (b o : Nat) (W : World), t.d.At w0 b o → Below w0.heap.size w0 W →
    Calls Try.prog 17 #[.pointer (some ⟨b, o, none⟩)] W fun e w' => e = .returned (.int .i64 t.cnt) ∧ Below W.heap.size W w' := by
  induction hI with
  | mk d l nam par cap sub ih =>
  intro hnd b o W hAt hb
  have hI : (Ex.mk d l).In w0 := .mk d l nam par cap sub
  have HE := Lib.hid (fun V (h : Below w0.heap.size w0 V) => (show d.At w0 b o from hAt).lower h)
  have HB := Lib.hid hb
  have HI := Lib.hid hI
  have HX := Lib.hid ih
  have HL := Lib.hid (show l.length = d.pn from hI.len)
  have HCP := Lib.hid cap
  have HND := Lib.hid (show d.f + cntL l ≤ 4000000 ∧ enodesL l ≤ 4000000 by
    have h1 := cnt_nodes (.mk d l)
    unfold Ex.cnt at h1
    unfold Ex.nodes at h1 hnd
    omega)
  have HF := Lib.hid (isFunction_any d b o W (HE.out _ hb))
  obtain ⟨f, hf⟩ : ∃ f, decide (d.kind = 4 ∨ d.kind = 7) = f := ⟨_, rfl⟩
  rw [hf] at HF
  have HFF := Lib.hid (show d.f = (if f = true then 1 else 0) by
    unfold ExD.f
    by_cases h : d.kind = 4 ∨ d.kind = 7
    · rw [if_pos h, if_pos (by rw [← hf]; exact decide_eq_true h)]
    · rw [if_neg h, if_neg (by rw [← hf]; simpa using h)])
  have c5 := (HE.out _ hb).c5
  clear nam par cap sub ih hAt hb hI hnd hf
  show Calls Try.prog 17 #[.pointer (some ⟨b, o, none⟩)] W fun e w' => e = .returned (.int .i64 ((d.f + cntL l : Nat) : Int)) ∧ Below W.heap.size W w'
  go_enter Try.func17, Try.ntmps17
  go_wp2_with fail
  refine HF.out.mono ?_
  rintro e w2 ⟨rfl, hw2⟩
  rw [hw2]
  clear hw2 w2 HF
  cases f
  all_goals
    go_wp2_with fail
    clear c5
    go_loopw [3, 12] (fun v i wr => ∃ k : Nat, v = .int .i64 ((d.f + cntL (l.take k) : Nat) : Int) ∧ i = .int .i64 k ∧ k ≤ d.pn ∧ Below W.heap.size W wr) (fun _ i _ => d.pn - (intOf i).toNat)
    case atStart => exact ⟨0, by rw [HFF.out]; rfl, rfl, Nat.zero_le _, Below.refl _ _⟩
    case round =>
      obtain ⟨k, rfl, rfl, hk, hbr⟩ := hrel
      have HR := Lib.hid hbr
      by_cases hlt : k < d.pn
      · have hkl : k < l.length := by rw [HL.out]; exact hlt
        obtain ⟨pb, po, hpA, hAtP⟩ := HI.out.part (k := k) hkl
        have hpA' : d.pA = some ⟨pb, po, none⟩ := hpA
        have c5 := (HE.out _ (below_then HB.out hbr)).c5
        rw [hpA'] at c5
        have HM := Lib.hid (HX.out l[k] (List.getElem_mem hkl) (by have := enodesL_mem l l[k] (List.getElem_mem hkl); have := HND.out.2; omega) pb (po + k * 6) wr (hAtP k hkl) (below_then HB.out hbr))
        have HS := Lib.hid (show cntL (l.take (k + 1)) = cntL (l.take k) + (l[k]).cnt by rw [List.take_succ_eq_append_getElem hkl, cntL_snoc])
        have HS9 := Lib.hid (cntL_take1 l (k + 1))
        obtain ⟨m, hm⟩ : ∃ m, (l[k]).cnt = m := ⟨_, rfl⟩
        rw [hm] at HM HS
        obtain ⟨a, ha⟩ : ∃ a, d.f + cntL (l.take k) = a := ⟨_, rfl⟩
        have HA := Lib.hid ha
        rw [ha]
        have hki : (k : Int) < (d.pn : Int) := by omega
        have hk0 : (0 : Int) ≤ (k : Int) := by omega
        have hk4 : (k : Int) ≤ 4000000 := by have := HCP.out.2.1.2.2; omega
        have ha4 : (a : Int) + (m : Int) ≤ 4000000 := by have h1 := HS.out; have h2 := HS9.out; have h3 := HND.out.1; omega
        clear hpA hpA' hAtP hkl hm ha hbr
        go_wp2_with fail
        refine HM.out.mono ?_
        rintro e w4 ⟨rfl, hb4⟩
        have H4 := Lib.hid (below_then HR.out hb4)
        clear hb4 HM
        go_wp2_with fail
        go_roundw
        case rel => exact ⟨k + 1, by rw [HS.out, ← Nat.add_assoc, HA.out]; go_num, by go_num, hlt, H4.out⟩
        case measure => simp [intOf] <;> omega
      · have hki : ¬ (k : Int) < (d.pn : Int) := by omega
        have hmm : l.take k = l := List.take_of_length_le (by rw [HL.out]; omega)
        rw [hmm]
        go_wp2_with fail
        go_returns
        exact ⟨rfl, HR.out⟩
end Go.Proofs.Ytpnihimoekkepaa
