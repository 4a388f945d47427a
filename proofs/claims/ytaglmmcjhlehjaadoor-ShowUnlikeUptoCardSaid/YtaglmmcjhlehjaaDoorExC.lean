/-
  An expression's own fields, by the code: tokens.
-/
import Derived.Test.YtaglmmcjhlehjaaDoorExB
import Derived.Lib.ConvBytes
namespace Go.Proofs.YtaglmmcjhlehjaaDoor
open Go.ChangeShapes Go.WideShapes Go.ChangeAt Go.RowKit Go.Sort
set_option linter.unusedVariables false
set_option linter.unusedSimpArgs false

theorem cut_len (A : Option Addr) (l : Str) (n cp : Nat) (hn : l.length = n) (w : World) (hL : Lay w) (hr : Rd w 1 A n (u8s l)) (hcap : n ≤ cp) (hm : n ≤ 4000) :
    Calls Tryd.prog 47 #[.slice A n cp] w fun e w' => CutRes (cutS l 0) w e w' := by
  subst hn
  exact cut_any A l cp w hL hr hcap hm
/- A text as bytes of new memory. -/
set_option maxRecDepth 100000 in
theorem conv_text (q : Str) (w : World) : ∃ c, q.length ≤ c ∧ (convert 9 36 (.string (bstr q))).run Tryd.prog w = .ok (.slice (some ⟨w.heap.size, 0, none⟩) q.length c) (Lib.bytesWorld w 5 (bstr q)) ∧ Rd (Lib.bytesWorld w 5 (bstr q)) 1 (some ⟨w.heap.size, 0, none⟩) q.length (u8s q) := by
  have h := Lib.run_convert_string_bytes (P := Tryd.prog) w 9 36 5 (bstr q) Tryd.underlying9 Tryd.underlying36 Tryd.underlying5
  have hz := bstr_size q
  refine ⟨grownCap w (bstr q).size 0 5, ?_, by rw [h, hz], ⟨by rw [u8s_length, Nat.mul_one], fun _ => ⟨_, rfl, fun j u hu => ?_⟩⟩⟩
  · have := grownCap_ge w (bstr q).size 0 5
    omega
  · rw [Addr.add_lit, Nat.zero_add]
    have hj : j < q.length := by
      have := (List.getElem?_eq_some_iff.1 hu).1
      rwa [u8s_length] at this
    rw [Lib.bytesWorld_cell w 5 (bstr q) j (by omega), bstr_data]
    rw [u8s_at q j hj] at hu
    injection hu with hu
    rw [← hu]
    simp [List.getD, hj]
theorem one_tok {w : World} {A : Option Addr} {t : Tok} (h : Rd w 4 A 1 (toks [t])) : ∃ b o, A = some ⟨b, o, none⟩ ∧ b < w.heap.size ∧ w.cell? ⟨b, o, none⟩ = some (.int .i64 t.kind) ∧ w.cell? ⟨b, o + 3, none⟩ = some (.string (bstr t.s)) := by
  obtain ⟨b, o, rfl, hb, hc⟩ := h.base (by simp [toks, Tok.cells])
  exact ⟨b, o, rfl, hb, hc 0 _ rfl, hc 3 _ rfl⟩

theorem tokB_long {s : Str} {k : Int} (h : 20 < s.length) : tokB s k = false := by unfold tokB; rw [if_pos h]
theorem tokB_short {s : Str} {k : Int} (h : ¬ 20 < s.length) : tokB s k = tokR s k (cutS s 0) := by unfold tokB; rw [if_neg h]

set_option maxRecDepth 100000 in
set_option maxHeartbeats 1000000 in
theorem tok_any (s : Str) (k : Int) (w : World) (hL : Lay w) (hs : s.length ≤ 9223372036854775807) : Calls Tryd.prog 37 #[.string (bstr s), .int .i64 k] w fun e w' => e = .returned (.bool (tokB s k)) ∧ Below w.heap.size w w' := by
  have hz : (bstr s).size = s.length := bstr_size s
  by_cases h20 : 20 < s.length
  · rw [tokB_long h20]
    have hi : (20 : Int) < (s.length : Int) := by omega
    clear hL h20 hs
    go_enter Tryd.func37, Tryd.ntmps37
    go_wp2_with fail
    go_returns
    exact ⟨rfl, Below.refl _ _⟩
  have hi : ¬ (20 : Int) < (s.length : Int) := by omega
  rw [tokB_short h20]
  obtain ⟨c, hc, hcv, hrd⟩ := conv_text s w
  have hbq := Joins.below_bytesWorld w.heap.size w 5 (bstr s) (Nat.le_refl _)
  have HC := Lib.hid (cut_len (some ⟨w.heap.size, 0, none⟩) s s.length c rfl (Lib.bytesWorld w 5 (bstr s)) (hL.below hbq) hrd hc (by omega))
  have HB := Lib.hid hbq
  clear hrd hbq hc hL h20 hs
  obtain ⟨r, hr⟩ : ∃ r, cutS s 0 = r := ⟨_, rfl⟩
  rw [hr] at HC ⊢
  clear hr
  go_enter Tryd.func37, Tryd.ntmps37
  go_wp2_with fail
  clear hcv
  generalize Lib.bytesWorld w 5 (bstr s) = w1 at *
  refine HC.out.mono ?_
  rintro e w2 hres
  unfold CutRes at hres
  cases r with
  | bad p =>
    obtain ⟨v, rfl, hv, hb2⟩ := hres
    obtain ⟨g, _, rfl, _⟩ := hv
    have H2 := Lib.hid (below_then HB.out hb2)
    clear hb2 HC
    go_wp2_with fail
    go_returns
    exact ⟨rfl, H2.out⟩
  | ok ts =>
    obtain ⟨v, rfl, hown, _, hb2⟩ := hres
    have H2 := Lib.hid (below_then HB.out hb2)
    clear hb2 HC
    obtain ⟨A, cc, rfl, _⟩ := own_cap hown
    rcases ts with _ | ⟨t, _ | ⟨t2, r⟩⟩
    · skip
      clear hown
      go_wp2_with fail
      go_returns
      exact ⟨rfl, H2.out⟩
    · skip
      obtain ⟨b, o, rfl, _, c0, c3⟩ := one_tok (Rd.of_own hown)
      clear hown
      by_cases hk : t.kind = k
      · have q1 : (t.kind == k) = true := by simpa using hk
        by_cases hts : t.s = s
        · have q2 : ((bstr t.s).toList == (bstr s).toList) = true := by rw [beq_bstr]; simpa using hts
          have HA := Lib.hid (show (decide (t.kind = k) && decide (t.s = s)) = true by simp [hk, hts])
          clear hk hts
          go_wp2_with fail
          go_returns
          exact ⟨by show _ = Ending.returned (.bool (decide (t.kind = k) && decide (t.s = s))); rw [HA.out]; rfl, H2.out⟩
        · have q2 : ((bstr t.s).toList == (bstr s).toList) = false := by rw [beq_bstr]; simpa using hts
          have HA := Lib.hid (show (decide (t.kind = k) && decide (t.s = s)) = false by simp [hts])
          clear hk hts
          go_wp2_with fail
          go_returns
          exact ⟨by show _ = Ending.returned (.bool (decide (t.kind = k) && decide (t.s = s))); rw [HA.out]; rfl, H2.out⟩
      · have q1 : (t.kind == k) = false := by simpa using hk
        have HA := Lib.hid (show (decide (t.kind = k) && decide (t.s = s)) = false by simp [hk])
        clear hk
        go_wp2_with fail
        go_returns
        exact ⟨by show _ = Ending.returned (.bool (decide (t.kind = k) && decide (t.s = s))); rw [HA.out]; rfl, H2.out⟩
    · skip
      have q1 : ¬ ((r.length : Int) + 1 + 1 = 1) := by omega
      have q2 : (((t :: t2 :: r).length : Nat) : Int) ≠ 1 := by simp; omega
      clear hown
      go_wp2_with fail
      go_returns
      exact ⟨rfl, H2.out⟩
end Go.Proofs.YtaglmmcjhlehjaaDoor
