/-
  The document's sets: one put in where it stands; the set of a list.
-/
import Derived.Test.YtpnihimoekkepaaCoL
import Derived.Test.YtpnihimoekkepaaLabelMath
namespace Go.Proofs.Ytpnihimoekkepaa
open Go.ChangeShapes Go.WideShapes Go.ChangeAt Go.RowKit
set_option linter.unusedVariables false
set_option linter.unusedSimpArgs false

theorem offs_take_succ (l : List Str) (s : Str) (k : Nat) (h : k < l.length) : offs (l.take (k + 1)) s = offs (l.take k) s + (if slt l[k] s = true then 1 else 0) := by
  unfold offs
  rw [List.take_succ_eq_append_getElem h, List.countP_append]
  simp [List.countP_cons]

theorem refOffset_any (A : Option Addr) (l : List Str) (s : Str) (n c : Nat) (w : World) (hr : Rd w 1 A n (strs l)) (hm : n ≤ maxLen) :
    Calls Try.prog 49 #[.slice A n c, .string (bstr s)] w fun e w' => e = .returned (.int .i64 (offs l s)) ∧ Below w.heap.size w w' := by
  have hl := rd_len hr
  subst hl
  unfold maxLen at hm
  go_enter Try.func49, Try.ntmps49
  go_wp2
  go_loopw [5, 6] (fun m i wr => ∃ k q : Nat, m = .int .i64 q ∧ i = .int .i64 k ∧ k ≤ l.length ∧ q = offs (l.take k) s ∧ Below w.heap.size w wr) (fun _ i _ => l.length - (intOf i).toNat)
  case atStart => exact ⟨0, 0, rfl, rfl, by omega, by simp [offs], by go_grown⟩
  case round =>
    obtain ⟨k, q, rfl, rfl, hk, hq, hb⟩ := hrel
    have hq2 : q ≤ k := by rw [hq]; refine Nat.le_trans (offs_le _ _) ?_; exact List.length_take_le _ _
    by_cases hlt : k < l.length
    · obtain ⟨b, o, rfl, hc⟩ := (hr.below hb).str (k := k) hlt
      have h1 := hc k hlt
      clear hc hr
      have hge := bytesLess_bstr l[k] s
      have hst := offs_take_succ l s k hlt
      rw [← hq] at hst
      have HQ := Lib.hid hq
      clear hq
      cases hc : slt l[k] s
      · rw [hc] at hge hst
        have HS := Lib.hid hst
        clear hst
        go_wp2
        go_roundw
        case rel => exact ⟨k + 1, q, rfl, by go_num, by omega, by simpa using HS.out.symm, hb⟩
        case measure => simp [intOf] <;> omega
      · rw [hc] at hge hst
        have HS := Lib.hid hst
        clear hst
        go_wp2
        go_roundw
        case rel => exact ⟨k + 1, q + 1, by go_num, by go_num, by omega, by simpa using HS.out.symm, hb⟩
        case measure => simp [intOf] <;> omega
    · go_wp2
      go_returns
      obtain rfl : k = l.length := by omega
      rw [List.take_length] at hq
      exact ⟨by rw [← hq]; rfl, hb⟩
theorem own_mono {w : World} {base B : Nat} {e : TypeId} {size n : Nat} {v : Value} {xs : List Value} (h : w.ownsRow base e size v n xs) (hB : B ≤ base) : w.ownsRow B e size v n xs := by
  refine ⟨h.1, ?_⟩
  rcases h.2 with hn | ⟨g, cap, cur, rfl, hb, rest⟩
  · exact .inl hn
  · exact .inr ⟨g, cap, cur, rfl, by omega, rest⟩

theorem Rd.take_ {w : World} {size n m : Nat} {A : Option Addr} {cs : List Value} (h : Rd w size A n cs) (hm : m ≤ n) : Rd w size A m (cs.take (m * size)) := by
  have h1 := h.cut (lo := 0) (hi := m) (k := 0) (by omega) hm (by omega)
  rw [Nat.zero_mul, List.drop_zero, Nat.sub_zero] at h1
  have eB : A.map (fun x => x.add 0) = A := by cases A <;> simp [add_zero]
  rwa [eB] at h1

theorem refAdd_any (w : World) (base : Nat) (v : Value) (l : List Str) (s : Str) (h : w.ownsRow base 9 1 v l.length (strs l)) (hB : base ≤ w.heap.size) (hm : l.length ≤ 4000000) :
    Calls Try.prog 44 #[v, .string (bstr s)] w fun e w' => ∃ v', e = .returned v' ∧ w'.ownsRow base 9 1 v' (addL l s).length (strs (addL l s)) ∧ Below w.heap.size w w' := by
  have hmx : l.length ≤ maxLen := by unfold maxLen; omega
  have hof := offs_le l s
  have hr0 : ∃ A c, v = .slice A l.length c ∧ Rd w 1 A l.length (strs l) := by
    obtain ⟨A, c, rfl, _⟩ := own_cap h
    exact ⟨A, c, rfl, Rd.of_own h⟩
  by_cases hs : s ∈ l
  · obtain ⟨A, c, rfl, hr⟩ := hr0
    go_enter Try.func44, Try.ntmps44
    go_wp2_with fail
    refine (refHas_any A l s l.length c _ hr hm).mono ?_
    rw [decide_eq_true hs]
    rintro e w1 ⟨rfl, hb1⟩
    go_wp2_with fail
    go_returns
    refine ⟨_, rfl, ?_, hb1⟩
    have ea : addL l s = l := by unfold addL; rw [if_pos hs]
    rw [ea]
    exact own_below h hb1
  · rcases h.2 with ⟨rfl, h0⟩ | ⟨g, c, cur, rfl, hbg, _, hc, hc2, _, _⟩
    · obtain rfl := List.eq_nil_of_length_eq_zero h0
      obtain ⟨A, c, hv, hr⟩ := hr0
      injection hv with e1 e2 e3
      subst e1
      subst e3
      clear hof e2
      have HS := Lib.hid hs
      clear hs
      go_enter Try.func44, Try.ntmps44
      go_wp2_with fail
      refine (refHas_any _ [] s 0 0 _ hr (by omega)).mono ?_
      rw [decide_eq_false HS.out]
      rintro e w1 ⟨rfl, hb1⟩
      go_wp2_with fail
      refine (refOffset_any _ [] s 0 0 _ (hr.below hb1) hmx).mono ?_
      rw [show ((offs [] s : Nat) : Int) = 0 from rfl]
      rintro e w2 ⟨rfl, hb2⟩
      have hb2' := below_then hb1 hb2
      clear hb1 hb2
      have hn : Rd w2 1 none 0 [] := Rd.nil _ _ _
      go_wp2_with (first
        | (at_builtin; refine wpList_app elStr _ rfl (.tmp 21) (.tmp 23) rfl w2.heap.size v3 0 _ rfl (hown3.alloc _) (some ⟨w3.heap.size, 0, none⟩) 1 1 _ rfl (Rd.lit w3 _ _ rfl) (strs_one [s]) (by omega) (by have := hb3.size; simp at *; omega) ?_; intro v4 w4 hown4 hb4 _ _)
        | (at_builtin; refine wpList_app elStr _ rfl (.tmp 25) (.tmp 28) rfl w2.heap.size v4 1 _ rfl hown4 none 0 0 [] rfl (Rd.nil _ _ _) (by simp) (by omega) (by have := hb3.size; have := hb4.size; simp at *; omega) ?_; intro v5 w5 hown5 hb5 _ _)
        | (at_builtin; refine wpList_app elStr _ rfl (.tmp 16) (.tmp 19) rfl w2.heap.size (.slice (some ⟨w2.heap.size, 0, none⟩) 0 0) 0 [] rfl (World.ownsRow_lit w2 #[] 0 (by simp) (by simp [maxLen]) rfl) none 0 0 [] rfl (Rd.nil _ _ _) (by simp) (by omega) (by simp) ?_; intro v3 w3 hown3 hb3 _ _))
      go_returns
      have hB3 : Below w2.heap.size w2 w3 := ((Below.refl _ _).alloc (Nat.le_refl _) _).trans hb3
      have hB4 : Below w2.heap.size w2 w4 := (hB3.alloc hB3.size _).trans hb4
      refine ⟨_, rfl, own_mono (by simpa [addL, offs, strs] using hown5) (Nat.le_trans hB hb2'.size), below_then hb2' (hB4.trans hb5)⟩
    · obtain ⟨A, c0, hv, hr⟩ := hr0
      injection hv with e1 e2 e3
      subst e1
      subst e3
      clear e2
      have HS := Lib.hid hs
      clear hs
      go_enter Try.func44, Try.ntmps44
      go_wp2_with fail
      refine (refHas_any _ l s _ c _ hr hm).mono ?_
      rw [decide_eq_false HS.out]
      rintro e w1 ⟨rfl, hb1⟩
      go_wp2_with fail
      refine (refOffset_any _ l s _ c _ (hr.below hb1) hmx).mono ?_
      rintro e w2 ⟨rfl, hb2⟩
      have hb2' := below_then hb1 hb2
      have hr2 := hr.below hb2'
      clear hb1 hb2
      have hf := hr2.from_ (lo := offs l s) (c := c) (k := offs l s) hof hc (by omega)
      rw [strs_drop] at hf
      simp only [Option.map_some, Addr.add_lit, Nat.zero_add] at hf
      have HF := Lib.hid hf
      clear hf
      go_wp2_with (first
        | (at_builtin
           have hB3 : Below w2.heap.size w2 w3 := ((Below.refl _ _).alloc (Nat.le_refl _) _).trans hb3
           have hB4 : Below w2.heap.size w2 w4 := (hB3.alloc hB3.size _).trans hb4
           refine wpList_app elStr _ rfl (.tmp 25) (.tmp 28) rfl w2.heap.size v4 (offs l s + 1) _ rfl hown4 (if c = offs l s then some ⟨g, 0, none⟩ else some ⟨g, offs l s, none⟩) (l.length - offs l s) (c - offs l s) (strs (l.drop (offs l s))) rfl (HF.out.below hB4) (strs_one _) (by omega) hB4.size ?_
           intro v5 w5 hown5 hb5 _ _)
        | (at_builtin; refine wpList_app elStr _ rfl (.tmp 21) (.tmp 23) rfl w2.heap.size v3 (offs l s) _ rfl (hown3.alloc _) (some ⟨w3.heap.size, 0, none⟩) 1 1 _ rfl (Rd.lit w3 _ _ rfl) (strs_one [s]) (by omega) (by have := hb3.size; simp at *; omega) ?_; intro v4 w4 hown4 hb4 _ _)
        | (at_builtin; refine wpList_app elStr _ rfl (.tmp 16) (.tmp 19) rfl w2.heap.size (.slice (some ⟨w2.heap.size, 0, none⟩) 0 0) 0 [] rfl (World.ownsRow_lit w2 #[] 0 (by simp) (by simp [maxLen]) rfl) (some ⟨g, 0, none⟩) (offs l s) c _ rfl ((hr2.alloc _).take_ hof) (by rw [strs_take]; exact strs_one _) (by omega) (by simp) ?_; intro v3 w3 hown3 hb3 _ _; rw [Nat.zero_add] at hown3))
      all_goals
        go_returns
        have ea : addL l s = l.take (offs l s) ++ [s] ++ l.drop (offs l s) := by unfold addL; rw [if_neg HS.out]
        have el : (addL l s).length = offs l s + 1 + (l.length - offs l s) := by rw [ea]; simp; omega
        refine ⟨_, rfl, own_mono ?_ (Nat.le_trans hB hb2'.size), below_then hb2' (hB4.trans hb5)⟩
        rw [el, ea]
        rw [strs_take, List.nil_append] at hown5
        rw [strs_append, strs_append]
        exact hown5
theorem refOf_any (A : Option Addr) (l : List Str) (n c : Nat) (w : World) (hr : Rd w 1 A n (strs l)) (hm : n ≤ 4000000) :
    Calls Try.prog 35 #[.slice A n c] w fun e w' => ∃ v, e = .returned v ∧ w'.ownsRow w.heap.size 9 1 v (setOf l).length (strs (setOf l)) ∧ Below w.heap.size w w' := by
  have hl := rd_len hr
  subst hl
  go_enter Try.func35, Try.ntmps35
  go_wp2_with fail
  go_loopw [3, 4] (fun v i wr => ∃ k : Nat, i = .int .i64 k ∧ k ≤ l.length ∧ wr.ownsRow w.heap.size 9 1 v (ofTo l k).length (strs (ofTo l k)) ∧ Below w.heap.size w wr) (fun _ i _ => l.length - (intOf i).toNat)
  case atStart => exact ⟨0, rfl, by omega, World.ownsRow_nil _ _ _ _, Below.refl _ _⟩
  case round =>
    obtain ⟨k, rfl, hk, hown, hb⟩ := hrel
    by_cases hlt : k < l.length
    · obtain ⟨b, o, rfl, hc⟩ := (hr.below hb).str (k := k) hlt
      have hc1 := hc k hlt
      have hlk := ofTo_length l k hk
      have hs := ofTo_succ l k hlt
      have HS := Lib.hid hs
      clear hc hr hs
      go_wp2_with fail
      refine (refAdd_any _ w.heap.size _ (ofTo l k) l[k] hown hb.size (by omega)).mono ?_
      rintro e w1 ⟨v1, rfl, hown1, hb1⟩
      go_wp2_with fail
      go_roundw
      case rel => exact ⟨k + 1, by go_num, by omega, by rw [HS.out]; exact hown1, hb.trans (hb1.mono hb.size)⟩
      case measure => simp [intOf] <;> omega
    · go_wp2_with fail
      go_returns
      obtain rfl : k = l.length := by omega
      rw [ofTo_all] at hown
      exact ⟨_, rfl, hown, hb⟩

end Go.Proofs.Ytpnihimoekkepaa
