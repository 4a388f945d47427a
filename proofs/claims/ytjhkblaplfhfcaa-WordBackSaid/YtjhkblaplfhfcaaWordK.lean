/-
  What the document unpacks.
-/
import Derived.Test.YtjhkblaplfhfcaaWordJ
namespace Go.Proofs.Ytjhkblaplfhfcaa
open Go.ChangeShapes Go.WideShapes Go.ChangeAt Go.RowKit
set_option linter.unusedVariables false

/-- What Unpack of the document comes to. -/
def RefUnpacked (ws : List Wd) (w : World) (e : Ending) (w' : World) : Prop :=
  ∃ B m d, e = .returned (.tuple #[.slice B m d, .bool (refOkB ws)]) ∧ m ≤ d ∧ (refOkB ws = true → m = nBytes ws ∧ Rd w' 1 B m (u8s (bytesTo ws (nBytes ws)))) ∧ Below w.heap.size w w'

theorem refOk_iff (ws : List Wd) : refOkB ws = true ↔ 0 < ws.length ∧ ((ws[0]?).getD (false, 0)).1 = false ∧ 0 ≤ wat ws 0 ∧ wat ws 0 ≤ 8 * ws.length ∧ nBytes ws ≤ 8 * (ws.length - 1) ∧ pw (bytesTo ws (nBytes ws)) = ws := by
  simp only [refOkB, Bool.and_eq_true, decide_eq_true_eq, Bool.not_eq_true', and_assoc]

theorem refUnpack_bad (A : Option Addr) (ws : List Wd) (n c : Nat) (hn : n = ws.length) (hc : n ≤ c) (w : World) (hr : Rd w 2 A n (wcells ws)) (hm : ws.length ≤ 1048576)
    (hbad : ws.length = 0 ∨ ((ws[0]?).getD (false, 0)).1 = true ∨ wat ws 0 < 0 ∨ 8 * (ws.length : Int) < wat ws 0) :
    Calls Try.prog 16 #[.slice A n c] w (RefUnpacked ws w) := by
  subst hn
  have hno : refOkB ws = false := by
    cases h : refOkB ws with
    | false => rfl
    | true =>
      obtain ⟨h1, h2, h3, h4, _⟩ := (refOk_iff ws).1 h
      rcases hbad with h | h | h | h
      · omega
      · rw [h2] at h; cases h
      · omega
      · omega
  have HB := Lib.hid hno
  clear hno
  have hfin : ∀ w' : World, Below w.heap.size w w' → RefUnpacked ws w (.returned (.tuple #[.slice none 0 0, .bool false])) w' := fun w' hb =>
    ⟨none, 0, 0, by rw [HB.out], Nat.le_refl _, (fun h => by rw [HB.out] at h; cases h), hb⟩
  have HF := Lib.hid hfin
  clear hfin
  rcases Nat.eq_zero_or_pos ws.length with h0 | h0
  · have hne : ((ws.length : Int) == 0) = true := by rw [beq_iff_eq]; omega
    clear hbad
    have HH := Lib.hid h0
    clear h0
    go_enter Try.func16, Try.ntmps16
    go_wp2_with fail
    go_returns
    exact HF.out _ (Below.refl _ _)
  · have hne : ((ws.length : Int) == 0) = false := by rw [beq_eq_false_iff_ne]; omega
    have hne2 : ¬ ws = [] := by rintro rfl; simp at h0
    obtain ⟨b, o, rfl, hba, hc0, hc1⟩ := rd_word hr h0
    rw [Nat.zero_mul, Nat.add_zero] at hc0 hc1
    have hp0 : ((ws[0]?).getD (false, 0)).1 = ws[0].1 := by simp [h0]
    rw [hp0] at hbad
    clear hp0
    cases hp : ws[0].1 with
    | true =>
      rw [hp] at hc0
      clear hbad hp
      go_enter Try.func16, Try.ntmps16
      go_wp2_with fail
      go_returns
      exact HF.out _ (Below.refl _ _)
    | false =>
      rw [hp] at hc0 hbad
      clear hp
      by_cases hneg : wat ws 0 < 0
      · clear hbad
        go_enter Try.func16, Try.ntmps16
        go_wp2_with fail
        go_returns
        exact HF.out _ (Below.refl _ _)
      · have hbig : 8 * (ws.length : Int) < wat ws 0 := by
          rcases hbad with h | h | h | h
          · omega
          · cases h
          · omega
          · exact h
        clear hbad
        go_enter Try.func16, Try.ntmps16
        go_wp2_with fail
        go_returns
        exact HF.out _ (Below.refl _ _)

theorem one_int (k : IntKind) (n : Int) : ∀ u ∈ (#[Value.int k n] : Array Value).toList, u.oneCell' = true := by
  intro u hu
  simp at hu
  subst hu
  rfl

theorem byte_of (ws : List Wd) (j k q : Nat) (hk : k < 8) (hq : q = u64n (wat ws (1 + j)) / 256 ^ k) : byteAt ws (8 * j + k) = UInt8.ofNat (q % 256) := by
  unfold byteAt
  rw [show (8 * j + k) / 8 = j from by omega, show (8 * j + k) % 8 = k from by omega, hq]

theorem refUnpack_go (A : Option Addr) (ws : List Wd) (n c : Nat) (hn : n = ws.length) (hc : n ≤ c) (w : World) (hr : Rd w 2 A n (wcells ws)) (hm : ws.length ≤ 65536)
    (h0 : 0 < ws.length) (hp : ((ws[0]?).getD (false, 0)).1 = false) (hpos : 0 ≤ wat ws 0) (hsm : wat ws 0 ≤ 8 * (ws.length : Int)) :
    Calls Try.prog 16 #[.slice A n c] w (RefUnpacked ws w) := by
  subst hn
  have hne : ((ws.length : Int) == 0) = false := by rw [beq_eq_false_iff_ne]; omega
  have hne2 : ¬ ws = [] := by rintro rfl; simp at h0
  have hN : wat ws 0 = (nBytes ws : Int) := by unfold nBytes; omega
  obtain ⟨b, o, rfl, hba, hc0, hc1⟩ := rd_word hr h0
  rw [Nat.zero_mul, Nat.add_zero] at hc0 hc1
  have hp0 : ((ws[0]?).getD (false, 0)).1 = ws[0].1 := by simp [h0]
  have HP := Lib.hid hp
  rw [hp0] at hp
  rw [hp] at hc0
  rw [hN] at hc1 hsm
  have HN := Lib.hid hN
  clear hp0 hp hN hpos
  have hd1 : decide ((nBytes ws : Int) < 0) = false := by simp
  have hd2 : decide (8 * (ws.length : Int) < (nBytes ws : Int)) = false := by rw [decide_eq_false_iff_not]; omega
  go_enter Try.func16, Try.ntmps16
  go_wp2_with fail
  go_loopw [4, 5] (fun v i wr => ∃ j : Nat, 1 + j ≤ ws.length ∧ i = .int .i64 ((1 + j : Nat) : Int) ∧ wr.ownsRow w.heap.size 5 1 v (8 * j) (u8s (bytesTo ws (8 * j))) ∧ Below w.heap.size w wr) (fun _ i _ => ws.length - (intOf i).toNat)
  case atStart => exact ⟨0, by omega, rfl, World.ownsRow_nil _ _ _ _, Below.refl _ _⟩
  case round =>
    obtain ⟨j, hj, rfl, hown, hb⟩ := hrel
    rw [show ((1 + j : Nat) : Int) = 1 + (j : Int) from by omega]
    by_cases hlt : 1 + j < ws.length
    · obtain ⟨b', o', e', _, hd0, hd1⟩ := rd_word (hr.below hb) (k := 1 + j) (by omega)
      simp only [Option.some.injEq, Addr.mk.injEq, and_true] at e'
      obtain ⟨rfl, rfl⟩ := e'
      have hd3 : decide (1 + (j : Int) < (ws.length : Int)) = true := by rw [decide_eq_true_eq]; omega
      go_wp2_with fail
      rw [u64n_wrap]
      go_loopw [4, 6, 7] (fun v q i wr => ∃ k : Nat, k ≤ 8 ∧ i = .int .i64 k ∧ q = .int .u64 ((u64n (wat ws (1 + j)) / 256 ^ k : Nat) : Int) ∧ wr.ownsRow w.heap.size 5 1 v (8 * j + k) (u8s (bytesTo ws (8 * j + k))) ∧ Below w.heap.size w wr) (fun _ _ i _ => 8 - (intOf i).toNat)
      case atStart => exact ⟨0, Nat.zero_le _, rfl, by simp, hown, hb⟩
      case round =>
        clear hown hb hd0 hd1
        obtain ⟨k, hk, rfl, rfl, hown, hb⟩ := hrel
        obtain ⟨x, hx⟩ : ∃ x, x = u64n (wat ws (1 + j)) / 256 ^ k := ⟨_, rfl⟩
        rw [← hx]
        have hx64 : x < 18446744073709551616 := by
          have := u64n_lt (wat ws (1 + j)); have h2 := Nat.div_le_self (u64n (wat ws (1 + j))) (256 ^ k); rw [hx]; omega
        have HX := Lib.hid hx
        clear hx
        by_cases hlt8 : k < 8
        · go_wp2_with (at_builtin; refine wpList_app elByte _ rfl _ _ rfl w.heap.size u4 (8 * j + k) _ rfl (hown.alloc _) (some ⟨_, 0, none⟩) 1 1 _ rfl (Rd.lit _ _ _ rfl) (one_int _ _) (by omega) (by have h1 := hb.size; simp; omega) ?_; intro v' w6 hown6 hb6 _ _)
          go_roundw
          case rel => exact ⟨k + 1, by omega, by go_num, by rw [Nat.pow_succ, ← Nat.div_div_eq_div_mul, ← HX.out, Int.natCast_ediv]; rfl, by
            rw [← Nat.add_assoc, bytesTo_succ, byte_of ws j k x hlt8 HX.out]
            have e : u8s (bytesTo ws (8 * j + k) ++ [UInt8.ofNat (x % 256)]) = u8s (bytesTo ws (8 * j + k)) ++ [Value.int .u8 ((x : Int) % 256)] := by
              simp only [u8s, List.map_append, List.map_cons, List.map_nil]
              congr 3
              simp
            rw [e]; exact hown6, ((hb.alloc hb.size _).trans hb6)⟩
          case measure => simp [intOf] <;> omega
        · obtain rfl : k = 8 := by omega
          go_wp2_with fail
          go_roundw
          case rel => exact ⟨1 + j, by omega, by go_num, by rw [show 8 * (1 + j) = 8 * j + 8 from by omega]; exact hown, hb⟩
          case measure => simp [intOf] <;> omega
    · obtain ⟨B, cc, rfl, hle, _, _⟩ := own_cap hown
      have hrd := Rd.of_own hown
      have hc0' := cell_below hb hc0
      have hc1' := cell_below hb hc1
      clear hc0 hc1
      have hj1 : j + 1 = ws.length := by omega
      have HJ := Lib.hid hj1
      clear hj1
      by_cases hsh : 8 * (j : Int) < (nBytes ws : Int)
      · have hno : refOkB ws = false := by
          cases h : refOkB ws with
          | false => rfl
          | true =>
            obtain ⟨_, _, _, _, h5, _⟩ := (refOk_iff ws).1 h
            have := HJ.out
            omega
        have HB := Lib.hid hno
        clear hno
        go_wp2_with fail
        go_returns
        exact ⟨none, 0, 0, by rw [HB.out]; rfl, Nat.le_refl _, (fun h => by rw [HB.out] at h; cases h), hb⟩
      · have hsh' : (nBytes ws : Int) ≤ 8 * (j : Int) := by omega
        have hpk : (bytesTo ws (nBytes ws)).length ≤ 1048576 * 8 := by rw [bytesTo_length]; omega
        have hcut : Rd wr 1 B (nBytes ws) (u8s (bytesTo ws (nBytes ws))) := by
          have h := hrd.cut (lo := 0) (hi := nBytes ws) (k := 0) (by omega) (by omega) (by omega)
          rw [u8s_cut, List.drop_zero, Nat.sub_zero, bytesTo_take ws _ _ (by omega)] at h
          have eB : B.map (fun x => x.add 0) = B := by cases B <;> simp [add_zero]
          rw [eB] at h
          exact h
        have hres : refOkB ws = decide (pw (bytesTo ws (nBytes ws)) = ws) := by
          have h1 := HJ.out
          have h2 := HN.out
          unfold refOkB
          rw [decide_eq_true h0, HP.out, decide_eq_true (by omega : (0 : Int) ≤ wat ws 0), decide_eq_true (by omega : wat ws 0 ≤ 8 * (ws.length : Int)), decide_eq_true (by omega : nBytes ws ≤ 8 * (ws.length - 1))]
          simp
        have HR := Lib.hid hres
        clear hres hown hrd
        have hlen : nBytes ws = (bytesTo ws (nBytes ws)).length := (bytesTo_length _ _).symm
        have HL := Lib.hid hlen
        clear hlen
        go_wp2_with fail
        refine (refPack_any B (bytesTo ws (nBytes ws)) (nBytes ws) cc HL.out (by omega) _ hcut (by have := HL.out; omega)).mono ?_
        rintro e w2 ⟨v, rfl, hown2, hb2⟩
        obtain ⟨B2, c2, rfl, hle2, _, _⟩ := own_cap hown2
        have hrd2 := Rd.of_own hown2
        go_wp2_with fail
        refine (same_any B2 (some ⟨b, o, none⟩) (pw (bytesTo ws (nBytes ws))) ws _ _ _ _ (by rw [pw_length]; rfl) rfl _ hrd2 ((hr.below hb).below hb2) (by rw [pw_length]; unfold packN; rw [← HL.out]; omega)).mono ?_
        rintro e w3 ⟨rfl, hb3⟩
        go_wp2_with fail
        go_returns
        exact ⟨B, nBytes ws, cc, by rw [HR.out]; rfl, by omega, fun _ => ⟨rfl, (hcut.below hb2).below hb3⟩, below_then hb (below_then hb2 hb3)⟩
theorem refUnpack_any (A : Option Addr) (ws : List Wd) (n c : Nat) (hn : n = ws.length) (hc : n ≤ c) (w : World) (hr : Rd w 2 A n (wcells ws)) (hm : ws.length ≤ 65536) :
    Calls Try.prog 16 #[.slice A n c] w (RefUnpacked ws w) := by
  by_cases hbad : ws.length = 0 ∨ ((ws[0]?).getD (false, 0)).1 = true ∨ wat ws 0 < 0 ∨ 8 * (ws.length : Int) < wat ws 0
  · exact refUnpack_bad A ws n c hn hc w hr (by omega) hbad
  · simp only [not_or] at hbad
    obtain ⟨h1, h2, h3, h4⟩ := hbad
    exact refUnpack_go A ws n c hn hc w hr hm (by omega) (by simpa using h2) (by omega) (by omega)
end Go.Proofs.Ytjhkblaplfhfcaa
