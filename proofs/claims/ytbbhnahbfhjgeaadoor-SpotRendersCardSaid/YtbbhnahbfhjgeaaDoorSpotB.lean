/-
  Lines and columns: the code's Where, and the document's.
-/
import Derived.Test.YtbbhnahbfhjgeaaDoorSpotA
namespace Go.Proofs.YtbbhnahbfhjgeaaDoor
open Go.ChangeShapes Go.WideShapes Go.ChangeAt Go.RowKit
set_option linter.unusedVariables false
set_option linter.unusedSimpArgs false

/-- How many bytes lie ahead of a place. -/
def ahead (n : Nat) (at_ : Int) : Nat := min at_.toNat n
def whereV (l : Str) (at_ : Int) : Value := .tuple #[.int .i64 ((lineF (l.take (ahead l.length at_)) : Nat) : Int), .int .i64 ((colF (l.take (ahead l.length at_)) : Nat) : Int)]

set_option maxRecDepth 100000 in
theorem refWhere_any (A : Option Addr) (l : Str) (n cp : Nat) (at_ : Int) (w : World) (hr : Rd w 1 A n (u8s l)) (hm : n ≤ 5000) :
    Calls Tryd.prog 8 #[.slice A n cp, .int .i64 at_] w fun e w' => e = .returned (whereV l at_) ∧ w = w' := by
  have hn := hr.bytesN
  subst hn
  obtain ⟨r, hwv⟩ : ∃ r, whereV l at_ = r := ⟨_, rfl⟩
  have HWV := Lib.hid hwv
  rw [hwv]
  clear hwv
  go_enter Tryd.func8, Tryd.ntmps8
  go_wp2_with fail
  go_loop [6, 7, 8] (fun ln cl i => ∃ k : Nat, i = .int .i64 k ∧ k ≤ ahead l.length at_ ∧ ln = .int .i64 (lineF (l.take k) : Nat) ∧ cl = .int .i64 (colF (l.take k) : Nat)) (fun _ _ i => l.length - (intOf i).toNat)
  case atStart => exact ⟨0, rfl, Nat.zero_le _, rfl, rfl⟩
  case round =>
    obtain ⟨k, rfl, hk, rfl, rfl⟩ := hrel
    have z0 : (0 : Int) ≤ (k : Int) := by omega
    have HA := Lib.hid (show ahead l.length at_ = min at_.toNat l.length from rfl)
    have hb1 := lineF_le (l.take k)
    have hb2 := colF_le (l.take k)
    rw [List.length_take] at hb1 hb2
    have HL := Lib.hid (And.intro hb1 hb2)
    obtain ⟨ln, hln⟩ : ∃ x, lineF (l.take k) = x := ⟨_, rfl⟩
    obtain ⟨cl, hcl⟩ : ∃ x, colF (l.take k) = x := ⟨_, rfl⟩
    rw [hln, hcl] at HL
    rw [hln, hcl]
    have HLC := Lib.hid (And.intro hln hcl)
    have hl1 : ln ≤ 5001 := by have := HL.out.1; omega
    have hl2 : cl ≤ 5001 := by have := HL.out.2; omega
    clear hb1 hb2 hln hcl
    by_cases hka : k < ahead l.length at_
    · have hkl : k < l.length := by have := HA.out; omega
      have z1 : (k : Int) < (l.length : Int) := by omega
      have z2 : (k : Int) < at_ := by have := HA.out; omega
      obtain ⟨b, o, rfl, hb, hcl⟩ := hr.byte (k := k) hkl
      obtain ⟨c, hck⟩ : ∃ c, l[k] = c := ⟨_, rfl⟩
      have g0 := hcl k hkl
      rw [hck] at g0
      have hs := colF_take l k hkl
      have hs2 := lineF_take l k hkl
      rw [hck] at hs hs2
      have HS := Lib.hid (And.intro hs hs2)
      clear hcl hck hs hs2
      by_cases h10 : c.toNat = 10
      · have t10 : ((c.toNat : Int) == 10) = true := by rw [beq_iff_eq]; omega
        have HE := Lib.hid ((u8_eq c).2 h10)
        clear h10
        go_wp2_with fail
        go_round
        case rel =>
          have h1 := HS.out.1
          have h2 := HS.out.2
          rw [if_pos HE.out] at h1 h2
          have h3 := HLC.out.1
          refine ⟨k + 1, by go_num, by omega, ?_, ?_⟩
          · rw [h2, h3]; go_num
          · rw [h1]; rfl
        case measure => simp [intOf] <;> omega
      · have t10 : ((c.toNat : Int) == 10) = false := by rw [beq_eq_false_iff_ne]; omega
        have HE := Lib.hid (fun h => h10 ((u8_eq c).1 h))
        clear h10
        go_wp2_with fail
        go_round
        case rel =>
          have h1 := HS.out.1
          have h2 := HS.out.2
          rw [if_neg HE.out] at h1 h2
          have h3 := HLC.out.1
          have h4 := HLC.out.2
          refine ⟨k + 1, by go_num, by omega, ?_, ?_⟩
          · rw [h2, h3]
          · rw [h1, h4]; go_num
        case measure => simp [intOf] <;> omega
    · obtain rfl : k = ahead l.length at_ := by omega
      have hres : r = .tuple #[.int .i64 (ln : Int), .int .i64 (cl : Int)] := by
        rw [← HWV.out]; unfold whereV; rw [HLC.out.1, HLC.out.2]
      have HRES := Lib.hid hres
      clear hres hk
      by_cases hlt : ahead l.length at_ < l.length
      · have z1 : (ahead l.length at_ : Int) < (l.length : Int) := by omega
        have z2 : ¬ (ahead l.length at_ : Int) < at_ := by have := HA.out; omega
        generalize ahead l.length at_ = kk at *
        go_wp2_with fail
        go_returns
        exact ⟨by rw [HRES.out]; rfl, rfl⟩
      · have z1 : ¬ (ahead l.length at_ : Int) < (l.length : Int) := by omega
        generalize ahead l.length at_ = kk at *
        go_wp2_with fail
        go_returns
        exact ⟨by rw [HRES.out]; rfl, rfl⟩

set_option maxRecDepth 100000 in
theorem lastW_any (A : Option Addr) (l : Str) (n cp : Nat) (w : World) (hr : Rd w 1 A n (u8s l)) (hm : n ≤ 1048576) :
    Calls Tryd.prog 19 #[.slice A n cp, .int .u8 10] w fun e w' => e = .returned (.int .i64 ((n : Int) - (colF l : Int))) ∧ w = w' := by
  go_enter Tryd.func19, Tryd.ntmps19
  go_wp2_with fail
  refine (last_any A l n cp w hr hm).mono ?_
  rintro e w1 ⟨rfl, rfl⟩
  go_wp2_with fail
  go_returns
  exact ⟨rfl, rfl⟩

theorem Rd.front {w : World} {A : Option Addr} {l : Str} (h : Rd w 1 A l.length (u8s l)) (k : Nat) (hk : k ≤ l.length) : Rd w 1 A k (u8s (l.take k)) := by
  have e : u8s (l.take k) = (u8s l).take k := by simp [u8s, List.map_take]
  refine ⟨by rw [u8s_length, List.length_take]; omega, fun h0 => ?_⟩
  rw [u8s_length, List.length_take] at h0
  obtain ⟨a, ea, hh⟩ := h.2 (by rw [u8s_length]; omega)
  refine ⟨a, ea, fun j u hj => hh j u ?_⟩
  rw [e, List.getElem?_take] at hj
  split at hj
  · exact hj
  · cases hj

set_option maxRecDepth 100000 in
theorem where_any (A : Option Addr) (l : Str) (n cp : Nat) (at_ : Int) (w : World) (hr : Rd w 1 A n (u8s l)) (hcap : n ≤ cp) (hm : n ≤ 5000) :
    Calls Tryd.prog 7 #[.slice A n cp, .int .i64 at_] w fun e w' => e = .returned (whereV l at_) ∧ Below w.heap.size w w' := by
  have hn := hr.bytesN
  subst hn
  obtain ⟨k, hk⟩ : ∃ k, ahead l.length at_ = k := ⟨_, rfl⟩
  have HK := Lib.hid hk
  have hka : k = min at_.toNat l.length := by rw [← hk]; rfl
  have hkl : k ≤ l.length := by omega
  have hmm : min (max at_ 0) (l.length : Int) = (k : Int) := by omega
  have hb : Below w.heap.size w (w.alloc (.cells #[.int .u8 10] 5)) := (Below.refl _ _).alloc (Nat.le_refl _) _
  have HF := Lib.hid ((hr.front k hkl).below hb)
  have HB := Lib.hid hb
  have hb1 := lineF_le (l.take k)
  have hb2 := colF_le (l.take k)
  rw [List.length_take] at hb1 hb2
  obtain ⟨ln, hln⟩ : ∃ x, (l.take k).count 10 = x := ⟨_, rfl⟩
  obtain ⟨cl, hcl⟩ : ∃ x, colF (l.take k) = x := ⟨_, rfl⟩
  have hr1 : whereV l at_ = .tuple #[.int .i64 ((ln + 1 : Nat) : Int), .int .i64 (cl : Int)] := by
    unfold whereV lineF; rw [hk, hln, hcl]
  unfold lineF at hb1
  rw [hln] at hb1
  rw [hcl] at hb2
  have HR1 := Lib.hid hr1
  have HLC := Lib.hid (And.intro hln hcl)
  have hl1 : ln ≤ 5000 := by omega
  have hl2 : cl ≤ 5001 := by omega
  have z5 : (k : Int) ≤ (cp : Int) := by omega
  rw [hr1]
  clear hr hk hka hb hb1 hb2 hln hcl hr1
  go_enter Tryd.func7, Tryd.ntmps7
  go_wp2_with fail
  refine (count_any A (l.take k) k cp w.heap.size 1 _ HF.out (cell_new w _ _ 0 rfl)).mono ?_
  rw [HLC.out.1]
  rintro e w1 ⟨rfl, rfl⟩
  go_wp2_with fail
  refine (lastW_any A (l.take k) k cp _ HF.out (by omega)).mono ?_
  rw [HLC.out.2]
  rintro e w1 ⟨rfl, rfl⟩
  go_wp2_with fail
  go_returns
  have h3 : (k : Int) - ((k : Int) - (cl : Int)) = (cl : Int) := by omega
  refine ⟨?_, HB.out⟩
  rw [h3]
  rfl
end Go.Proofs.YtbbhnahbfhjgeaaDoor
