/-
  Lists of texts, and texts, by the document's answer.
-/
import Derived.Test.YtaglmmcjhlehjaaGreatDoorK04
import Derived.Test.YtaglmmcjhlehjaaGreatDoorK01
import Derived.Test.YtaglmmcjhlehjaaGreatDoorK02
namespace Go.Proofs.YtaglmmcjhlehjaaGreatDoor
open Go.ChangeShapes Go.WideShapes Go.ChangeAt Go.RowKit
set_option linter.unusedVariables false
set_option linter.unusedSimpArgs false

theorem Rd.strN {w : World} {A : Option Addr} {n : Nat} {l : List Str} (h : Rd w 1 A n (strs l)) : l.length = n := by have := h.1; rw [strs_length] at this; omega
theorem Rd.strL {w : World} {A : Option Addr} {n : Nat} {l : List Str} (h : Rd w 1 A n (strs l)) {k : Nat} (hk : k < l.length) : ∃ b o, A = some ⟨b, o, none⟩ ∧ b < w.heap.size ∧ ∀ j (hj : j < l.length), w.cell? ⟨b, o + j, none⟩ = some (.string (bstr l[j])) := by
  obtain ⟨b, o, rfl, hb, hh⟩ := h.base (by rw [strs_length]; omega)
  exact ⟨b, o, rfl, hb, fun j hj => hh j _ (strs_at l j hj)⟩

theorem in_any (A : Option Addr) (l : List Str) (n cp : Nat) (s : Str) (w : World) (hr : Rd w 1 A n (strs l)) (hm : n ≤ 1048576) :
    Calls Tryz.prog 137 #[.slice A n cp, .string (bstr s)] w fun e w' => e = .returned (.bool (decide (s ∈ l))) ∧ w = w' := by
  have hl := hr.strN
  subst hl
  go_enter Tryz.func137, Tryz.ntmps137
  go_wp2_with fail
  go_loop [5] (fun i => ∃ k : Nat, i = .int .i64 k ∧ k ≤ l.length ∧ s ∉ l.take k) (fun i => l.length - (intOf i).toNat)
  case atStart => exact ⟨0, rfl, Nat.zero_le _, by simp⟩
  case round =>
    obtain ⟨k, rfl, hk, hn⟩ := hrel
    have HN := Lib.hid hn
    clear hn
    by_cases hlt : k < l.length
    · obtain ⟨b, o, rfl, hb, hc⟩ := hr.strL (k := k) hlt
      have g0 := hc k hlt
      have z1 : (k : Int) < (l.length : Int) := by omega
      clear hc hr
      by_cases he : l[k] = s
      · have HE := Lib.hid (show s ∈ l from he ▸ List.getElem_mem hlt)
        have hq : ((bstr l[k]).toList == (bstr s).toList) = true := by rw [beq_bstr]; simpa using he
        clear he
        go_wp2_with fail
        go_returns
        exact ⟨by rw [decide_eq_true HE.out]; rfl, rfl⟩
      · have HE := Lib.hid he
        have hq : ((bstr l[k]).toList == (bstr s).toList) = false := by rw [beq_bstr]; simpa using he
        clear he
        go_wp2_with fail
        go_round
        case rel =>
          refine ⟨k + 1, by go_num, by omega, ?_⟩
          rw [List.take_succ_eq_append_getElem hlt]
          simp only [List.mem_append, List.mem_singleton, not_or]
          exact ⟨HN.out, fun e => HE.out e.symm⟩
        case measure => simp [intOf] <;> omega
    · have z1 : ¬ (k : Int) < (l.length : Int) := by omega
      go_wp2_with fail
      go_returns
      have h2 := HN.out
      rw [List.take_of_length_le (by omega)] at h2
      exact ⟨by rw [decide_eq_false h2]; rfl, rfl⟩

set_option maxRecDepth 100000 in
theorem refIsWord_any (s : Str) (w : World) : Calls Tryz.prog 135 #[.string (bstr s)] w fun e w' => e = .returned (.bool (isWordB s)) ∧ Below w.heap.size w w' := by
  have hb : Below w.heap.size w (w.alloc (.cells (strs wordsL).toArray 9)) := (Below.refl _ _).alloc (Nat.le_refl _) _
  have HI := Lib.hid (in_any (some ⟨w.heap.size, 0, none⟩) wordsL 14 14 s (w.alloc (.cells (strs wordsL).toArray 9)) (Rd.lit w (strs wordsL).toArray 9 rfl) (by decide))
  have HB := Lib.hid hb
  clear hb
  go_enter Tryz.func135, Tryz.ntmps135
  go_wp2_with fail
  refine HI.out.mono ?_
  rintro e w1 ⟨rfl, rfl⟩
  go_wp2_with fail
  go_returns
  exact ⟨rfl, HB.out⟩

/-- What stands while a text is read. -/
structure RL (w : World) (l : Str) (k q : Nat) (acc : Str) (wr : World) : Prop where
  lo : k ≤ q
  hi : q ≤ l.length
  inv : txt (l.drop k) = (txt (l.drop q)).more (q - k) acc
  b : Below w.heap.size w wr
  len : acc.length ≤ q
def RefTxtRes (r : TxtR) (k : Nat) (w : World) (e : Ending) (w' : World) : Prop :=
  match r with
  | .ok s n => e = .returned (.tuple #[.string (bstr s), .int .i64 ((k + n : Nat) : Int), .int .i64 (-1)]) ∧ Below w.heap.size w w'
  | .bad o => e = .returned (.tuple #[.string (bstr []), .int .i64 ((k + o : Nat) : Int), .int .i64 ((k + o : Nat) : Int)]) ∧ Below w.heap.size w w'
theorem RL.done {w wr : World} {l : Str} {k q : Nat} {acc : Str} (h : RL w l k q acc wr) (r : TxtR) (e : txt (l.drop q) = r) : txt (l.drop k) = r.more (q - k) acc := by rw [h.inv, e]
theorem RL.plain {w wr : World} {l : Str} {k q : Nat} {acc : Str} (h : RL w l k q acc wr) (hq : q < l.length) (c : UInt8) (hc : l[q] = c) (h1 : c.toNat ≠ 34) (h2 : c.toNat ≠ 92) (hp : plainB c = true) :
    txt (l.drop k) = (txt (l.drop (q + 1))).more (q + 1 - k) (acc ++ [c]) := by
  rw [h.inv, List.drop_eq_getElem_cons hq, hc, txt_plain _ _ h1 h2 hp, TxtR.more_more]
  have := h.lo
  congr 1; omega
theorem RL.esc {w wr : World} {l : Str} {k q : Nat} {acc : Str} (h : RL w l k q acc wr) (hq : q + 1 < l.length) (c d : UInt8) (hc : l[q] = c) (hd0 : l[q + 1] = d) (h1 : c.toNat = 92) (hd : escB d = true) :
    txt (l.drop k) = (txt (l.drop (q + 2))).more (q + 2 - k) (acc ++ [unesc d]) := by
  rw [h.inv, List.drop_eq_getElem_cons (show q < l.length by omega), List.drop_eq_getElem_cons hq, hc, hd0, txt_back _ _ _ h1 hd, TxtR.more_more]
  have := h.lo
  congr 1; omega
theorem conv_one (c : UInt8) (w : World) : (convert 61 9 (.slice (some ⟨w.heap.size, 0, none⟩) 1 1)).run Tryz.prog (w.alloc (.cells #[.int .u8 (c.toNat : Int)] 5)) = .ok (.string (bstr [c])) (w.alloc (.cells #[.int .u8 (c.toNat : Int)] 5)) :=
  conv_bytes (l := [c]) rfl (Rd.lit w #[.int .u8 (c.toNat : Int)] 5 rfl)

set_option maxRecDepth 100000 in
set_option maxHeartbeats 3000000 in
theorem refText_any (A : Option Addr) (l : Str) (cp k : Nat) (w : World) (hr : Rd w 1 A l.length (u8s l)) (hk : k ≤ l.length) (hm : l.length ≤ 1048576) :
    Calls Tryz.prog 136 #[.slice A l.length cp, .int .i64 (k : Int)] w fun e w' => RefTxtRes (txt (l.drop k)) k w e w' := by
  obtain ⟨r, hres⟩ : ∃ r, txt (l.drop k) = r := ⟨_, rfl⟩
  have HR := Lib.hid hres
  rw [hres]
  have HRD := Lib.hid hr
  clear hres hr
  go_enter Tryz.func136, Tryz.ntmps136
  go_wp2_with fail
  go_loopw [1, 7] (fun i z wr => ∃ (q : Nat) (acc : Str), i = .int .i64 q ∧ z = .string (bstr acc) ∧ RL w l k q acc wr) (fun i _ _ => l.length - (intOf i).toNat)
  case atStart => exact ⟨k, [], rfl, rfl, ⟨Nat.le_refl _, hk, by rw [Nat.sub_self, TxtR.more_nil], Below.refl _ _, by simp⟩⟩
  case round =>
    obtain ⟨q, acc, rfl, rfl, ht⟩ := hrel
    have HT := Lib.hid ht
    have hlo := ht.lo
    have hhi := ht.hi
    have hln := ht.len
    have hsz : (bstr acc).size ≤ 1048576 := by rw [bstr_size]; omega
    clear ht
    have z0 : (0 : Int) ≤ (q : Int) := by omega
    by_cases hq : q < l.length
    · have z1 : (q : Int) < (l.length : Int) := by omega
      obtain ⟨b, o, rfl, _, hcl⟩ := (HRD.out.below HT.out.b).byte (k := q) hq
      obtain ⟨c, hck⟩ : ∃ c, l[q] = c := ⟨_, rfl⟩
      have g0 := hcl q hq
      rw [hck] at g0
      have HCL := Lib.hid hcl
      have HCK := Lib.hid hck
      clear hcl hck
      have hd : l.drop q = c :: l.drop (q + 1) := by rw [List.drop_eq_getElem_cons hq, HCK.out]
      have HD := Lib.hid hd
      clear hd
      by_cases h34 : c.toNat = 34
      · have t34 : ((c.toNat : Int) == 34) = true := by rw [beq_iff_eq]; omega
        have hrr := HT.out.done (.ok [] 1) (by rw [HD.out]; exact txt_end _ _ h34)
        rw [HR.out] at hrr
        have HRES := Lib.hid hrr
        clear hrr h34
        go_wp2_with fail
        go_returns
        rw [HRES.out]
        show RefTxtRes (.ok (acc ++ []) (1 + (q - k))) k w _ _
        exact ⟨by rw [List.append_nil, show k + (1 + (q - k)) = q + 1 from by omega]; rfl, HT.out.b⟩
      · have t34 : ((c.toNat : Int) == 34) = false := by rw [beq_eq_false_iff_ne]; omega
        cases hp : plainB c with
        | false =>
          have hp2 : ¬ (32 ≤ c.toNat ∧ c.toNat ≤ 126) := of_decide_eq_false hp
          by_cases h32 : (c.toNat : Int) < 32
          · have h32' : ¬ (32 : Int) ≤ (c.toNat : Int) := by omega
            have hrr := HT.out.done (.bad 0) (by rw [HD.out]; exact txt_unplain _ _ hp)
            rw [HR.out] at hrr
            have HRES := Lib.hid hrr
            clear hrr hp hp2 h34
            go_wp2_with fail
            go_returns
            rw [HRES.out]
            show RefTxtRes (.bad (0 + (q - k))) k w _ _
            exact ⟨by rw [show k + (0 + (q - k)) = q from by omega]; rfl, HT.out.b⟩
          · have h126 : (126 : Int) < (c.toNat : Int) := by omega
            have hrr := HT.out.done (.bad 0) (by rw [HD.out]; exact txt_unplain _ _ hp)
            rw [HR.out] at hrr
            have HRES := Lib.hid hrr
            clear hrr hp hp2 h34
            go_wp2_with fail
            go_returns
            rw [HRES.out]
            show RefTxtRes (.bad (0 + (q - k))) k w _ _
            exact ⟨by rw [show k + (0 + (q - k)) = q from by omega]; rfl, HT.out.b⟩
        | true =>
          have hp2 : 32 ≤ c.toNat ∧ c.toNat ≤ 126 := of_decide_eq_true hp
          have z3 : ¬ (c.toNat : Int) < 32 := by omega
          have z4 : ¬ (126 : Int) < (c.toNat : Int) := by omega
          by_cases h92 : c.toNat = 92
          · have t92 : ((c.toNat : Int) == 92) = true := by rw [beq_iff_eq]; omega
            by_cases hq1 : q + 1 < l.length
            · have z5 : ((q : Int) + 1 == (l.length : Int)) = false := by rw [beq_eq_false_iff_ne]; omega
              have z6 : (q : Int) + 1 < (l.length : Int) := by omega
              obtain ⟨d, hdk⟩ : ∃ d, l[q + 1] = d := ⟨_, rfl⟩
              have g1 := HCL.out (q + 1) hq1
              rw [hdk] at g1
              have hd2 : l.drop q = c :: d :: l.drop (q + 2) := by rw [HD.out, List.drop_eq_getElem_cons hq1, hdk]
              have HD2 := Lib.hid hd2
              cases hes : escB d with
              | true =>
                have HIV := Lib.hid (HT.out.esc hq1 c d HCK.out hdk h92 hes)
                have he3 := of_decide_eq_true hes
                clear hd2 hdk hp hp2 h34 h92 hes
                by_cases h110 : d.toNat = 110
                · have y0 : ((d.toNat : Int) != 110) = false := by simp; omega
                  have y1 : ((d.toNat : Int) == 110) = true := by rw [beq_iff_eq]; omega
                  have hu : unesc d = 10 := by unfold unesc; rw [if_pos h110]
                  have cv : (convert 61 9 (.slice (some ⟨wr.heap.size, 0, none⟩) 1 1)).run Tryz.prog (wr.alloc (.cells #[.int .u8 10] 5)) = .ok (.string (bstr [10])) (wr.alloc (.cells #[.int .u8 10] 5)) := conv_one 10 wr
                  have HB := Lib.hid (HT.out.b.alloc HT.out.b.size (.cells #[.int .u8 10] 5))
                  rw [hu] at HIV
                  have hs1 : (bstr [(10 : UInt8)]).size ≤ 1 := by rw [bstr_size]; simp
                  clear he3 hu h110
                  go_wp2_with fail
                  go_roundw
                  case rel => exact ⟨q + 2, acc ++ [10], by go_num, congrArg Value.string (bstr_app acc [10]), ⟨by omega, by omega, HIV.out, HB.out, by simp; omega⟩⟩
                  case measure => simp [intOf] <;> omega
                · have y0 : ((d.toNat : Int) != 110) = true := by simp; omega
                  have y1 : ((d.toNat : Int) == 110) = false := by rw [beq_eq_false_iff_ne]; omega
                  have hu : unesc d = d := by unfold unesc; rw [if_neg h110]
                  have cv := conv_one d wr
                  have HB := Lib.hid (HT.out.b.alloc HT.out.b.size (.cells #[.int .u8 (d.toNat : Int)] 5))
                  rw [hu] at HIV
                  have hs1 : (bstr [d]).size ≤ 1 := by rw [bstr_size]; simp
                  by_cases hd34 : d.toNat = 34
                  · have y2 : ((d.toNat : Int) != 34) = false := by simp; omega
                    clear he3 hu h110 hd34
                    go_wp2_with fail
                    go_roundw
                    case rel => exact ⟨q + 2, acc ++ [d], by go_num, congrArg Value.string (bstr_app acc [d]), ⟨by omega, by omega, HIV.out, HB.out, by simp; omega⟩⟩
                    case measure => simp [intOf] <;> omega
                  · have y2 : ((d.toNat : Int) != 34) = true := by simp; omega
                    have y3 : ((d.toNat : Int) != 92) = false := by simp; omega
                    clear he3 hu h110 hd34
                    go_wp2_with fail
                    go_roundw
                    case rel => exact ⟨q + 2, acc ++ [d], by go_num, congrArg Value.string (bstr_app acc [d]), ⟨by omega, by omega, HIV.out, HB.out, by simp; omega⟩⟩
                    case measure => simp [intOf] <;> omega
              | false =>
                have he3 : ¬ (d.toNat = 34 ∨ d.toNat = 92 ∨ d.toNat = 110) := of_decide_eq_false hes
                have y0 : ((d.toNat : Int) != 110) = true := by simp; omega
                have y2 : ((d.toNat : Int) != 34) = true := by simp; omega
                have y3 : ((d.toNat : Int) != 92) = true := by simp; omega
                have hrr := HT.out.done (.bad 1) (by rw [HD2.out]; exact txt_backbad _ _ _ h92 hes)
                rw [HR.out] at hrr
                have HRES := Lib.hid hrr
                clear hrr hd2 hdk hp hp2 h34 h92 hes he3
                go_wp2_with fail
                go_returns
                rw [HRES.out]
                show RefTxtRes (.bad (1 + (q - k))) k w _ _
                exact ⟨by rw [show k + (1 + (q - k)) = q + 1 from by omega]; rfl, HT.out.b⟩
            · have z5 : ((q : Int) + 1 == (l.length : Int)) = true := by rw [beq_iff_eq]; omega
              have hrr := HT.out.done (.bad 1) (by rw [HD.out, List.drop_of_length_le (by omega)]; exact txt_back0 _ h92)
              rw [HR.out] at hrr
              have HRES := Lib.hid hrr
              clear hrr hp hp2 h34 h92
              go_wp2_with fail
              go_returns
              rw [HRES.out]
              show RefTxtRes (.bad (1 + (q - k))) k w _ _
              exact ⟨by rw [show k + (1 + (q - k)) = q + 1 from by omega]; rfl, HT.out.b⟩
          · have t92 : ((c.toNat : Int) == 92) = false := by rw [beq_eq_false_iff_ne]; omega
            have HIV := Lib.hid (HT.out.plain hq c HCK.out h34 h92 hp)
            have cv := conv_one c wr
            have HB := Lib.hid (HT.out.b.alloc HT.out.b.size (.cells #[.int .u8 (c.toNat : Int)] 5))
            have hs1 : (bstr [c]).size ≤ 1 := by rw [bstr_size]; simp
            clear hp hp2 h34 h92
            go_wp2_with fail
            go_roundw
            case rel => exact ⟨q + 1, acc ++ [c], by go_num, congrArg Value.string (bstr_app acc [c]), ⟨by omega, by omega, HIV.out, HB.out, by simp; omega⟩⟩
            case measure => simp [intOf] <;> omega
    · have z1 : ¬ (q : Int) < (l.length : Int) := by omega
      have hrr := HT.out.done (.bad 0) (by rw [List.drop_of_length_le (by omega)]; rfl)
      rw [HR.out] at hrr
      have HRES := Lib.hid hrr
      clear hrr
      go_wp2_with fail
      go_returns
      rw [HRES.out]
      show RefTxtRes (.bad (0 + (q - k))) k w _ _
      exact ⟨by rw [show k + (0 + (q - k)) = q from by omega]; rfl, HT.out.b⟩
end Go.Proofs.YtaglmmcjhlehjaaGreatDoor
