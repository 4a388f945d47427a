/-
  Texts.
  One token, and all tokens, by the code.
  All tokens, by the code.
  Quoted texts, by the code.
-/
import Derived.Test.YtaglmmcjhlehjaaGreatDoorK01
import Derived.Test.YtaglmmcjhlehjaaGreatDoorK00
namespace Go.Proofs.YtaglmmcjhlehjaaGreatDoor
open Go.ChangeShapes Go.WideShapes Go.ChangeAt Go.RowKit
set_option linter.unusedVariables false
set_option linter.unusedSimpArgs false

theorem TC.belowB {B : Nat} {w w' : World} {g : Nat} {u0 u1 u2 u3 : Value} (h : TC w g u0 u1 u2 u3) (hb : Below B w w') (hg : g < B) : TC w' g u0 u1 u2 u3 :=
  ⟨(hb.cell (p := ⟨g, 0, none⟩) hg).trans h.c0, (hb.cell (p := ⟨g, 1, none⟩) hg).trans h.c1, (hb.cell (p := ⟨g, 2, none⟩) hg).trans h.c2, (hb.cell (p := ⟨g, 3, none⟩) hg).trans h.c3,
    (hb.frozen (p := ⟨g, 0, none⟩) hg).trans h.f0, (hb.frozen (p := ⟨g, 1, none⟩) hg).trans h.f1, (hb.frozen (p := ⟨g, 2, none⟩) hg).trans h.f2, (hb.frozen (p := ⟨g, 3, none⟩) hg).trans h.f3⟩
theorem Mk.belowB {B : Nat} {w0 w w' : World} {u0 u1 u2 u3 : Value} (h : Mk w0 w u0 u1 u2 u3) (hb : Below B w w') (hg : w0.heap.size < B) : Mk w0 w' u0 u1 u2 u3 :=
  ⟨h.tc.belowB hb hg, h.b.trans (hb.mono (Nat.le_of_lt hg)), Nat.lt_of_lt_of_le h.lt hb.size⟩

/-- What stands while a text is read: the place, the bytes that it stands for so far. -/
structure TL (w : World) (l : Str) (k q : Nat) (acc : Str) (z : Value) (wr : World) : Prop where
  lo : k + 1 ≤ q
  hi : q ≤ l.length
  inv : txt (l.drop (k + 1)) = (txt (l.drop q)).more (q - (k + 1)) acc
  own : wr.ownsRow (w.heap.size + 1) 5 1 z acc.length (u8s acc)
  wm : Mk0 w wr
  len : acc.length ≤ q
theorem TL.plain {w wr : World} {l : Str} {k q : Nat} {acc : Str} {z : Value} (h : TL w l k q acc z wr) (hq : q < l.length) (h1 : l[q].toNat ≠ 34) (h2 : l[q].toNat ≠ 92) (hp : plainB l[q] = true) :
    txt (l.drop (k + 1)) = (txt (l.drop (q + 1))).more (q + 1 - (k + 1)) (acc ++ [l[q]]) := by
  rw [h.inv, List.drop_eq_getElem_cons hq, txt_plain _ _ h1 h2 hp, TxtR.more_more]
  have := h.lo
  congr 1; omega
theorem TL.esc {w wr : World} {l : Str} {k q : Nat} {acc : Str} {z : Value} (h : TL w l k q acc z wr) (hq : q + 1 < l.length) (h1 : l[q].toNat = 92) (hd : escB l[q + 1] = true) :
    txt (l.drop (k + 1)) = (txt (l.drop (q + 2))).more (q + 2 - (k + 1)) (acc ++ [unesc l[q + 1]]) := by
  rw [h.inv, List.drop_eq_getElem_cons (show q < l.length by omega), List.drop_eq_getElem_cons hq, txt_back _ _ _ h1 hd, TxtR.more_more]
  have := h.lo
  congr 1; omega
theorem TL.bad0 {w wr : World} {l : Str} {k q : Nat} {acc : Str} {z : Value} (h : TL w l k q acc z wr) (o : Nat) (e : txt (l.drop q) = .bad o) : textR (txt (l.drop (k + 1))) = .bad (q + o - k) := by
  rw [h.inv, e]
  unfold TxtR.more textR
  simp only
  have := h.lo
  congr 1; omega

set_option maxRecDepth 100000 in
set_option maxHeartbeats 3000000 in
theorem text_any (A : Option Addr) (l : Str) (cp k : Nat) (w : World) (hr : Rd w 1 A l.length (u8s l)) (hk : k < l.length) (hcap : l.length ≤ cp) (hm : l.length ≤ 1048576) :
    Calls Tryz.prog 152 #[.slice A l.length cp, .int .i64 (k : Int)] w fun e w' => OneRes (textR (txt (l.drop (k + 1)))) k w e w' := by
  obtain ⟨b, o, rfl, hb, hcl⟩ := hr.byte (k := k) hk
  obtain ⟨r, hres⟩ : ∃ r, textR (txt (l.drop (k + 1))) = r := ⟨_, rfl⟩
  have HR := Lib.hid hres
  rw [hres]
  have HM := Lib.hid (mk_new w)
  have HG := Lib.hid (show ∀ (q : Nat) (hq : q < l.length) w', Below w.heap.size w w' → w'.cell? ⟨b, o + q, none⟩ = some (.int .u8 (l[q].toNat : Int)) from fun q hq w' hb' => cell_below hb' (hcl q hq))
  clear hres hcl hr
  go_enter Tryz.func152, Tryz.ntmps152
  go_wp2_with fail
  have htl0 : TL w l k (k + 1) [] (.slice none 0 0) (w.alloc zeroTok) := ⟨Nat.le_refl _, by omega, by rw [Nat.sub_self, TxtR.more_nil], World.ownsRow_nil _ _ _ _, HM.out, by simp⟩
  have HT0 := Lib.hid htl0
  clear htl0
  generalize w.alloc zeroTok = wa at *
  go_loopw [7, 8] (fun z i wr => ∃ (q : Nat) (acc : Str), i = .int .i64 q ∧ TL w l k q acc z wr) (fun _ i _ => l.length - (intOf i).toNat)
  case atStart => exact ⟨k + 1, [], by go_num, HT0.out⟩
  case round =>
    obtain ⟨q, acc, rfl, ht⟩ := hrel
    obtain ⟨A1, c1, hz, _, _, _⟩ := own_cap ht.own
    subst hz
    have HT := Lib.hid ht
    have hlo := ht.lo
    have hhi := ht.hi
    have hln := ht.len
    have HMK := Lib.hid ht.wm
    clear ht HM HT0
    have z0 : (0 : Int) ≤ (q : Int) := by omega
    by_cases hq : q < l.length
    · have z1 : (q : Int) < (l.length : Int) := by omega
      have g0 := HG.out q hq _ HMK.out.b
      by_cases h34 : l[q].toNat = 34
      · have e : txt (l.drop q) = .ok [] 1 := by rw [List.drop_eq_getElem_cons hq]; exact txt_end _ _ h34
        have t34 : ((l[q].toNat : Int) == 34) = true := by rw [beq_iff_eq]; omega
        have hrr : textR (txt (l.drop (k + 1))) = if 2000 < acc.length then .bad 0 else .ok ⟨5, 0, acc⟩ (q - k + 1) := by
          rw [HT.out.inv, e]
          unfold TxtR.more textR
          simp only [List.append_nil]
          split
          · rfl
          · congr 1; omega
        rw [HR.out] at hrr
        by_cases h20 : 2000 < acc.length
        · rw [if_pos h20] at hrr
          have HRES := Lib.hid hrr
          have h20i : (2000 : Int) < (acc.length : Int) := by omega
          clear hrr e h34 h20
          go_wp2_with fail
          clear g0
          refine (bad_any (k) _).mono ?_
          rintro e w2 ⟨v, rfl, hv, hb2⟩
          have HV := Lib.hid hv
          have HM2 := Lib.hid (HMK.out.below hb2)
          clear hv hb2
          obtain ⟨c0, c1, c2, c3, f0, f1, f2, f3⟩ := HM2.out.tc
          unfold tok0
          go_wp2_with fail
          have HM3 := Lib.hid (HM2.out.set (.int .i64 0) (.int .i64 0) (.int .i64 0) (.string ⟨#[]⟩))
          obtain ⟨q0, q1, q2, q3, _, _, _, _⟩ := HM3.out.tc
          unfold set4 at q0 q1 q2 q3
          refine bodyPost_ret (v := .tuple #[tok0, .int .i64 0, v]) (by simp [results, Tryz.results152, go_sem, q0, q1, q2, q3]; rfl) rfl ?_
          rw [HRES.out]
          show BadRes (k + (0)) w _ _
          rw [show k + (0) = k from by omega]
          exact ⟨v, rfl, (HV.out.set4 HMK.out.lt _ _ _ _).mono (Nat.le_of_lt HMK.out.lt), HM3.out.b⟩
        · rw [if_neg h20] at hrr
          have HRES := Lib.hid hrr
          have h20i : ¬ (2000 : Int) < (acc.length : Int) := by omega
          have cv := conv_bytes (c := c1) rfl (Rd.of_own HT.out.own)
          obtain ⟨c0, c1', c2, c3, f0, f1, f2, f3⟩ := HMK.out.tc
          have HM3 := Lib.hid (HMK.out.set (.int .i64 5) (.int .i64 (k : Int)) (.int .i64 0) (.string (bstr acc)))
          clear hrr e h34 h20
          go_wp2_with fail
          obtain ⟨q0, q1, q2, q3, _, _, _, _⟩ := HM3.out.tc
          unfold set4 at q0 q1 q2 q3
          refine bodyPost_ret (v := .tuple #[tokV ⟨5, k, 0, acc⟩, .int .i64 ((q + 1 : Nat) : Int), .nilIface]) (by simp [results, Tryz.results152, go_sem, q0, q1, q2, q3, tokV]) rfl ?_
          rw [HRES.out]
          exact ⟨by rw [show k + (q - k + 1) = q + 1 from by omega]; rfl, HM3.out.b⟩
      · have t34 : ((l[q].toNat : Int) == 34) = false := by rw [beq_eq_false_iff_ne]; omega
        by_cases h92 : l[q].toNat = 92
        · have t92 : ((l[q].toNat : Int) == 92) = true := by rw [beq_iff_eq]; omega
          by_cases hq1 : q + 1 < l.length
          · have z2 : ((q : Int) + 1 == (l.length : Int)) = false := by rw [beq_eq_false_iff_ne]; omega
            have z3 : (q : Int) + 1 < (l.length : Int) := by omega
            have g1 := HG.out (q + 1) hq1 _ HMK.out.b
            have g1' := g1
            rw [show o + (q + 1) = o + q + 1 from by omega] at g1'
            cases hd : escB l[q + 1] with
            | true =>
              have hiv := HT.out.esc hq1 h92 hd
              have HIV := Lib.hid hiv
              have HES := Lib.hid (escaped_any l[q + 1])
              rw [hd, if_pos rfl] at HES
              clear hiv hd h92 h34
              go_wp2_with fail
              refine (HES.out wr).mono ?_
              rintro e w1 ⟨rfl, rfl⟩
              clear g0 g1 g1'
              go_wp2_with (at_builtin; refine wpList_app elU8 _ rfl (.tmp 78) (.tmp 80) rfl (w.heap.size + 1) (.slice A1 acc.length c1) acc.length _ rfl (HT.out.own.alloc _) (some ⟨wr.heap.size, 0, none⟩) 1 1 _ rfl (Rd.lit wr _ _ rfl) (one_u8 _) (by omega) (by have := HT.out.wm.lt; simp; omega) ?_; intro v' w6 hown6 hb6 hg6 ho6)
              have hmk6 : Mk0 w w6 := (HT.out.wm.below ((Below.refl _ _).alloc (Nat.le_refl _) _)).belowB hb6 (Nat.lt_succ_self _)
              have hown7 : w6.ownsRow (w.heap.size + 1) 5 1 v' (acc ++ [unesc l[q + 1]]).length (u8s (acc ++ [unesc l[q + 1]])) := by
                rw [u8s_append, List.length_append]; exact hown6
              have HN := Lib.hid (show TL w l k (q + 2) (acc ++ [unesc l[q + 1]]) v' w6 from ⟨by have := HT.out.lo; omega, by omega, HIV.out, hown7, hmk6, by have := HT.out.len; simp; omega⟩)
              clear hown6 hb6 hg6 ho6 hmk6 hown7
              go_wp2_with fail
              go_roundw
              case rel => exact ⟨q + 2, acc ++ [unesc l[q + 1]], by go_num, HN.out⟩
              case measure => simp [intOf] <;> omega
            | false =>
              have e : txt (l.drop q) = .bad 1 := by
                rw [List.drop_eq_getElem_cons hq, List.drop_eq_getElem_cons hq1]; exact txt_backbad _ _ _ h92 hd
              have hrr := HT.out.bad0 1 e
              rw [HR.out] at hrr
              have HRES := Lib.hid hrr
              have HES := Lib.hid (escaped_any l[q + 1])
              rw [hd] at HES
              clear hrr hd h92 h34 e
              go_wp2_with fail
              refine (HES.out wr).mono ?_
              rintro e w1 ⟨rfl, rfl⟩
              clear g0 g1 g1'
              go_wp2_with fail
              refine (bad_any (q + 1) _).mono ?_
              rintro e w2 ⟨v, rfl, hv, hb2⟩
              have HV := Lib.hid hv
              have HM2 := Lib.hid (HMK.out.below hb2)
              clear hv hb2
              obtain ⟨c0, c1, c2, c3, f0, f1, f2, f3⟩ := HM2.out.tc
              unfold tok0
              go_wp2_with fail
              have HM3 := Lib.hid (HM2.out.set (.int .i64 0) (.int .i64 0) (.int .i64 0) (.string ⟨#[]⟩))
              obtain ⟨q0, q1, q2, q3, _, _, _, _⟩ := HM3.out.tc
              unfold set4 at q0 q1 q2 q3
              refine bodyPost_ret (v := .tuple #[tok0, .int .i64 0, v]) (by simp [results, Tryz.results152, go_sem, q0, q1, q2, q3]; rfl) rfl ?_
              rw [HRES.out]
              show BadRes (k + (q + 1 - k)) w _ _
              rw [show k + (q + 1 - k) = q + 1 from by omega]
              exact ⟨v, rfl, (HV.out.set4 HMK.out.lt _ _ _ _).mono (Nat.le_of_lt HMK.out.lt), HM3.out.b⟩
          · have z2 : ((q : Int) + 1 == (l.length : Int)) = true := by rw [beq_iff_eq]; omega
            have e : txt (l.drop q) = .bad 1 := by
              rw [List.drop_eq_getElem_cons hq, List.drop_of_length_le (by omega)]; exact txt_back0 _ h92
            have hrr := HT.out.bad0 1 e
            rw [HR.out] at hrr
            have HRES := Lib.hid hrr
            clear hrr h92 h34 e
            go_wp2_with fail
            clear g0
            refine (bad_any (q + 1) _).mono ?_
            rintro e w2 ⟨v, rfl, hv, hb2⟩
            have HV := Lib.hid hv
            have HM2 := Lib.hid (HMK.out.below hb2)
            clear hv hb2
            obtain ⟨c0, c1, c2, c3, f0, f1, f2, f3⟩ := HM2.out.tc
            unfold tok0
            go_wp2_with fail
            have HM3 := Lib.hid (HM2.out.set (.int .i64 0) (.int .i64 0) (.int .i64 0) (.string ⟨#[]⟩))
            obtain ⟨q0, q1, q2, q3, _, _, _, _⟩ := HM3.out.tc
            unfold set4 at q0 q1 q2 q3
            refine bodyPost_ret (v := .tuple #[tok0, .int .i64 0, v]) (by simp [results, Tryz.results152, go_sem, q0, q1, q2, q3]; rfl) rfl ?_
            rw [HRES.out]
            show BadRes (k + (q + 1 - k)) w _ _
            rw [show k + (q + 1 - k) = q + 1 from by omega]
            exact ⟨v, rfl, (HV.out.set4 HMK.out.lt _ _ _ _).mono (Nat.le_of_lt HMK.out.lt), HM3.out.b⟩
        · have t92 : ((l[q].toNat : Int) == 92) = false := by rw [beq_eq_false_iff_ne]; omega
          cases hp : plainB l[q] with
          | true =>
            have HIV := Lib.hid (HT.out.plain hq h34 h92 hp)
            have HPL := Lib.hid (isPlain_any l[q])
            rw [hp] at HPL
            clear hp h92 h34
            go_wp2_with fail
            refine (HPL.out wr).mono ?_
            rintro e w1 ⟨rfl, rfl⟩
            clear g0
            go_wp2_with (at_builtin; refine wpList_app elU8 _ rfl (.tmp 78) (.tmp 80) rfl (w.heap.size + 1) (.slice A1 acc.length c1) acc.length _ rfl (HT.out.own.alloc _) (some ⟨wr.heap.size, 0, none⟩) 1 1 _ rfl (Rd.lit wr _ _ rfl) (one_u8 _) (by omega) (by have := HT.out.wm.lt; simp; omega) ?_; intro v' w6 hown6 hb6 hg6 ho6)
            have hmk6 : Mk0 w w6 := (HT.out.wm.below ((Below.refl _ _).alloc (Nat.le_refl _) _)).belowB hb6 (Nat.lt_succ_self _)
            have hown7 : w6.ownsRow (w.heap.size + 1) 5 1 v' (acc ++ [l[q]]).length (u8s (acc ++ [l[q]])) := by
              rw [u8s_append, List.length_append]; exact hown6
            have HN := Lib.hid (show TL w l k (q + 1) (acc ++ [l[q]]) v' w6 from ⟨by have := HT.out.lo; omega, by omega, HIV.out, hown7, hmk6, by have := HT.out.len; simp; omega⟩)
            clear hown6 hb6 hg6 ho6 hmk6 hown7
            go_wp2_with fail
            go_roundw
            case rel => exact ⟨q + 1, acc ++ [l[q]], by go_num, HN.out⟩
            case measure => simp [intOf] <;> omega
          | false =>
            have e : txt (l.drop q) = .bad 0 := by
              rw [List.drop_eq_getElem_cons hq]; exact txt_unplain _ _ hp
            have hrr := HT.out.bad0 0 e
            rw [HR.out] at hrr
            have HRES := Lib.hid hrr
            have HPL := Lib.hid (isPlain_any l[q])
            rw [hp] at HPL
            clear hrr hp h92 h34 e
            go_wp2_with fail
            refine (HPL.out wr).mono ?_
            rintro e w1 ⟨rfl, rfl⟩
            clear g0
            go_wp2_with fail
            refine (bad_any (q) _).mono ?_
            rintro e w2 ⟨v, rfl, hv, hb2⟩
            have HV := Lib.hid hv
            have HM2 := Lib.hid (HMK.out.below hb2)
            clear hv hb2
            obtain ⟨c0, c1, c2, c3, f0, f1, f2, f3⟩ := HM2.out.tc
            unfold tok0
            go_wp2_with fail
            have HM3 := Lib.hid (HM2.out.set (.int .i64 0) (.int .i64 0) (.int .i64 0) (.string ⟨#[]⟩))
            obtain ⟨q0, q1, q2, q3, _, _, _, _⟩ := HM3.out.tc
            unfold set4 at q0 q1 q2 q3
            refine bodyPost_ret (v := .tuple #[tok0, .int .i64 0, v]) (by simp [results, Tryz.results152, go_sem, q0, q1, q2, q3]; rfl) rfl ?_
            rw [HRES.out]
            show BadRes (k + (q + 0 - k)) w _ _
            rw [show k + (q + 0 - k) = q from by omega]
            exact ⟨v, rfl, (HV.out.set4 HMK.out.lt _ _ _ _).mono (Nat.le_of_lt HMK.out.lt), HM3.out.b⟩
    · have z1 : ¬ (q : Int) < (l.length : Int) := by omega
      have e : txt (l.drop q) = .bad 0 := by rw [List.drop_of_length_le (by omega)]; rfl
      have hrr := HT.out.bad0 0 e
      rw [HR.out] at hrr
      have HRES := Lib.hid hrr
      clear hrr e
      go_wp2_with fail
      refine (bad_any (l.length) _).mono ?_
      rintro e w2 ⟨v, rfl, hv, hb2⟩
      have HV := Lib.hid hv
      have HM2 := Lib.hid (HMK.out.below hb2)
      clear hv hb2
      obtain ⟨c0, c1, c2, c3, f0, f1, f2, f3⟩ := HM2.out.tc
      unfold tok0
      go_wp2_with fail
      have HM3 := Lib.hid (HM2.out.set (.int .i64 0) (.int .i64 0) (.int .i64 0) (.string ⟨#[]⟩))
      obtain ⟨q0, q1, q2, q3, _, _, _, _⟩ := HM3.out.tc
      unfold set4 at q0 q1 q2 q3
      refine bodyPost_ret (v := .tuple #[tok0, .int .i64 0, v]) (by simp [results, Tryz.results152, go_sem, q0, q1, q2, q3]; rfl) rfl ?_
      rw [HRES.out]
      show BadRes (k + (q + 0 - k)) w _ _
      rw [show k + (q + 0 - k) = l.length from by omega]
      exact ⟨v, rfl, (HV.out.set4 HMK.out.lt _ _ _ _).mono (Nat.le_of_lt HMK.out.lt), HM3.out.b⟩
end Go.Proofs.YtaglmmcjhlehjaaGreatDoor

namespace Go.Proofs.YtaglmmcjhlehjaaGreatDoor
open Go.ChangeShapes Go.WideShapes Go.ChangeAt Go.RowKit
set_option linter.unusedVariables false
set_option linter.unusedSimpArgs false

theorem OneRes.up {w wa w2 : World} {r : OneR} {k : Nat} {e : Ending} (h : OneRes r k wa e w2) (hm : Mk0 w wa) :
    ∃ v0 v1 v2 v3 n ev, e = .returned (.tuple #[.agg #[.int .i64 v0, .int .i64 v1, .int .i64 v2, .string v3], .int .i64 n, ev]) ∧ Mk0 w w2 ∧ OneRes r k w (.returned (.tuple #[.agg #[.int .i64 v0, .int .i64 v1, .int .i64 v2, .string v3], .int .i64 n, ev])) (set4 w2 w.heap.size (.int .i64 v0) (.int .i64 v1) (.int .i64 v2) (.string v3)) := by
  cases r with
  | ok t n =>
    obtain ⟨rfl, hb⟩ := h
    have hm2 := hm.below hb
    exact ⟨_, _, _, _, _, _, rfl, hm2, rfl, (hm2.set _ _ _ _).b⟩
  | bad o =>
    obtain ⟨v, rfl, hv, hb⟩ := h
    have hm2 := hm.below hb
    exact ⟨_, _, _, _, _, _, rfl, hm2, v, rfl, (hv.set4 hm.lt _ _ _ _).mono (Nat.le_of_lt hm.lt), (hm2.set _ _ _ _).b⟩

set_option maxRecDepth 100000 in
set_option maxHeartbeats 3000000 in
theorem next_any (A : Option Addr) (l : Str) (cp k : Nat) (w : World) (hL : Lay w) (hr : Rd w 1 A l.length (u8s l)) (hk : k < l.length) (hcap : l.length ≤ cp) (hm : l.length ≤ 1048576) :
    Calls Tryz.prog 141 #[.slice A l.length cp, .int .i64 (k : Int)] w fun e w' => OneRes (one (l.drop k)) k w e w' := by
  obtain ⟨c, hck⟩ : ∃ c, l[k] = c := ⟨_, rfl⟩
  obtain ⟨b, o, rfl, hb, hcl⟩ := hr.byte (k := k) hk
  have HM := Lib.hid (mk_new w)
  have g0 := cell_alloc (o := zeroTok) (hcl k hk)
  rw [hck] at g0
  have hd : l.drop k = c :: l.drop (k + 1) := by rw [List.drop_eq_getElem_cons hk, hck]
  have HN := Lib.hid (fun hp => namedName_any (some ⟨b, o, none⟩) l cp k (w.alloc zeroTok) (hr.alloc _) hk (by rw [hck]; exact hp) hcap hm)
  have HT := Lib.hid (fun hp => namedTag_any (some ⟨b, o, none⟩) l cp k (w.alloc zeroTok) (hr.alloc _) hk (by rw [hck]; exact hp) hcap hm)
  have HU := Lib.hid (fun hp => number_any (some ⟨b, o, none⟩) l cp k (w.alloc zeroTok) (hL.below (mk_new w).b) (hr.alloc _) hk c hck hp hcap hm)
  have HX := Lib.hid (text_any (some ⟨b, o, none⟩) l cp k (w.alloc zeroTok) (hr.alloc _) hk hcap hm)
  have HS := Lib.hid (sign_any (some ⟨b, o, none⟩) l cp k (w.alloc zeroTok) (hr.alloc _) hk c hck hcap hm)
  rw [hd] at HN HT HU HS ⊢
  rw [one_cons]
  have e0 : (0 : Int) ≤ (k : Int) := by omega
  have e1 : (k : Int) < (l.length : Int) := by omega
  have hnm : lowB c = true → nameB c = true := fun h => by unfold nameB; rw [h]; rfl
  have htg : highB c = true → tagB c = true := fun h => by unfold tagB; rw [h]; simp
  clear hcl hr hck hd hL
  cases h1 : lowB c with
  | true =>
    rw [if_pos rfl]
    have HC := Lib.hid (HN.out (hnm h1))
    have H1 := Lib.hid h1
    clear HN HT HU HX HS hnm htg h1
    obtain ⟨r, hrr⟩ : ∃ r, nameR 1 ((c :: l.drop (k + 1)).takeWhile nameB) = r := ⟨_, rfl⟩
    rw [hrr] at HC ⊢
    clear hrr
    go_enter Tryz.func141, Tryz.ntmps141
    go_wp2_with fail
    generalize w.alloc zeroTok = wa at *
    refine (isLower_any c wa).mono ?_
    rw [H1.out]
    rintro e w1 ⟨rfl, rfl⟩
    go_wp2_with fail
    refine HC.out.mono ?_
    rintro e w2 ho
    obtain ⟨v0, v1, v2, v3, n, ev, rfl, hm2, hres⟩ := ho.up HM.out
    have HRES := Lib.hid hres
    have HM3 := Lib.hid (hm2.set (.int .i64 v0) (.int .i64 v1) (.int .i64 v2) (.string v3))
    obtain ⟨c0, c1, c2, c3, f0, f1, f2, f3⟩ := hm2.tc
    clear ho hm2 hres
    go_wp2_with fail
    obtain ⟨q0, q1, q2, q3, _, _, _, _⟩ := HM3.out.tc
    unfold set4 at q0 q1 q2 q3
    refine bodyPost_ret (v := .tuple #[.agg #[.int .i64 v0, .int .i64 v1, .int .i64 v2, .string v3], .int .i64 n, ev]) (by simp [results, Tryz.results141, go_sem, q0, q1, q2, q3]) rfl ?_
    exact HRES.out
  | false =>
    rw [if_neg (by simp)]
    have H1 := Lib.hid h1
    clear h1 hnm HN
    cases h2 : highB c with
    | true =>
      rw [if_pos rfl]
      have HC := Lib.hid (HT.out (htg h2))
      have H2 := Lib.hid h2
      clear HT HU HX HS htg h2
      obtain ⟨r, hrr⟩ : ∃ r, nameR 3 ((c :: l.drop (k + 1)).takeWhile tagB) = r := ⟨_, rfl⟩
      rw [hrr] at HC ⊢
      clear hrr
      go_enter Tryz.func141, Tryz.ntmps141
      go_wp2_with fail
      generalize w.alloc zeroTok = wa at *
      refine (isLower_any c wa).mono ?_
      rw [H1.out]
      rintro e w1 ⟨rfl, rfl⟩
      go_wp2_with fail
      refine (isUpper_any c wa).mono ?_
      rw [H2.out]
      rintro e w1 ⟨rfl, rfl⟩
      go_wp2_with fail
      refine HC.out.mono ?_
      rintro e w2 ho
      obtain ⟨v0, v1, v2, v3, n, ev, rfl, hm2, hres⟩ := ho.up HM.out
      have HRES := Lib.hid hres
      have HM3 := Lib.hid (hm2.set (.int .i64 v0) (.int .i64 v1) (.int .i64 v2) (.string v3))
      obtain ⟨c0, c1, c2, c3, f0, f1, f2, f3⟩ := hm2.tc
      clear ho hm2 hres
      go_wp2_with fail
      obtain ⟨q0, q1, q2, q3, _, _, _, _⟩ := HM3.out.tc
      unfold set4 at q0 q1 q2 q3
      refine bodyPost_ret (v := .tuple #[.agg #[.int .i64 v0, .int .i64 v1, .int .i64 v2, .string v3], .int .i64 n, ev]) (by simp [results, Tryz.results141, go_sem, q0, q1, q2, q3]) rfl ?_
      exact HRES.out
    | false =>
      rw [if_neg (by simp)]
      have H2 := Lib.hid h2
      clear h2 htg HT
      cases h3 : digB c with
      | true =>
        rw [if_pos rfl]
        have HC := Lib.hid (HU.out h3)
        have H3 := Lib.hid h3
        clear HU HX HS h3
        obtain ⟨r, hrr⟩ : ∃ r, numR ((c :: l.drop (k + 1)).takeWhile digB) = r := ⟨_, rfl⟩
        rw [hrr] at HC ⊢
        clear hrr
        go_enter Tryz.func141, Tryz.ntmps141
        go_wp2_with fail
        generalize w.alloc zeroTok = wa at *
        refine (isLower_any c wa).mono ?_
        rw [H1.out]
        rintro e w1 ⟨rfl, rfl⟩
        go_wp2_with fail
        refine (isUpper_any c wa).mono ?_
        rw [H2.out]
        rintro e w1 ⟨rfl, rfl⟩
        go_wp2_with fail
        refine (isDigit_any c wa).mono ?_
        rw [H3.out]
        rintro e w1 ⟨rfl, rfl⟩
        go_wp2_with fail
        refine HC.out.mono ?_
        rintro e w2 ho
        obtain ⟨v0, v1, v2, v3, n, ev, rfl, hm2, hres⟩ := ho.up HM.out
        have HRES := Lib.hid hres
        have HM3 := Lib.hid (hm2.set (.int .i64 v0) (.int .i64 v1) (.int .i64 v2) (.string v3))
        obtain ⟨c0, c1, c2, c3, f0, f1, f2, f3⟩ := hm2.tc
        clear ho hm2 hres
        go_wp2_with fail
        obtain ⟨q0, q1, q2, q3, _, _, _, _⟩ := HM3.out.tc
        unfold set4 at q0 q1 q2 q3
        refine bodyPost_ret (v := .tuple #[.agg #[.int .i64 v0, .int .i64 v1, .int .i64 v2, .string v3], .int .i64 n, ev]) (by simp [results, Tryz.results141, go_sem, q0, q1, q2, q3]) rfl ?_
        exact HRES.out
      | false =>
        rw [if_neg (by simp)]
        have H3 := Lib.hid h3
        clear h3 HU
        by_cases h4 : c.toNat = 34
        · rw [if_pos h4]
          have HC := Lib.hid HX.out
          have z4 : ((c.toNat : Int) == 34) = true := by rw [beq_iff_eq]; omega
          clear HX HS h4
          obtain ⟨r, hrr⟩ : ∃ r, textR (txt (l.drop (k + 1))) = r := ⟨_, rfl⟩
          rw [hrr] at HC ⊢
          clear hrr
          go_enter Tryz.func141, Tryz.ntmps141
          go_wp2_with fail
          generalize w.alloc zeroTok = wa at *
          refine (isLower_any c wa).mono ?_
          rw [H1.out]
          rintro e w1 ⟨rfl, rfl⟩
          go_wp2_with fail
          refine (isUpper_any c wa).mono ?_
          rw [H2.out]
          rintro e w1 ⟨rfl, rfl⟩
          go_wp2_with fail
          refine (isDigit_any c wa).mono ?_
          rw [H3.out]
          rintro e w1 ⟨rfl, rfl⟩
          go_wp2_with fail
          refine HC.out.mono ?_
          rintro e w2 ho
          obtain ⟨v0, v1, v2, v3, n, ev, rfl, hm2, hres⟩ := ho.up HM.out
          have HRES := Lib.hid hres
          have HM3 := Lib.hid (hm2.set (.int .i64 v0) (.int .i64 v1) (.int .i64 v2) (.string v3))
          obtain ⟨c0, c1, c2, c3, f0, f1, f2, f3⟩ := hm2.tc
          clear ho hm2 hres
          go_wp2_with fail
          obtain ⟨q0, q1, q2, q3, _, _, _, _⟩ := HM3.out.tc
          unfold set4 at q0 q1 q2 q3
          refine bodyPost_ret (v := .tuple #[.agg #[.int .i64 v0, .int .i64 v1, .int .i64 v2, .string v3], .int .i64 n, ev]) (by simp [results, Tryz.results141, go_sem, q0, q1, q2, q3]) rfl ?_
          exact HRES.out
        · rw [if_neg h4]
          have HC := Lib.hid HS.out
          have z4 : ((c.toNat : Int) == 34) = false := by rw [beq_eq_false_iff_ne]; omega
          clear HX HS h4
          obtain ⟨r, hrr⟩ : ∃ r, signR c (c :: l.drop (k + 1)) = r := ⟨_, rfl⟩
          rw [hrr] at HC ⊢
          clear hrr
          go_enter Tryz.func141, Tryz.ntmps141
          go_wp2_with fail
          generalize w.alloc zeroTok = wa at *
          refine (isLower_any c wa).mono ?_
          rw [H1.out]
          rintro e w1 ⟨rfl, rfl⟩
          go_wp2_with fail
          refine (isUpper_any c wa).mono ?_
          rw [H2.out]
          rintro e w1 ⟨rfl, rfl⟩
          go_wp2_with fail
          refine (isDigit_any c wa).mono ?_
          rw [H3.out]
          rintro e w1 ⟨rfl, rfl⟩
          go_wp2_with fail
          refine HC.out.mono ?_
          rintro e w2 ho
          obtain ⟨v0, v1, v2, v3, n, ev, rfl, hm2, hres⟩ := ho.up HM.out
          have HRES := Lib.hid hres
          have HM3 := Lib.hid (hm2.set (.int .i64 v0) (.int .i64 v1) (.int .i64 v2) (.string v3))
          obtain ⟨c0, c1, c2, c3, f0, f1, f2, f3⟩ := hm2.tc
          clear ho hm2 hres
          go_wp2_with fail
          obtain ⟨q0, q1, q2, q3, _, _, _, _⟩ := HM3.out.tc
          unfold set4 at q0 q1 q2 q3
          refine bodyPost_ret (v := .tuple #[.agg #[.int .i64 v0, .int .i64 v1, .int .i64 v2, .string v3], .int .i64 n, ev]) (by simp [results, Tryz.results141, go_sem, q0, q1, q2, q3]) rfl ?_
          exact HRES.out
end Go.Proofs.YtaglmmcjhlehjaaGreatDoor

namespace Go.Proofs.YtaglmmcjhlehjaaGreatDoor
open Go.ChangeShapes Go.WideShapes Go.ChangeAt Go.RowKit
set_option linter.unusedVariables false
set_option linter.unusedSimpArgs false

def Tok.cells (t : Tok) : List Value := [.int .i64 t.kind, .int .i64 (t.place : Int), .int .i64 t.n, .string (bstr t.s)]
def toks (l : List Tok) : List Value := l.flatMap Tok.cells
theorem toks_append (a b : List Tok) : toks (a ++ b) = toks a ++ toks b := by simp [toks]
theorem toks_one (t : Tok) : toks [t] = t.cells := by simp [toks]
theorem toks_length (l : List Tok) : (toks l).length = l.length * 4 := by
  induction l with
  | nil => rfl
  | cons t r ih => simp only [toks, List.flatMap_cons, List.length_append, List.length_cons] at ih ⊢; rw [ih]; simp [Tok.cells]; omega
theorem elTok : ElemTy Tryz.prog 171 174 (.agg #[.int .i64 0, .int .i64 0, .int .i64 0, .string ⟨#[]⟩]) 4 40 := ⟨Tryz.underlying171, by kernel_rfl, rfl, by decide, by decide⟩

theorem four_one (a b c : Int) (x : ByteArray) : ∀ u ∈ (#[Value.int .i64 a, .int .i64 b, .int .i64 c, .string x] : Array Value).toList, u.oneCell' = true := by
  intro u hu; simp at hu; rcases hu with rfl | rfl | rfl | rfl <;> rfl

theorem tw_stop {p : UInt8 → Bool} : ∀ (l : Str) (h : (l.takeWhile p).length < l.length), p l[(l.takeWhile p).length] = false
  | [], h => by simp at h
  | c :: r, h => by
    cases hc : p c with
    | false =>
      have e : ((c :: r).takeWhile p).length = 0 := by simp [hc]
      simp [hc]
    | true =>
      have e : ((c :: r).takeWhile p).length = (r.takeWhile p).length + 1 := by simp [hc]
      have h2 : (r.takeWhile p).length < r.length := by rw [e] at h; simpa using h
      have := tw_stop r h2
      simp only [e, List.getElem_cons_succ]
      exact this
theorem endB_stop {p : UInt8 → Bool} (l : Str) (k : Nat) (hk : k ≤ l.length) (h : endB p l k < l.length) : p l[endB p l k] = false := by
  unfold endB at h ⊢
  have h2 : ((l.drop k).takeWhile p).length < (l.drop k).length := by rw [List.length_drop]; omega
  have := tw_stop (l.drop k) h2
  rw [List.getElem_drop] at this
  exact this
theorem cutS_end (l : Str) (k : Nat) : cutS (l.drop k) k = cutS (l.drop (endB spcB l k)) (endB spcB l k) := by
  rw [cutS_skip (l.drop k) k, List.drop_drop]; rfl

/-- What all tokens come to. -/
def CutRes (r : CutR) (w : World) (e : Ending) (w' : World) : Prop :=
  match r with
  | .ok ts => ∃ v, e = .returned (.tuple #[v, .nilIface]) ∧ w'.ownsRow w.heap.size 174 4 v ts.length (toks ts) ∧ ts.length ≤ 4000 ∧ Below w.heap.size w w'
  | .bad p => ∃ v, e = .returned (.tuple #[.slice none 0 0, v]) ∧ ErrAt w.heap.size w' v p ∧ Below w.heap.size w w'

/-- What stands while tokens are cut. -/
structure CL (w : World) (l : Str) (p : Nat) (acc : List Tok) (z : Value) (wr : World) : Prop where
  hi : p ≤ l.length
  inv : cutS l 0 = (cutS (l.drop p) p).pre acc
  stop : ∀ h : p < l.length, spcB l[p] = false
  own : wr.ownsRow w.heap.size 174 4 z acc.length (toks acc)
  b : Below w.heap.size w wr
  len : acc.length ≤ p
theorem CL.next {w wr : World} {l : Str} {p : Nat} {acc : List Tok} {z : Value} (h : CL w l p acc z wr) (hp : p < l.length) (t : Tk) (n : Nat) (ho : one (l.drop p) = .ok t n) :
    p + n ≤ l.length ∧ 0 < n ∧ cutS l 0 = (cutS (l.drop (endB spcB l (p + n))) (endB spcB l (p + n))).pre (acc ++ [t.put p]) := by
  obtain ⟨h0, h1, _⟩ := one_front _ _ _ ho
  rw [List.length_drop] at h1
  refine ⟨by omega, h0, ?_⟩
  have hd := List.drop_eq_getElem_cons hp
  rw [h.inv, ← cutS_end, hd, cutS_ok l[p] _ p n t (h.stop hp) (by rw [← hd]; exact ho), ← hd, List.drop_drop, CutR.pre_pre]
theorem CL.bad {w wr : World} {l : Str} {p : Nat} {acc : List Tok} {z : Value} (h : CL w l p acc z wr) (hp : p < l.length) (o : Nat) (ho : one (l.drop p) = .bad o) : cutS l 0 = .bad (p + o) := by
  have hd := List.drop_eq_getElem_cons hp
  rw [h.inv, hd, cutS_bad l[p] _ p o (h.stop hp) (by rw [← hd]; exact ho)]; rfl
theorem CL.done {w wr : World} {l : Str} {p : Nat} {acc : List Tok} {z : Value} (h : CL w l p acc z wr) (hp : l.length ≤ p) : cutS l 0 = .ok acc := by
  rw [h.inv, List.drop_of_length_le hp, cutS_nil]; simp [CutR.pre]

theorem cut_long (A : Option Addr) (l : Str) (cp : Nat) (w : World) (h : 4000 < l.length) (hm : l.length ≤ maxLen) :
    Calls Tryz.prog 124 #[.slice A l.length cp] w fun e w' => e = .returned (.tuple #[.slice none 0 0, .iface 34 (.int .i64 6)]) ∧ Below w.heap.size w w' := by
  unfold maxLen at hm
  go_enter Tryz.func124, Tryz.ntmps124
  go_wp2_with fail
  go_returns
  exact ⟨rfl, Below.refl _ _⟩

set_option maxRecDepth 100000 in
set_option maxHeartbeats 2000000 in
theorem cut_any (A : Option Addr) (l : Str) (cp : Nat) (w : World) (hL : Lay w) (hr : Rd w 1 A l.length (u8s l)) (hcap : l.length ≤ cp) (hm : l.length ≤ 4000) :
    Calls Tryz.prog 124 #[.slice A l.length cp] w fun e w' => CutRes (cutS l 0) w e w' := by
  have HR := Lib.hid hr
  have HL := Lib.hid hL
  obtain ⟨r, hrr⟩ : ∃ r, cutS l 0 = r := ⟨_, rfl⟩
  have HRR := Lib.hid hrr
  rw [hrr]
  have he := endB_le spcB l 0 (by omega)
  have hst := endB_stop (p := spcB) l 0 (by omega)
  have hin := cutS_end l 0
  have H0 := Lib.hid (And.intro he.2 (And.intro hst hin))
  clear hr hL hrr he hst hin
  go_enter Tryz.func124, Tryz.ntmps124
  go_wp2_with fail
  refine (afterSpace_any A l cp 0 w HR.out (by omega) (by omega)).mono ?_
  rintro e w1 ⟨rfl, rfl⟩
  go_wp2_with fail
  go_loopw [4, 5] (fun z i wr => ∃ (p : Nat) (acc : List Tok), i = .int .i64 p ∧ CL w l p acc z wr) (fun _ i _ => l.length - (intOf i).toNat)
  case atStart =>
    refine ⟨_, [], rfl, ⟨H0.out.1, ?_, fun h => H0.out.2.1 h, World.ownsRow_nil _ _ _ _, Below.refl _ _, by simp⟩⟩
    rw [CutR.pre_nil]
    exact H0.out.2.2
  case round =>
    obtain ⟨p, acc, rfl, hc⟩ := hrel
    have HC := Lib.hid hc
    have hhi := hc.hi
    have hln := hc.len
    clear hc H0
    have z0 : (0 : Int) ≤ (p : Int) := by omega
    by_cases hp : p < l.length
    · have z1 : (p : Int) < (l.length : Int) := by omega
      go_wp2_with fail
      refine (next_any A l cp p wr (HL.out.below HC.out.b) (HR.out.below HC.out.b) hp hcap (by omega)).mono ?_
      rintro e w2 ho
      cases hone : one (l.drop p) with
      | bad o =>
        rw [hone] at ho
        obtain ⟨v, rfl, hv, hb2⟩ := ho
        have hres := HC.out.bad hp o hone
        rw [HRR.out] at hres
        obtain ⟨g, hg, rfl, h1, h2⟩ := hv
        have HV := Lib.hid (And.intro hg (And.intro h1 (And.intro h2 hb2)))
        have HRES := Lib.hid hres
        unfold tok0
        clear hg h1 h2 hb2 hres hone
        go_wp2_with fail
        go_returns
        rw [HRES.out]
        exact ⟨_, rfl, ⟨g, Nat.le_trans HC.out.b.size HV.out.1, rfl, cell_alloc HV.out.2.1, cell_alloc HV.out.2.2.1⟩, (below_then HC.out.b HV.out.2.2.2).alloc (Nat.le_trans HC.out.b.size HV.out.2.2.2.size) _⟩
      | ok t n =>
        rw [hone] at ho
        obtain ⟨rfl, hb2⟩ := ho
        obtain ⟨hpn, hn0, hinv⟩ := HC.out.next hp t n hone
        have HB2 := Lib.hid hb2
        have HIN := Lib.hid hinv
        unfold tokV
        clear hb2 hinv hone
        have hsz : w.heap.size ≤ w2.heap.size := Nat.le_trans HC.out.b.size HB2.out.size
        have HOW := Lib.hid (((own_below HC.out.own HB2.out).alloc (.cells #[.int .i64 (t.put p).kind, .int .i64 ((t.put p).place : Int), .int .i64 (t.put p).n, .string (bstr (t.put p).s)] 174)).alloc (.cells #[.int .i64 (t.put p).kind, .int .i64 ((t.put p).place : Int), .int .i64 (t.put p).n, .string (bstr (t.put p).s)] 174))
        have hrd := Rd.lit (size := 4) (n := 1) (w2.alloc (.cells #[.int .i64 (t.put p).kind, .int .i64 ((t.put p).place : Int), .int .i64 (t.put p).n, .string (bstr (t.put p).s)] 174)) #[.int .i64 (t.put p).kind, .int .i64 ((t.put p).place : Int), .int .i64 (t.put p).n, .string (bstr (t.put p).s)] 174 rfl (fr := (0, 0))
        rw [World.size_alloc] at hrd
        have HRD := Lib.hid hrd
        have HB3 := Lib.hid (show Below w.heap.size w ((w2.alloc (.cells #[.int .i64 (t.put p).kind, .int .i64 ((t.put p).place : Int), .int .i64 (t.put p).n, .string (bstr (t.put p).s)] 174)).alloc (.cells #[.int .i64 (t.put p).kind, .int .i64 ((t.put p).place : Int), .int .i64 (t.put p).n, .string (bstr (t.put p).s)] 174)) from ((below_then HC.out.b HB2.out).alloc hsz _).alloc (by rw [World.size_alloc]; omega) _)
        clear hrd
        go_wp2_with (at_builtin; refine wpList_app elTok _ rfl (.tmp 29) (.tmp 31) rfl w.heap.size u4 acc.length _ rfl HOW.out (some ⟨w2.heap.size + 1, 0, none⟩) 1 1 _ rfl HRD.out (four_one _ _ _ _) (by omega) HB3.out.size ?_; intro v' w6 hown6 hb6 hg6 ho6)
        have hb7 : Below w.heap.size w w6 := HB3.out.trans hb6
        refine (afterSpace_any A l cp (p + n) w6 (HR.out.below hb7) hpn (by omega)).mono ?_
        rintro e w7 ⟨rfl, rfl⟩
        have he := endB_le spcB l (p + n) hpn
        have hst := endB_stop (p := spcB) l (p + n) hpn
        have hown7 : w6.ownsRow w.heap.size 174 4 v' (acc ++ [t.put p]).length (toks (acc ++ [t.put p])) := by
          rw [toks_append, toks_one, List.length_append]; exact hown6
        have HN := Lib.hid (show CL w l (endB spcB l (p + n)) (acc ++ [t.put p]) v' w6 from ⟨he.2, HIN.out, fun h => hst h, hown7, hb7, by simp; omega⟩)
        have hgt : p < endB spcB l (p + n) := by omega
        have hge : endB spcB l (p + n) ≤ l.length := he.2
        clear hown6 hb6 hg6 ho6 hb7 he hst hown7
        generalize endB spcB l (p + n) = en at *
        go_wp2_with fail
        go_roundw
        case rel => exact ⟨en, acc ++ [t.put p], rfl, HN.out⟩
        case measure => simp [intOf] <;> omega
    · have z1 : ¬ (p : Int) < (l.length : Int) := by omega
      have hres := HC.out.done (by omega)
      rw [HRR.out] at hres
      have HRES := Lib.hid hres
      clear hres
      go_wp2_with fail
      go_returns
      rw [HRES.out]
      exact ⟨u4, rfl, HC.out.own, by omega, HC.out.b⟩
end Go.Proofs.YtaglmmcjhlehjaaGreatDoor

namespace Go.Proofs.YtaglmmcjhlehjaaGreatDoor
open Go.ChangeShapes Go.WideShapes Go.ChangeAt Go.RowKit
set_option linter.unusedVariables false
set_option linter.unusedSimpArgs false

/-- What stands while a text is quoted. -/
def qpre (a : Str) (o : Option Str) : Option Str := o.map (a ++ ·)
theorem qpre_pre (a b : Str) (o : Option Str) : qpre a (qpre b o) = qpre (a ++ b) o := by cases o <;> simp [qpre]
theorem qbody_cons (c : UInt8) (r : Str) : qbody (c :: r) = match qch c, qbody r with
    | some a, some b => some (a ++ b)
    | _, _ => none := rfl
theorem q_step {s acc a : Str} {q : Nat} (h : qbody s = qpre acc (qbody (s.drop q))) (hq : q < s.length) (hc : qch s[q] = some a) : qbody s = qpre (acc ++ a) (qbody (s.drop (q + 1))) := by
  have hd : qbody (s.drop q) = qpre a (qbody (s.drop (q + 1))) := by
    rw [List.drop_eq_getElem_cons hq, qbody_cons, hc]
    cases qbody (s.drop (q + 1)) <;> rfl
  rw [h, hd, qpre_pre]
theorem q_fail {s acc : Str} {q : Nat} (h : qbody s = qpre acc (qbody (s.drop q))) (hq : q < s.length) (hc : qch s[q] = none) : qbody s = none := by
  rw [h, List.drop_eq_getElem_cons hq, qbody_cons, hc]; rfl
theorem q_done {s acc : Str} {q : Nat} (h : qbody s = qpre acc (qbody (s.drop q))) (hq : s.length ≤ q) : qbody s = some acc := by
  rw [h, List.drop_of_length_le hq]; simp [qpre, qbody]
theorem qch_10 {c : UInt8} (h : c.toNat = 10) : qch c = some [92, 110] := by unfold qch; rw [if_pos h]
theorem qch_esc {c : UInt8} (h : c.toNat = 34 ∨ c.toNat = 92) : qch c = some [92, c] := by
  unfold qch; rw [if_neg (by omega), if_pos (by unfold plainB; rw [decide_eq_true_iff]; omega), if_pos h]
theorem qch_plain {c : UInt8} (h0 : c.toNat ≠ 10) (h : ¬ (c.toNat = 34 ∨ c.toNat = 92)) (hp : plainB c = true) : qch c = some [c] := by
  unfold qch; rw [if_neg h0, if_pos hp, if_neg h]
theorem qch_none {c : UInt8} (h0 : c.toNat ≠ 10) (hp : plainB c = false) : qch c = none := by
  unfold qch; rw [if_neg h0, if_neg (by simp [hp])]

theorem str_at (s : Str) (k : Nat) (h : k < (bstr s).size) (h2 : k < s.length) : (bstr s)[k]'h = s[k] := by
  show (bstr s).data[k] = s[k]
  simp [bstr]
theorem own_app {w : World} {B : Nat} {v : Value} {x y : Str} {m : Nat} {cs : List Value} (h : w.ownsRow B 5 1 v (x.length + m) (u8s x ++ cs)) (hm : m = y.length) (hc : cs = u8s y) : w.ownsRow B 5 1 v (x ++ y).length (u8s (x ++ y)) := by
  subst hm
  subst hc
  rw [u8s_append, List.length_append]; exact h

structure QL (w : World) (s : Str) (q : Nat) (acc : Str) (z : Value) (wr : World) : Prop where
  hi : q ≤ s.length
  inv : qbody s = qpre acc (qbody (s.drop q))
  own : wr.ownsRow w.heap.size 5 1 z ([34] ++ acc).length (u8s ([34] ++ acc))
  b : Below w.heap.size w wr
  len : acc.length ≤ 2 * q
def QuoteRes (s : Str) (w : World) (e : Ending) (w' : World) : Prop :=
  match quoteS s with
  | some q => e = .returned (.tuple #[.string (bstr q), .nilIface]) ∧ Below w.heap.size w w'
  | none => e = .returned (.tuple #[.string ⟨#[]⟩, .iface 34 (.int .i64 1)]) ∧ Below w.heap.size w w'

theorem quote_long (s : Str) (w : World) (h : 2000 < s.length) (hm : s.length ≤ maxLen) : Calls Tryz.prog 59 #[.string (bstr s)] w fun e w' => QuoteRes s w e w' := by
  have e : quoteS s = none := by unfold quoteS; rw [if_pos h]
  unfold QuoteRes
  rw [e]
  unfold maxLen at hm
  have hz := bstr_size s
  have h2 : (2000 : Int) < ((bstr s).size : Int) := by omega
  clear e hz
  go_enter Tryz.func59, Tryz.ntmps59
  go_wp2_with fail
  go_ret2
  exact ⟨rfl, Below.refl _ _⟩

set_option maxRecDepth 100000 in
set_option maxHeartbeats 3000000 in
theorem quote_short (s : Str) (w : World) (h : s.length ≤ 2000) : Calls Tryz.prog 59 #[.string (bstr s)] w fun e w' => QuoteRes s w e w' := by
  have hz : (bstr s).size = s.length := bstr_size s
  have HZ := Lib.hid hz
  have h2 : ¬ (2000 : Int) < ((bstr s).size : Int) := by omega
  have h3 : ((bstr s).size : Int) ≤ 2000 := by omega
  clear hz
  go_enter Tryz.func59, Tryz.ntmps59
  go_wp2_with fail
  have HO := Lib.hid (World.ownsRow_lit w #[.int .u8 34] 1 (e := 5) (size := 1) (base := w.heap.size) (by simp) (by simp [maxLen]) rfl)
  go_loopw [4, 14] (fun z i wr => ∃ (q : Nat) (acc : Str), i = .int .i64 q ∧ QL w s q acc z wr) (fun _ i _ => s.length - (intOf i).toNat)
  case atStart => exact ⟨0, [], rfl, ⟨Nat.zero_le _, by simp [qpre], HO.out, (Below.refl _ _).alloc (Nat.le_refl _) _, by simp⟩⟩
  case round =>
    obtain ⟨q, acc, rfl, hql⟩ := hrel
    have HQ := Lib.hid hql
    have hhi := hql.hi
    have hln := hql.len
    clear hql HO
    have z0 : (0 : Int) ≤ (q : Int) := by omega
    by_cases hq : q < s.length
    · have z1 : (q : Int) < ((bstr s).size : Int) := by rw [HZ.out]; omega
      have hb : q < (bstr s).size := by rw [HZ.out]; exact hq
      have hwr := HQ.out.b.size
      by_cases h10 : s[q].toNat = 10
      · have t10 : ((((bstr s)[q]'hb).toNat : Int) == 10) = true := by rw [str_at s q hb hq, beq_iff_eq]; omega
        have HCH := Lib.hid (qch_10 h10)
        clear h10
        go_wp2_with (at_builtin; refine wpList_app elU8 _ rfl (.tmp 26) (.tmp 27) rfl w.heap.size u4 ([34] ++ acc).length _ rfl (HQ.out.own.alloc _) (some ⟨wr.heap.size, 0, none⟩) 2 2 _ rfl (Rd.lit wr _ _ rfl) (two_u8 _ _) (by simp only [List.length_append, List.length_cons, List.length_nil]; omega) (by simp; omega) ?_; intro v' w6 hown6 hb6 _ _)
        have hown7 := own_app (y := [92, 110]) hown6 rfl rfl
        rw [List.append_assoc] at hown7
        have HN := Lib.hid (show QL w s (q + 1) (acc ++ [92, 110]) v' w6 from ⟨by omega, q_step HQ.out.inv hq HCH.out, hown7, (HQ.out.b.alloc HQ.out.b.size _).trans hb6, by simp only [List.length_append, List.length_cons, List.length_nil]; omega⟩)
        clear hown6 hb6 hown7
        go_wp2_with fail
        go_roundw
        case rel => exact ⟨q + 1, acc ++ [92, 110], by go_num, HN.out⟩
        case measure => simp [intOf] <;> omega
      · have t10 : ((((bstr s)[q]'hb).toNat : Int) == 10) = false := by rw [str_at s q hb hq, beq_eq_false_iff_ne]; omega
        by_cases h34 : s[q].toNat = 34
        · have t34 : ((((bstr s)[q]'hb).toNat : Int) == 34) = true := by rw [str_at s q hb hq, beq_iff_eq]; omega
          have HCH := Lib.hid (qch_esc (c := s[q]) (by omega))
          have hpl : plainB ((bstr s)[q]'hb) = true := by rw [str_at s q hb hq]; unfold plainB; rw [decide_eq_true_iff]; omega
          have HPL := Lib.hid (isPlain_any ((bstr s)[q]'hb))
          rw [hpl] at HPL
          clear hpl h10 h34
          go_wp2_with (at_builtin; refine wpList_app elU8 _ rfl (.tmp 29) (.tmp 30) rfl w.heap.size u4 ([34] ++ acc).length _ rfl (HQ.out.own.alloc _) (some ⟨wr.heap.size, 0, none⟩) 1 1 _ rfl (Rd.lit wr _ _ rfl) (one_u8 _) (by simp only [List.length_append, List.length_cons, List.length_nil]; omega) (by simp; omega) ?_; intro v5 w5 hown5 hb5 _ _)
          have H5 := Lib.hid (And.intro hown5 ((HQ.out.b.alloc HQ.out.b.size (.cells #[.int .u8 92] 5)).trans hb5))
          clear hown5 hb5
          refine (HPL.out w5).mono ?_
          rintro e w1 ⟨rfl, rfl⟩
          go_wp2_with (at_builtin; refine wpList_app elU8 _ rfl (.tmp 36) (.tmp 38) rfl w.heap.size v5 (([34] ++ acc).length + 1) _ rfl (H5.out.1.alloc _) (some ⟨w5.heap.size, 0, none⟩) 1 1 _ rfl (Rd.lit w5 _ _ rfl) (one_u8 _) (by simp only [List.length_append, List.length_cons, List.length_nil]; omega) (by have := H5.out.2.size; simp; omega) ?_; intro v' w6 hown6 hb6 _ _)
          have hown7 := own_app (x := [34] ++ acc) (y := [92, s[q]]) (m := 2) (by rw [List.append_assoc] at hown6; exact hown6) rfl (by simp only [u8s, str_at s q hb hq]; rfl)
          rw [List.append_assoc] at hown7
          have HN := Lib.hid (show QL w s (q + 1) (acc ++ [92, s[q]]) v' w6 from ⟨by omega, q_step HQ.out.inv hq HCH.out, hown7, (H5.out.2.alloc H5.out.2.size _).trans hb6, by simp only [List.length_append, List.length_cons, List.length_nil]; omega⟩)
          clear hown6 hb6 hown7
          go_wp2_with fail
          go_roundw
          case rel => exact ⟨q + 1, acc ++ [92, s[q]], by go_num, HN.out⟩
          case measure => simp [intOf] <;> omega
        · have t34 : ((((bstr s)[q]'hb).toNat : Int) == 34) = false := by rw [str_at s q hb hq, beq_eq_false_iff_ne]; omega
          by_cases h92 : s[q].toNat = 92
          · have t92 : ((((bstr s)[q]'hb).toNat : Int) == 92) = true := by rw [str_at s q hb hq, beq_iff_eq]; omega
            have HCH := Lib.hid (qch_esc (c := s[q]) (by omega))
            have hpl : plainB ((bstr s)[q]'hb) = true := by rw [str_at s q hb hq]; unfold plainB; rw [decide_eq_true_iff]; omega
            have HPL := Lib.hid (isPlain_any ((bstr s)[q]'hb))
            rw [hpl] at HPL
            clear hpl h10 h34 h92
            go_wp2_with (at_builtin; refine wpList_app elU8 _ rfl (.tmp 29) (.tmp 30) rfl w.heap.size u4 ([34] ++ acc).length _ rfl (HQ.out.own.alloc _) (some ⟨wr.heap.size, 0, none⟩) 1 1 _ rfl (Rd.lit wr _ _ rfl) (one_u8 _) (by simp only [List.length_append, List.length_cons, List.length_nil]; omega) (by simp; omega) ?_; intro v5 w5 hown5 hb5 _ _)
            have H5 := Lib.hid (And.intro hown5 ((HQ.out.b.alloc HQ.out.b.size (.cells #[.int .u8 92] 5)).trans hb5))
            clear hown5 hb5
            refine (HPL.out w5).mono ?_
            rintro e w1 ⟨rfl, rfl⟩
            go_wp2_with (at_builtin; refine wpList_app elU8 _ rfl (.tmp 36) (.tmp 38) rfl w.heap.size v5 (([34] ++ acc).length + 1) _ rfl (H5.out.1.alloc _) (some ⟨w5.heap.size, 0, none⟩) 1 1 _ rfl (Rd.lit w5 _ _ rfl) (one_u8 _) (by simp only [List.length_append, List.length_cons, List.length_nil]; omega) (by have := H5.out.2.size; simp; omega) ?_; intro v' w6 hown6 hb6 _ _)
            have hown7 := own_app (x := [34] ++ acc) (y := [92, s[q]]) (m := 2) (by rw [List.append_assoc] at hown6; exact hown6) rfl (by simp only [u8s, str_at s q hb hq]; rfl)
            rw [List.append_assoc] at hown7
            have HN := Lib.hid (show QL w s (q + 1) (acc ++ [92, s[q]]) v' w6 from ⟨by omega, q_step HQ.out.inv hq HCH.out, hown7, (H5.out.2.alloc H5.out.2.size _).trans hb6, by simp only [List.length_append, List.length_cons, List.length_nil]; omega⟩)
            clear hown6 hb6 hown7
            go_wp2_with fail
            go_roundw
            case rel => exact ⟨q + 1, acc ++ [92, s[q]], by go_num, HN.out⟩
            case measure => simp [intOf] <;> omega
          · have t92 : ((((bstr s)[q]'hb).toNat : Int) == 92) = false := by rw [str_at s q hb hq, beq_eq_false_iff_ne]; omega
            cases hp : plainB s[q] with
            | true =>
              have HCH := Lib.hid (qch_plain h10 (by omega) hp)
              have HPL := Lib.hid (isPlain_any ((bstr s)[q]'hb))
              have hpl : plainB ((bstr s)[q]'hb) = true := by rw [str_at s q hb hq]; exact hp
              rw [hpl] at HPL
              clear hp hpl h10 h34 h92
              go_wp2_with fail
              refine (HPL.out wr).mono ?_
              rintro e w1 ⟨rfl, rfl⟩
              go_wp2_with (at_builtin; refine wpList_app elU8 _ rfl (.tmp 36) (.tmp 38) rfl w.heap.size u4 ([34] ++ acc).length _ rfl (HQ.out.own.alloc _) (some ⟨wr.heap.size, 0, none⟩) 1 1 _ rfl (Rd.lit wr _ _ rfl) (one_u8 _) (by simp only [List.length_append, List.length_cons, List.length_nil]; omega) (by have := HQ.out.b.size; simp; omega) ?_; intro v' w6 hown6 hb6 _ _)
              have hown7 := own_app (x := [34] ++ acc) (y := [s[q]]) (m := 1) hown6 rfl (by simp only [u8s, str_at s q hb hq]; rfl)
              rw [List.append_assoc] at hown7
              have HN := Lib.hid (show QL w s (q + 1) (acc ++ [s[q]]) v' w6 from ⟨by omega, q_step HQ.out.inv hq HCH.out, hown7, (HQ.out.b.alloc HQ.out.b.size _).trans hb6, by simp only [List.length_append, List.length_cons, List.length_nil]; omega⟩)
              clear hown6 hb6 hown7
              go_wp2_with fail
              go_roundw
              case rel => exact ⟨q + 1, acc ++ [s[q]], by go_num, HN.out⟩
              case measure => simp [intOf] <;> omega
            | false =>
              have hqb := q_fail HQ.out.inv hq (qch_none h10 hp)
              have hqs : quoteS s = none := by unfold quoteS; rw [if_neg (by omega), hqb]; rfl
              have HR := Lib.hid hqs
              have HPL := Lib.hid (isPlain_any ((bstr s)[q]'hb))
              have hpl : plainB ((bstr s)[q]'hb) = false := by rw [str_at s q hb hq]; exact hp
              rw [hpl] at HPL
              clear hp hpl h10 h34 h92 hqb hqs
              go_wp2_with fail
              refine (HPL.out wr).mono ?_
              rintro e w1 ⟨rfl, rfl⟩
              go_wp2_with fail
              go_ret2
              unfold QuoteRes
              rw [HR.out]
              exact ⟨rfl, HQ.out.b⟩
    · have z1 : ¬ (q : Int) < ((bstr s).size : Int) := by rw [HZ.out]; omega
      have hqb := q_done HQ.out.inv (by omega)
      have hqs : quoteS s = some ([34] ++ acc ++ [34]) := by unfold quoteS; rw [if_neg (by omega), hqb]; rfl
      have HR := Lib.hid hqs
      clear hqb hqs
      obtain ⟨x, hx⟩ : ∃ x, [34] ++ acc = x := ⟨_, rfl⟩
      have hox := HQ.out.own
      rw [hx] at hox HR
      have HX := Lib.hid hox
      have HXL := Lib.hid (show x.length ≤ 1048576 by rw [← hx]; simp; omega)
      clear hox hx
      go_wp2_with (at_builtin; refine wpList_app elU8 _ rfl (.tmp 41) (.tmp 42) rfl w.heap.size u4 x.length _ rfl (HX.out.alloc _) (some ⟨wr.heap.size, 0, none⟩) 1 1 _ rfl (Rd.lit wr _ _ rfl) (one_u8 _) (by have := HXL.out; omega) (by have := HQ.out.b.size; simp; omega) ?_; intro v' w6 hown6 hb6 _ _; obtain ⟨A6, c6, hv6, _⟩ := own_cap hown6; rw [hv6] at hown6 ⊢; clear hv6; have hrd6 : Rd w6 1 A6 (x.length + 1) (u8s (x ++ [34])) := (by rw [u8s_append]; exact Rd.of_own hown6); have cv := conv_bytes (c := c6) (by simp) hrd6)
      go_ret2
      unfold QuoteRes
      rw [HR.out]
      exact ⟨rfl, (HQ.out.b.alloc HQ.out.b.size _).trans hb6⟩
end Go.Proofs.YtaglmmcjhlehjaaGreatDoor
