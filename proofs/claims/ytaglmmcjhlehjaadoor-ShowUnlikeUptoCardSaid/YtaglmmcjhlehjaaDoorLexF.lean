/-
  Texts.
-/
import Derived.Test.YtaglmmcjhlehjaaDoorLexE
namespace Go.Proofs.YtaglmmcjhlehjaaDoor
open Go.ChangeShapes Go.WideShapes Go.ChangeAt Go.RowKit
set_option linter.unusedVariables false
set_option linter.unusedSimpArgs false

theorem TC.belowB {B : Nat} {w w' : World} {g : Nat} {u0 u1 u2 u3 : Value} (h : TC w g u0 u1 u2 u3) (hb : Below B w w') (hg : g < B) : TC w' g u0 u1 u2 u3 :=
  ⟨(hb.cell (p := ⟨g, 0, none⟩) hg).trans h.c0, (hb.cell (p := ⟨g, 1, none⟩) hg).trans h.c1, (hb.cell (p := ⟨g, 2, none⟩) hg).trans h.c2, (hb.cell (p := ⟨g, 3, none⟩) hg).trans h.c3,
    (hb.frozen (p := ⟨g, 0, none⟩) hg).trans h.f0, (hb.frozen (p := ⟨g, 1, none⟩) hg).trans h.f1, (hb.frozen (p := ⟨g, 2, none⟩) hg).trans h.f2, (hb.frozen (p := ⟨g, 3, none⟩) hg).trans h.f3⟩
theorem Mk.belowB {B : Nat} {w0 w w' : World} {u0 u1 u2 u3 : Value} (h : Mk w0 w u0 u1 u2 u3) (hb : Below B w w') (hg : w0.heap.size < B) : Mk w0 w' u0 u1 u2 u3 :=
  ⟨h.tc.belowB hb hg, h.b.trans (hb.mono (Nat.le_of_lt hg)), Nat.lt_of_lt_of_le h.lt hb.size⟩

/-- What stands while a text is read: the place, the bytes that it stands for so far. -/
structure TL (w : World) (l : Str) (k q : Nat) (acc : Str) (z : Value) (wr : World) : Prop where
  lo : k + 1 ≤ q
  hi : q ≤ l.length
  inv : txt (l.drop (k + 1)) = (txt (l.drop q)).more (q - (k + 1)) acc
  own : wr.ownsRow (w.heap.size + 1) 5 1 z acc.length (u8s acc)
  wm : Mk0 w wr
  len : acc.length ≤ q
theorem TL.plain {w wr : World} {l : Str} {k q : Nat} {acc : Str} {z : Value} (h : TL w l k q acc z wr) (hq : q < l.length) (h1 : l[q].toNat ≠ 34) (h2 : l[q].toNat ≠ 92) (hp : plainB l[q] = true) :
    txt (l.drop (k + 1)) = (txt (l.drop (q + 1))).more (q + 1 - (k + 1)) (acc ++ [l[q]]) := by
  rw [h.inv, List.drop_eq_getElem_cons hq, txt_plain _ _ h1 h2 hp, TxtR.more_more]
  have := h.lo
  congr 1; omega
theorem TL.esc {w wr : World} {l : Str} {k q : Nat} {acc : Str} {z : Value} (h : TL w l k q acc z wr) (hq : q + 1 < l.length) (h1 : l[q].toNat = 92) (hd : escB l[q + 1] = true) :
    txt (l.drop (k + 1)) = (txt (l.drop (q + 2))).more (q + 2 - (k + 1)) (acc ++ [unesc l[q + 1]]) := by
  rw [h.inv, List.drop_eq_getElem_cons (show q < l.length by omega), List.drop_eq_getElem_cons hq, txt_back _ _ _ h1 hd, TxtR.more_more]
  have := h.lo
  congr 1; omega
theorem TL.bad0 {w wr : World} {l : Str} {k q : Nat} {acc : Str} {z : Value} (h : TL w l k q acc z wr) (o : Nat) (e : txt (l.drop q) = .bad o) : textR (txt (l.drop (k + 1))) = .bad (q + o - k) := by
  rw [h.inv, e]
  unfold TxtR.more textR
  simp only
  have := h.lo
  congr 1; omega

set_option maxRecDepth 100000 in
set_option maxHeartbeats 3000000 in
theorem text_any (A : Option Addr) (l : Str) (cp k : Nat) (w : World) (hr : Rd w 1 A l.length (u8s l)) (hk : k < l.length) (hcap : l.length ≤ cp) (hm : l.length ≤ 1048576) :
    Calls Tryd.prog 61 #[.slice A l.length cp, .int .i64 (k : Int)] w fun e w' => OneRes (textR (txt (l.drop (k + 1)))) k w e w' := by
  obtain ⟨b, o, rfl, hb, hcl⟩ := hr.byte (k := k) hk
  obtain ⟨r, hres⟩ : ∃ r, textR (txt (l.drop (k + 1))) = r := ⟨_, rfl⟩
  have HR := Lib.hid hres
  rw [hres]
  have HM := Lib.hid (mk_new w)
  have HG := Lib.hid (show ∀ (q : Nat) (hq : q < l.length) w', Below w.heap.size w w' → w'.cell? ⟨b, o + q, none⟩ = some (.int .u8 (l[q].toNat : Int)) from fun q hq w' hb' => cell_below hb' (hcl q hq))
  clear hres hcl hr
  go_enter Tryd.func61, Tryd.ntmps61
  go_wp2_with fail
  have htl0 : TL w l k (k + 1) [] (.slice none 0 0) (w.alloc zeroTok) := ⟨Nat.le_refl _, by omega, by rw [Nat.sub_self, TxtR.more_nil], World.ownsRow_nil _ _ _ _, HM.out, by simp⟩
  have HT0 := Lib.hid htl0
  clear htl0
  generalize w.alloc zeroTok = wa at *
  go_loopw [7, 8] (fun z i wr => ∃ (q : Nat) (acc : Str), i = .int .i64 q ∧ TL w l k q acc z wr) (fun _ i _ => l.length - (intOf i).toNat)
  case atStart => exact ⟨k + 1, [], by go_num, HT0.out⟩
  case round =>
    obtain ⟨q, acc, rfl, ht⟩ := hrel
    obtain ⟨A1, c1, hz, _, _, _⟩ := own_cap ht.own
    subst hz
    have HT := Lib.hid ht
    have hlo := ht.lo
    have hhi := ht.hi
    have hln := ht.len
    have HMK := Lib.hid ht.wm
    clear ht HM HT0
    have z0 : (0 : Int) ≤ (q : Int) := by omega
    by_cases hq : q < l.length
    · have z1 : (q : Int) < (l.length : Int) := by omega
      have g0 := HG.out q hq _ HMK.out.b
      by_cases h34 : l[q].toNat = 34
      · have e : txt (l.drop q) = .ok [] 1 := by rw [List.drop_eq_getElem_cons hq]; exact txt_end _ _ h34
        have t34 : ((l[q].toNat : Int) == 34) = true := by rw [beq_iff_eq]; omega
        have hrr : textR (txt (l.drop (k + 1))) = if 2000 < acc.length then .bad 0 else .ok ⟨5, 0, acc⟩ (q - k + 1) := by
          rw [HT.out.inv, e]
          unfold TxtR.more textR
          simp only [List.append_nil]
          split
          · rfl
          · congr 1; omega
        rw [HR.out] at hrr
        by_cases h20 : 2000 < acc.length
        · rw [if_pos h20] at hrr
          have HRES := Lib.hid hrr
          have h20i : (2000 : Int) < (acc.length : Int) := by omega
          clear hrr e h34 h20
          go_wp2_with fail
          clear g0
          refine (bad_any (k) _).mono ?_
          rintro e w2 ⟨v, rfl, hv, hb2⟩
          have HV := Lib.hid hv
          have HM2 := Lib.hid (HMK.out.below hb2)
          clear hv hb2
          obtain ⟨c0, c1, c2, c3, f0, f1, f2, f3⟩ := HM2.out.tc
          unfold tok0
          go_wp2_with fail
          have HM3 := Lib.hid (HM2.out.set (.int .i64 0) (.int .i64 0) (.int .i64 0) (.string ⟨#[]⟩))
          obtain ⟨q0, q1, q2, q3, _, _, _, _⟩ := HM3.out.tc
          unfold set4 at q0 q1 q2 q3
          refine bodyPost_ret (v := .tuple #[tok0, .int .i64 0, v]) (by simp [results, Tryd.results61, go_sem, q0, q1, q2, q3]; rfl) rfl ?_
          rw [HRES.out]
          show BadRes (k + (0)) w _ _
          rw [show k + (0) = k from by omega]
          exact ⟨v, rfl, (HV.out.set4 HMK.out.lt _ _ _ _).mono (Nat.le_of_lt HMK.out.lt), HM3.out.b⟩
        · rw [if_neg h20] at hrr
          have HRES := Lib.hid hrr
          have h20i : ¬ (2000 : Int) < (acc.length : Int) := by omega
          have cv := conv_bytes (c := c1) rfl (Rd.of_own HT.out.own)
          obtain ⟨c0, c1', c2, c3, f0, f1, f2, f3⟩ := HMK.out.tc
          have HM3 := Lib.hid (HMK.out.set (.int .i64 5) (.int .i64 (k : Int)) (.int .i64 0) (.string (bstr acc)))
          clear hrr e h34 h20
          go_wp2_with fail
          obtain ⟨q0, q1, q2, q3, _, _, _, _⟩ := HM3.out.tc
          unfold set4 at q0 q1 q2 q3
          refine bodyPost_ret (v := .tuple #[tokV ⟨5, k, 0, acc⟩, .int .i64 ((q + 1 : Nat) : Int), .nilIface]) (by simp [results, Tryd.results61, go_sem, q0, q1, q2, q3, tokV]) rfl ?_
          rw [HRES.out]
          exact ⟨by rw [show k + (q - k + 1) = q + 1 from by omega]; rfl, HM3.out.b⟩
      · have t34 : ((l[q].toNat : Int) == 34) = false := by rw [beq_eq_false_iff_ne]; omega
        by_cases h92 : l[q].toNat = 92
        · have t92 : ((l[q].toNat : Int) == 92) = true := by rw [beq_iff_eq]; omega
          by_cases hq1 : q + 1 < l.length
          · have z2 : ((q : Int) + 1 == (l.length : Int)) = false := by rw [beq_eq_false_iff_ne]; omega
            have z3 : (q : Int) + 1 < (l.length : Int) := by omega
            have g1 := HG.out (q + 1) hq1 _ HMK.out.b
            have g1' := g1
            rw [show o + (q + 1) = o + q + 1 from by omega] at g1'
            cases hd : escB l[q + 1] with
            | true =>
              have hiv := HT.out.esc hq1 h92 hd
              have HIV := Lib.hid hiv
              have HES := Lib.hid (escaped_any l[q + 1])
              rw [hd, if_pos rfl] at HES
              clear hiv hd h92 h34
              go_wp2_with fail
              refine (HES.out wr).mono ?_
              rintro e w1 ⟨rfl, rfl⟩
              clear g0 g1 g1'
              go_wp2_with (at_builtin; refine wpList_app elU8 _ rfl (.tmp 78) (.tmp 80) rfl (w.heap.size + 1) (.slice A1 acc.length c1) acc.length _ rfl (HT.out.own.alloc _) (some ⟨wr.heap.size, 0, none⟩) 1 1 _ rfl (Rd.lit wr _ _ rfl) (one_u8 _) (by omega) (by have := HT.out.wm.lt; simp; omega) ?_; intro v' w6 hown6 hb6 hg6 ho6)
              have hmk6 : Mk0 w w6 := (HT.out.wm.below ((Below.refl _ _).alloc (Nat.le_refl _) _)).belowB hb6 (Nat.lt_succ_self _)
              have hown7 : w6.ownsRow (w.heap.size + 1) 5 1 v' (acc ++ [unesc l[q + 1]]).length (u8s (acc ++ [unesc l[q + 1]])) := by
                rw [u8s_append, List.length_append]; exact hown6
              have HN := Lib.hid (show TL w l k (q + 2) (acc ++ [unesc l[q + 1]]) v' w6 from ⟨by have := HT.out.lo; omega, by omega, HIV.out, hown7, hmk6, by have := HT.out.len; simp; omega⟩)
              clear hown6 hb6 hg6 ho6 hmk6 hown7
              go_wp2_with fail
              go_roundw
              case rel => exact ⟨q + 2, acc ++ [unesc l[q + 1]], by go_num, HN.out⟩
              case measure => simp [intOf] <;> omega
            | false =>
              have e : txt (l.drop q) = .bad 1 := by
                rw [List.drop_eq_getElem_cons hq, List.drop_eq_getElem_cons hq1]; exact txt_backbad _ _ _ h92 hd
              have hrr := HT.out.bad0 1 e
              rw [HR.out] at hrr
              have HRES := Lib.hid hrr
              have HES := Lib.hid (escaped_any l[q + 1])
              rw [hd] at HES
              clear hrr hd h92 h34 e
              go_wp2_with fail
              refine (HES.out wr).mono ?_
              rintro e w1 ⟨rfl, rfl⟩
              clear g0 g1 g1'
              go_wp2_with fail
              refine (bad_any (q + 1) _).mono ?_
              rintro e w2 ⟨v, rfl, hv, hb2⟩
              have HV := Lib.hid hv
              have HM2 := Lib.hid (HMK.out.below hb2)
              clear hv hb2
              obtain ⟨c0, c1, c2, c3, f0, f1, f2, f3⟩ := HM2.out.tc
              unfold tok0
              go_wp2_with fail
              have HM3 := Lib.hid (HM2.out.set (.int .i64 0) (.int .i64 0) (.int .i64 0) (.string ⟨#[]⟩))
              obtain ⟨q0, q1, q2, q3, _, _, _, _⟩ := HM3.out.tc
              unfold set4 at q0 q1 q2 q3
              refine bodyPost_ret (v := .tuple #[tok0, .int .i64 0, v]) (by simp [results, Tryd.results61, go_sem, q0, q1, q2, q3]; rfl) rfl ?_
              rw [HRES.out]
              show BadRes (k + (q + 1 - k)) w _ _
              rw [show k + (q + 1 - k) = q + 1 from by omega]
              exact ⟨v, rfl, (HV.out.set4 HMK.out.lt _ _ _ _).mono (Nat.le_of_lt HMK.out.lt), HM3.out.b⟩
          · have z2 : ((q : Int) + 1 == (l.length : Int)) = true := by rw [beq_iff_eq]; omega
            have e : txt (l.drop q) = .bad 1 := by
              rw [List.drop_eq_getElem_cons hq, List.drop_of_length_le (by omega)]; exact txt_back0 _ h92
            have hrr := HT.out.bad0 1 e
            rw [HR.out] at hrr
            have HRES := Lib.hid hrr
            clear hrr h92 h34 e
            go_wp2_with fail
            clear g0
            refine (bad_any (q + 1) _).mono ?_
            rintro e w2 ⟨v, rfl, hv, hb2⟩
            have HV := Lib.hid hv
            have HM2 := Lib.hid (HMK.out.below hb2)
            clear hv hb2
            obtain ⟨c0, c1, c2, c3, f0, f1, f2, f3⟩ := HM2.out.tc
            unfold tok0
            go_wp2_with fail
            have HM3 := Lib.hid (HM2.out.set (.int .i64 0) (.int .i64 0) (.int .i64 0) (.string ⟨#[]⟩))
            obtain ⟨q0, q1, q2, q3, _, _, _, _⟩ := HM3.out.tc
            unfold set4 at q0 q1 q2 q3
            refine bodyPost_ret (v := .tuple #[tok0, .int .i64 0, v]) (by simp [results, Tryd.results61, go_sem, q0, q1, q2, q3]; rfl) rfl ?_
            rw [HRES.out]
            show BadRes (k + (q + 1 - k)) w _ _
            rw [show k + (q + 1 - k) = q + 1 from by omega]
            exact ⟨v, rfl, (HV.out.set4 HMK.out.lt _ _ _ _).mono (Nat.le_of_lt HMK.out.lt), HM3.out.b⟩
        · have t92 : ((l[q].toNat : Int) == 92) = false := by rw [beq_eq_false_iff_ne]; omega
          cases hp : plainB l[q] with
          | true =>
            have HIV := Lib.hid (HT.out.plain hq h34 h92 hp)
            have HPL := Lib.hid (isPlain_any l[q])
            rw [hp] at HPL
            clear hp h92 h34
            go_wp2_with fail
            refine (HPL.out wr).mono ?_
            rintro e w1 ⟨rfl, rfl⟩
            clear g0
            go_wp2_with (at_builtin; refine wpList_app elU8 _ rfl (.tmp 78) (.tmp 80) rfl (w.heap.size + 1) (.slice A1 acc.length c1) acc.length _ rfl (HT.out.own.alloc _) (some ⟨wr.heap.size, 0, none⟩) 1 1 _ rfl (Rd.lit wr _ _ rfl) (one_u8 _) (by omega) (by have := HT.out.wm.lt; simp; omega) ?_; intro v' w6 hown6 hb6 hg6 ho6)
            have hmk6 : Mk0 w w6 := (HT.out.wm.below ((Below.refl _ _).alloc (Nat.le_refl _) _)).belowB hb6 (Nat.lt_succ_self _)
            have hown7 : w6.ownsRow (w.heap.size + 1) 5 1 v' (acc ++ [l[q]]).length (u8s (acc ++ [l[q]])) := by
              rw [u8s_append, List.length_append]; exact hown6
            have HN := Lib.hid (show TL w l k (q + 1) (acc ++ [l[q]]) v' w6 from ⟨by have := HT.out.lo; omega, by omega, HIV.out, hown7, hmk6, by have := HT.out.len; simp; omega⟩)
            clear hown6 hb6 hg6 ho6 hmk6 hown7
            go_wp2_with fail
            go_roundw
            case rel => exact ⟨q + 1, acc ++ [l[q]], by go_num, HN.out⟩
            case measure => simp [intOf] <;> omega
          | false =>
            have e : txt (l.drop q) = .bad 0 := by
              rw [List.drop_eq_getElem_cons hq]; exact txt_unplain _ _ hp
            have hrr := HT.out.bad0 0 e
            rw [HR.out] at hrr
            have HRES := Lib.hid hrr
            have HPL := Lib.hid (isPlain_any l[q])
            rw [hp] at HPL
            clear hrr hp h92 h34 e
            go_wp2_with fail
            refine (HPL.out wr).mono ?_
            rintro e w1 ⟨rfl, rfl⟩
            clear g0
            go_wp2_with fail
            refine (bad_any (q) _).mono ?_
            rintro e w2 ⟨v, rfl, hv, hb2⟩
            have HV := Lib.hid hv
            have HM2 := Lib.hid (HMK.out.below hb2)
            clear hv hb2
            obtain ⟨c0, c1, c2, c3, f0, f1, f2, f3⟩ := HM2.out.tc
            unfold tok0
            go_wp2_with fail
            have HM3 := Lib.hid (HM2.out.set (.int .i64 0) (.int .i64 0) (.int .i64 0) (.string ⟨#[]⟩))
            obtain ⟨q0, q1, q2, q3, _, _, _, _⟩ := HM3.out.tc
            unfold set4 at q0 q1 q2 q3
            refine bodyPost_ret (v := .tuple #[tok0, .int .i64 0, v]) (by simp [results, Tryd.results61, go_sem, q0, q1, q2, q3]; rfl) rfl ?_
            rw [HRES.out]
            show BadRes (k + (q + 0 - k)) w _ _
            rw [show k + (q + 0 - k) = q from by omega]
            exact ⟨v, rfl, (HV.out.set4 HMK.out.lt _ _ _ _).mono (Nat.le_of_lt HMK.out.lt), HM3.out.b⟩
    · have z1 : ¬ (q : Int) < (l.length : Int) := by omega
      have e : txt (l.drop q) = .bad 0 := by rw [List.drop_of_length_le (by omega)]; rfl
      have hrr := HT.out.bad0 0 e
      rw [HR.out] at hrr
      have HRES := Lib.hid hrr
      clear hrr e
      go_wp2_with fail
      refine (bad_any (l.length) _).mono ?_
      rintro e w2 ⟨v, rfl, hv, hb2⟩
      have HV := Lib.hid hv
      have HM2 := Lib.hid (HMK.out.below hb2)
      clear hv hb2
      obtain ⟨c0, c1, c2, c3, f0, f1, f2, f3⟩ := HM2.out.tc
      unfold tok0
      go_wp2_with fail
      have HM3 := Lib.hid (HM2.out.set (.int .i64 0) (.int .i64 0) (.int .i64 0) (.string ⟨#[]⟩))
      obtain ⟨q0, q1, q2, q3, _, _, _, _⟩ := HM3.out.tc
      unfold set4 at q0 q1 q2 q3
      refine bodyPost_ret (v := .tuple #[tok0, .int .i64 0, v]) (by simp [results, Tryd.results61, go_sem, q0, q1, q2, q3]; rfl) rfl ?_
      rw [HRES.out]
      show BadRes (k + (q + 0 - k)) w _ _
      rw [show k + (q + 0 - k) = l.length from by omega]
      exact ⟨v, rfl, (HV.out.set4 HMK.out.lt _ _ _ _).mono (Nat.le_of_lt HMK.out.lt), HM3.out.b⟩
end Go.Proofs.YtaglmmcjhlehjaaDoor
