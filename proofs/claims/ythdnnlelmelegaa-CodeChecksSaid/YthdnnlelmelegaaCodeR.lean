/-
  An image's bytes, by the code: the whole.
-/
import Derived.Test.YthdnnlelmelegaaCodeQ
import Derived.Lib.AppendStr
namespace Go.Proofs.Ythdnnlelmelegaa
open Go.ChangeShapes Go.WideShapes Go.ChangeAt Go.RowKit
set_option linter.unusedVariables false

theorem infoU8 : ∃ i, Try.prog.info? 5 = some i ∧ i.zero = some (.int .u8 0) ∧ i.size = 1 ∧ i.bytes = 1 := by
  have h : (Try.prog.info? 5).map (fun i => (i.zero, i.size, i.bytes)) = some (some (.int .u8 0), 1, 1) := by kernel_rfl
  obtain ⟨i, hi, hc⟩ := Option.map_eq_some_iff.1 h
  simp only [Prod.mk.injEq] at hc
  exact ⟨i, hi, hc.1, hc.2.1, hc.2.2⟩
theorem strCells_bstr (s : Str) : Lib.strCells (bstr s) = u8s s := by
  unfold Lib.strCells u8s
  simp [bstr]

theorem ownsRow_mono {w : World} {B B' : Nat} {e : TypeId} {size : Nat} {v : Value} {n : Nat} {xs : List Value} (h : w.ownsRow B e size v n xs) (hB : B' ≤ B) : w.ownsRow B' e size v n xs := by
  refine ⟨h.1, ?_⟩
  rcases h.2 with hn | ⟨g, cap, cur, hv, hb, rest⟩
  · exact .inl hn
  · exact .inr ⟨g, cap, cur, hv, Nat.le_trans hB hb, rest⟩
/-- What Put tells. -/
def PutRes (m : AImg) (w : World) (e : Ending) (w' : World) : Prop :=
  (soundB m = true ∧ ∃ v, e = .returned (.tuple #[v, .nilIface]) ∧ w'.ownsRow w.heap.size 5 1 v (putImg m.img).length (u8s (putImg m.img)) ∧ Below w.heap.size w w') ∨
  (soundB m = false ∧ e = .returned (.tuple #[.slice none 0 0, .iface 36 (.int .i64 10)]) ∧ Below w.heap.size w w')

theorem wb_str {wr w6 : World} {wb : Nat} {v : Value} {n : Nat} {xs : List Value} (hc : wr.cell? ⟨wb, 0, none⟩ = some v) (hf : wr.frozen? ⟨wb, 0, none⟩ = false) (hown : wr.ownsRow (wb + 1) 5 1 v n xs) (hg : wr.grownBy w6 v.ownBlock) : Below (wb + 1) wr w6 ∧ w6.cell? ⟨wb, 0, none⟩ = some v ∧ w6.frozen? ⟨wb, 0, none⟩ = false := by
  have hb : Below (wb + 1) wr w6 := below_of_grown hg (World.block_lt_of_cell? wr _ hc) (fun k e => (hown.lt k e).1)
  exact ⟨hb, (hb.cell (p := ⟨wb, 0, none⟩) (Nat.lt_succ_self wb)).trans hc, (hb.frozen (p := ⟨wb, 0, none⟩) (Nat.lt_succ_self wb)).trans hf⟩
theorem str_row {w : World} {B : Nat} {v : Value} {bs : List UInt8} {r : Str} (h : w.ownsRow B 5 1 v (bs.length + (bstr r).size) (u8s bs ++ Lib.strCells (bstr r))) : w.ownsRow B 5 1 v (bs ++ r).length (u8s (bs ++ r)) := by
  rw [strCells_bstr, bstr_size] at h
  rw [u8s_append, List.length_append]
  exact h
/-- Where the writing of an image stands. -/
def WPut (W : World) (bs : List UInt8) (wr : World) : Prop := (∃ v, WB wr W.heap.size bs v) ∧ Below W.heap.size W wr

theorem putImg_eq (m : AImg) : putImg m.img = num m.ints.length ++ m.ints.flatMap num ++ num m.texts.length ++ m.texts.flatMap putStr ++ num m.funs.length ++ m.funs.flatMap (fun f => putFnc f.fnc) := by
  unfold putImg
  show num m.ints.length ++ m.ints.flatMap num ++ (num m.texts.length ++ m.texts.flatMap putStr) ++ (num ((m.funs.map AFnc.fnc).length : Int) ++ (m.funs.map AFnc.fnc).flatMap putFnc) = _
  rw [List.length_map, List.flatMap_map]
  simp only [List.append_assoc]

theorem put_no (m : AImg) (w : World) (hm : m.In w) (hs : soundB m = false) : Calls Try.prog 8 #[m.value] w fun e w' => PutRes m w e w' := by
  have HD := Lib.hid (heldM_made w m hm)
  have hb1 : Below w.heap.size w (w.alloc (.cells #[.slice m.iA m.iN m.iC, .slice m.tA m.tN m.tC, .slice m.fA m.fN m.fC] 26)) := (Below.refl _ _).alloc (Nat.le_refl _) _
  go_enter Try.func8, Try.ntmps8
  unfold AImg.value
  go_wp2_with fail
  generalize (w.alloc (.cells #[.slice m.iA m.iN m.iC, .slice m.tA m.tN m.tC, .slice m.fA m.fN m.fC] 26)) = w1 at *
  refine (isSound_any w.heap.size m _ ⟨HD.out.m0, HD.out.m1, HD.out.m2, HD.out.hm⟩).mono ?_
  rw [hs]
  rintro e w2 ⟨rfl, hb2⟩
  go_wp2_with fail
  go_returns
  exact .inr ⟨hs, rfl, below_then hb1 hb2⟩

set_option maxRecDepth 100000 in
set_option maxHeartbeats 1000000 in
theorem put_yes (m : AImg) (w : World) (hm : m.In w) (hs : soundB m = true) (hb : (putImg m.img).length ≤ 1099511627776) : Calls Try.prog 8 #[m.value] w fun e w' => PutRes m w e w' := by
  have HD := Lib.hid (heldM_made w m hm)
  have hb1 : Below w.heap.size w (w.alloc (.cells #[.slice m.iA m.iN m.iC, .slice m.tA m.tN m.tC, .slice m.fA m.fN m.fC] 26)) := (Below.refl _ _).alloc (Nat.le_refl _) _
  have LI := Lib.hid hm.ints.ints
  have LT := Lib.hid hm.texts.strN
  have LF := Lib.hid hm.funs.fncN
  have s1 := hm.isz
  have s2 := hm.tsz
  have s3 := hm.fsz
  have HS := Lib.hid hs
  have hlen := hb
  rw [putImg_eq] at hlen
  simp only [List.length_append] at hlen
  rw [hm.ints.ints, hm.texts.strN, hm.funs.fncN] at hlen
  have HLEN := Lib.hid hlen
  clear hm hs hlen
  go_enter Try.func8, Try.ntmps8
  unfold AImg.value
  go_wp2_with fail
  generalize (w.alloc (.cells #[.slice m.iA m.iN m.iC, .slice m.tA m.tN m.tC, .slice m.fA m.fN m.fC] 26)) = w1 at *
  refine (isSound_any w.heap.size m _ ⟨HD.out.m0, HD.out.m1, HD.out.m2, HD.out.hm⟩).mono ?_
  rw [HS.out]
  rintro e w2 ⟨rfl, hb2⟩
  have HM := Lib.hid (HD.out.below hb2)
  have HB := Lib.hid (below_then hb1 hb2)
  have hmlt : w.heap.size < w2.heap.size := World.block_lt_of_cell? w2 _ HM.out.m0
  clear hb1 hb2 hb
  have c0 := HM.out.m0
  go_wp2_with fail
  clear c0
  have hw0 : WB (w2.alloc (.cells #[.slice none 0 0] 52)) w2.heap.size [] (.slice none 0 0) := ⟨cell_new w2 _ _ 0 rfl, by rw [World.frozen?_alloc_mark]; rfl, World.ownsRow_nil _ _ _ _⟩
  have hk0 : Below w2.heap.size w2 (w2.alloc (.cells #[.slice none 0 0] 52)) := (Below.refl _ _).alloc (Nat.le_refl _) _
  generalize (w2.alloc (.cells #[.slice none 0 0] 52)) = w3 at *
  refine (wcount_any w2.heap.size _ [] m.iN _ (by unfold inRange; omega) hw0 (by simp)).mono ?_
  rintro e w4 ⟨rfl, v4, hw4, hk4⟩
  have hB4 := hk0.trans (hw0.below hk4)
  clear hw0 hk0 hk4
  have c0 := (HM.out.below hB4).m0
  go_wp2_with fail
  clear c0
  rw [List.nil_append] at hw4
  go_loopw [20] (fun i wr => ∃ k : Nat, i = .int .i64 k ∧ k ≤ m.iN ∧ WPut w2 (num m.iN ++ (m.ints.take k).flatMap num) wr) (fun i _ => m.iN - (intOf i).toNat)
  case atStart => exact ⟨0, rfl, by omega, ⟨v4, by rw [List.take_zero, List.flatMap_nil, List.append_nil]; exact hw4⟩, hB4⟩
  case round =>
    clear hw4 hB4
    obtain ⟨k, rfl, hk, ⟨v, hw⟩, hB⟩ := hrel
    by_cases hlt : k < m.iN
    · obtain ⟨b, o, e, _, hc⟩ := (HM.out.hm.ints.below hB).int (k := k) (by have := LI.out; omega)
      have g0 := hc k (by have := LI.out; omega)
      have hr := HM.out.hm.iall _ (List.getElem_mem (show k < m.ints.length by have := LI.out; omega))
      have hsu := flat_succ num (l := m.ints) (k := k) (by have := LI.out; omega)
      have hle := flat_le num m.ints k
      obtain ⟨r, hrr⟩ : ∃ r, m.ints[k]'(by have := LI.out; omega) = r := ⟨_, rfl⟩
      rw [hrr] at g0 hr hsu
      have HQ := Lib.hid (And.intro hr (And.intro hsu hle))
      clear hc hr hsu hle hrr
      go_wp2_with fail
      clear e g0
      refine (number_any w2.heap.size v _ r _ HQ.out.1 hw (by have h1 := HLEN.out; have h2 := HQ.out.2.2; simp only [List.length_append]; omega)).mono ?_
      rintro e w5 ⟨rfl, v5, hw5, hk5⟩
      go_wp2_with fail
      go_roundw
      case rel => exact ⟨k + 1, by go_num, by omega, ⟨v5, by rw [HQ.out.2.1, ← List.append_assoc]; exact hw5⟩, hB.trans (hw.below hk5)⟩
      case measure => simp [intOf] <;> omega
    · have htk : m.ints.take k = m.ints := List.take_of_length_le (by have := LI.out; omega)
      rw [htk] at hw
      have c1 := (HM.out.below hB).m1
      go_wp2_with fail
      clear c1
      refine (wcount_any w2.heap.size v _ m.tN _ (by unfold inRange; omega) hw (by have h1 := HLEN.out; simp only [List.length_append]; omega)).mono ?_
      rintro e w5 ⟨rfl, v5, hw5, hk5⟩
      have hB5 := hB.trans (hw.below hk5)
      clear hw hk5 hB
      have c1 := (HM.out.below hB5).m1
      go_wp2_with fail
      clear c1
      go_loopw [34] (fun i wr => ∃ k : Nat, i = .int .i64 k ∧ k ≤ m.tN ∧ WPut w2 (num m.iN ++ m.ints.flatMap num ++ num m.tN ++ (m.texts.take k).flatMap putStr) wr) (fun i _ => m.tN - (intOf i).toNat)
      case atStart => exact ⟨0, rfl, by omega, ⟨v5, by rw [List.take_zero, List.flatMap_nil, List.append_nil]; exact hw5⟩, hB5⟩
      case round =>
        clear hw5 hB5
        obtain ⟨k2, rfl, hk2, ⟨v, hw⟩, hB⟩ := hrel
        by_cases hlt2 : k2 < m.tN
        · obtain ⟨b, o, e, _, hc⟩ := (HM.out.hm.texts.below hB).str (k := k2) (by have := LT.out; omega)
          have g0 := hc k2 (by have := LT.out; omega)
          have hr := HM.out.hm.tall _ (List.getElem_mem (show k2 < m.texts.length by have := LT.out; omega))
          have hsu := flat_succ putStr (l := m.texts) (k := k2) (by have := LT.out; omega)
          have hle := flat_le putStr m.texts (k2 + 1)
          obtain ⟨r, hrr⟩ : ∃ r, m.texts[k2]'(by have := LT.out; omega) = r := ⟨_, rfl⟩
          rw [hrr] at g0 hr hsu
          have hl2 := congrArg List.length hsu
          have hp : (putStr r).length = (num r.length).length + r.length := by unfold putStr; rw [List.length_append]
          rw [List.length_append, hp] at hl2
          have hsz := bstr_size r
          have HQ := Lib.hid (And.intro hr (And.intro hsu (And.intro hle (And.intro hl2 hsz))))
          unfold maxLen at hr
          have hr2 : r.length ≤ 9223372036854775807 := hr
          have hlr : inRange ((bstr r).size : Int) := by unfold inRange; rw [hsz]; omega
          have HLR := Lib.hid hlr
          clear hc hr hsu hle hrr hl2 hsz hlr hp hr2
          go_wp2_with fail
          clear e g0
          refine (wcount_any w2.heap.size v _ (bstr r).size _ HLR.out hw (by have h1 := HLEN.out; have h2 := HQ.out.2.2.1; have h3 := HQ.out.2.2.2.1; simp only [List.length_append]; omega)).mono ?_
          rintro e w5 ⟨rfl, v5, hw5, hk5⟩
          have hB5 := hB.trans (hw.below hk5)
          clear hw hk5 hB
          obtain ⟨A5, c5, rfl, _⟩ := own_cap hw5.own
          have q0 := hw5.c
          have qf := hw5.f
          have hbl : w2.heap.size < w5.heap.size := World.block_lt_of_cell? w5 _ q0
          obtain ⟨ii, hii, hi1, hi2, hi3⟩ := infoU8
          have hbound : (num m.iN ++ m.ints.flatMap num ++ num m.tN ++ (m.texts.take k2).flatMap putStr ++ num ((bstr r).size : Int)).length + (bstr r).size ≤ 1099511627776 := by
            have h1 := HLEN.out; have h2 := HQ.out.2.2.1; have h3 := HQ.out.2.2.2.1; have h4 := HQ.out.2.2.2.2
            rw [h4]
            simp only [List.length_append]; omega
          have HBD := Lib.hid hbound
          have HI := Lib.hid (And.intro hii (And.intro hi1 (And.intro hi2 hi3)))
          have HW5 := Lib.hid hw5.own
          obtain ⟨bs5, hbs5⟩ : ∃ bs5, num m.iN ++ m.ints.flatMap num ++ num m.tN ++ (m.texts.take k2).flatMap putStr ++ num ((bstr r).size : Int) = bs5 := ⟨_, rfl⟩
          rw [hbs5] at HW5 HBD q0
          have HBS := Lib.hid hbs5
          clear hbound hw5 hii hi1 hi2 hi3 hbs5
          go_wp2_with (at_builtin; refine Lib.wpList_append_own_string _ rfl (.tmp 42) (.tmp 43) 29 9 rfl (w2.heap.size + 1) 5 ii Try.underlying29 Try.underlying9 HI.out.1 HI.out.2.1 HI.out.2.2.1 HI.out.2.2.2 (.slice A5 bs5.length c5) bs5.length _ rfl HW5.out (bstr r) rfl (by have := HBD.out; simp only [maxLen]; omega) (by have := HBD.out; omega) (by omega) ?_; intro v' w6 hown6 hg6 _; obtain ⟨hb6, hc6, hf6⟩ := wb_str q0 qf HW5.out hg6; obtain ⟨A6, c6, hv6, _⟩ := own_cap hown6; rw [hv6] at hown6 ⊢; clear hv6)
          go_roundw
          case rel =>
            have e := wb_set hc6 hf6 (str_row hown6)
            have h1 := HBS.out
            have h2 := HQ.out.2.1
            have h3 := HQ.out.2.2.2.2
            have e2 : bs5 ++ r = num m.iN ++ m.ints.flatMap num ++ num m.tN ++ (m.texts.take (k2 + 1)).flatMap putStr := by
              rw [← h1, h3, h2]
              unfold putStr
              simp only [List.append_assoc]
            rw [e2] at e
            exact ⟨k2 + 1, by go_num, by omega, ⟨_, e⟩, (hB5.trans (hb6.mono (by omega))).setCell (Nat.le_refl _) _⟩
          case measure => simp [intOf] <;> omega
        · have htk2 : m.texts.take k2 = m.texts := List.take_of_length_le (by have := LT.out; omega)
          rw [htk2] at hw
          have c2 := (HM.out.below hB).m2
          go_wp2_with fail
          clear c2
          refine (wcount_any w2.heap.size v _ m.fN _ (by unfold inRange; omega) hw (by have h1 := HLEN.out; simp only [List.length_append]; omega)).mono ?_
          rintro e w5 ⟨rfl, v5, hw5, hk5⟩
          have hB5 := hB.trans (hw.below hk5)
          clear hw hk5 hB
          have c2 := (HM.out.below hB5).m2
          go_wp2_with fail
          clear c2
          go_loopw [54] (fun i wr => ∃ k : Nat, i = .int .i64 k ∧ k ≤ m.fN ∧ WPut w2 (num m.iN ++ m.ints.flatMap num ++ num m.tN ++ m.texts.flatMap putStr ++ num m.fN ++ (m.funs.take k).flatMap (fun f => putFnc f.fnc)) wr) (fun i _ => m.fN - (intOf i).toNat)
          case atStart => exact ⟨0, rfl, by omega, ⟨v5, by rw [List.take_zero, List.flatMap_nil, List.append_nil]; exact hw5⟩, hB5⟩
          case round =>
            clear hw5 hB5
            obtain ⟨k3, rfl, hk3, ⟨v, hw⟩, hB⟩ := hrel
            by_cases hlt3 : k3 < m.fN
            · have HMr := HM.out.below hB
              obtain ⟨b, o, e, _, hc⟩ := HM.out.hm.funs.fnc (k := k3) (by have := LF.out; omega)
              have g := hc k3 (by have := LF.out; omega)
              have hfi := HM.out.hm.fall _ (List.getElem_mem (show k3 < m.funs.length by have := LF.out; omega))
              have hsu := flat_succ (fun f : AFnc => putFnc f.fnc) (l := m.funs) (k := k3) (by have := LF.out; omega)
              have hle := flat_le (fun f : AFnc => putFnc f.fnc) m.funs (k3 + 1)
              obtain ⟨f, hf⟩ : ∃ f, m.funs[k3]'(by have := LF.out; omega) = f := ⟨_, rfl⟩
              rw [hf] at g hfi hsu
              have hl2 := congrArg List.length hsu
              rw [List.length_append] at hl2
              have HQ := Lib.hid (And.intro hsu (And.intro hle hl2))
              have HFP : RowKit.Hid (FP w2 b (o + k3 * 3) f) := Lib.hid ⟨g.1, g.2.1, g.2.2, hfi⟩
              have c2 := HMr.m2
              rw [e] at c2
              clear hc g hfi hsu hle hf hl2 HMr e
              go_wp2_with fail
              clear c2
              refine (wfunc_any w2 w2.heap.size b (o + k3 * 3) f v _ _ HFP.out hB (Nat.le_refl _) hw (by have h1 := HLEN.out; have h2 := HQ.out.2.1; have h3 := HQ.out.2.2; simp only [List.length_append]; omega)).mono ?_
              rintro e w6 ⟨rfl, v6, hw6, hk6⟩
              go_wp2_with fail
              go_roundw
              case rel => exact ⟨k3 + 1, by go_num, by omega, ⟨v6, by rw [HQ.out.1, ← List.append_assoc]; exact hw6⟩, hB.trans (hw.below hk6)⟩
              case measure => simp [intOf] <;> omega
            · have htk3 : m.funs.take k3 = m.funs := List.take_of_length_le (by have := LF.out; omega)
              rw [htk3] at hw
              have q0 := hw.c
              have hf := hw.own
              have e : putImg m.img = num m.iN ++ m.ints.flatMap num ++ num m.tN ++ m.texts.flatMap putStr ++ num m.fN ++ m.funs.flatMap (fun f => putFnc f.fnc) := by rw [putImg_eq, LI.out, LT.out, LF.out]
              rw [← e] at hf
              have HF := Lib.hid (And.intro hf hB)
              clear hf hB e hw
              go_wp2_with fail
              go_returns
              exact .inl ⟨HS.out, v, rfl, by
                have h1 := HF.out.1
                exact ownsRow_mono h1 (by omega), below_then HB.out HF.out.2⟩
end Go.Proofs.Ythdnnlelmelegaa
