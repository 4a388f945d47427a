/-
  An image's bytes, by the document's answer: the ints and the texts.
-/
import Derived.Test.YthdnnlelmelegaaCodePutA
namespace Go.Proofs.Ythdnnlelmelegaa
open Go.ChangeShapes Go.WideShapes Go.ChangeAt Go.RowKit
set_option linter.unusedVariables false
attribute [local go_sem ↓] Go.wp_at_zero Go.wp_at_succ

theorem RPut.drew {W : World} {bs : List UInt8} {v : Value} {wr : World} (h : RPut W bs v wr) : RPut W bs v wr.drew := ⟨h.1.drew, h.2.drew⟩
/-- What the document's Put tells. -/
def RefPutRes (m : AImg) (w : World) (e : Ending) (w' : World) : Prop :=
  ∃ v, e = .returned v ∧ w'.ownsRow w.heap.size 5 1 v (putImg m.img).length (u8s (putImg m.img)) ∧ Below w.heap.size w w'

set_option maxRecDepth 100000 in
set_option maxHeartbeats 1000000 in
theorem refPut_any (m : AImg) (w : World) (hm : m.In w) (hb : (putImg m.img).length ≤ 1099511627776) : Calls Try.prog 12 #[m.value] w fun e w' => RefPutRes m w e w' := by
  have HD := Lib.hid (heldM_made w m hm)
  have hb1 : Below w.heap.size w (w.alloc (.cells #[.slice m.iA m.iN m.iC, .slice m.tA m.tN m.tC, .slice m.fA m.fN m.fC] 26)) := (Below.refl _ _).alloc (Nat.le_refl _) _
  have LI := Lib.hid hm.ints.ints
  have LT := Lib.hid hm.texts.strN
  have LF := Lib.hid hm.funs.fncN
  have s1 := hm.isz
  have s2 := hm.tsz
  have s3 := hm.fsz
  have hlen := hb
  rw [putImg_eq] at hlen
  simp only [List.length_append] at hlen
  rw [hm.ints.ints, hm.texts.strN, hm.funs.fncN] at hlen
  have HLEN := Lib.hid hlen
  clear hm hlen
  go_enter Try.func12, Try.ntmps12
  unfold AImg.value
  go_wp2_with fail
  have hmlt : w.heap.size < (w.alloc (.cells #[.slice m.iA m.iN m.iC, .slice m.tA m.tN m.tC, .slice m.fA m.fN m.fC] 26)).heap.size := by rw [World.size_alloc]; omega
  generalize (w.alloc (.cells #[.slice m.iA m.iN m.iC, .slice m.tA m.tN m.tC, .slice m.fA m.fN m.fC] 26)) = w2 at *
  have hp0 : RPut w2 [] (.slice none 0 0) w2 := ⟨World.ownsRow_nil _ _ _ _, Below.refl _ _⟩
  refine (rput_num m.iN (by unfold inRange; omega) hp0 (by simp)).mono ?_
  rintro e w4 ⟨v4, rfl, hw4⟩
  have HB := Lib.hid hb1
  clear hp0 hb1 hb
  go_wp2_with fail
  rw [List.nil_append] at hw4
  go_loopw [3, 4] (fun z i wr => ∃ k : Nat, i = .int .i64 k ∧ k ≤ m.iN ∧ RPut w2 (num m.iN ++ (m.ints.take k).flatMap num) z wr) (fun _ i _ => m.iN - (intOf i).toNat)
  case atStart => exact ⟨0, rfl, by omega, by rw [List.take_zero, List.flatMap_nil, List.append_nil]; exact hw4⟩
  case round =>
    clear hw4
    obtain ⟨k, rfl, hk, hw⟩ := hrel
    by_cases hlt : k < m.iN
    · obtain ⟨b, o, e, _, hc⟩ := (HD.out.hm.ints.below hw.2).int (k := k) (by have := LI.out; omega)
      have g0 := hc k (by have := LI.out; omega)
      have c0 := (HD.out.below hw.2).m0
      have hr := HD.out.hm.iall _ (List.getElem_mem (show k < m.ints.length by have := LI.out; omega))
      have hsu := flat_succ num (l := m.ints) (k := k) (by have := LI.out; omega)
      have hle := flat_le num m.ints k
      obtain ⟨r, hrr⟩ : ∃ r, m.ints[k]'(by have := LI.out; omega) = r := ⟨_, rfl⟩
      rw [hrr] at g0 hr hsu
      rw [e] at c0
      have HQ := Lib.hid (And.intro hr (And.intro hsu hle))
      have HW := Lib.hid hw
      clear hc hr hsu hle hrr e hw
      go_wp2_with fail
      clear g0 c0
      refine (rput_num r HQ.out.1 HW.out (by have h1 := HLEN.out; have h2 := HQ.out.2.2; simp only [List.length_append]; omega)).mono ?_
      rintro e w5 ⟨v5, rfl, hw5⟩
      go_wp2_with fail
      go_roundw
      case rel => exact ⟨k + 1, by go_num, by omega, by rw [HQ.out.2.1, ← List.append_assoc]; exact hw5⟩
      case measure => simp [intOf] <;> omega
    · have htk : m.ints.take k = m.ints := List.take_of_length_le (by have := LI.out; omega)
      rw [htk] at hw
      have c0 := (HD.out.below hw.2).m0
      have c1 := (HD.out.below hw.2).m1
      have HW := Lib.hid hw
      clear hw
      go_wp2_with fail
      clear c0 c1
      refine (rput_num m.tN (by unfold inRange; omega) HW.out (by have h1 := HLEN.out; simp only [List.length_append]; omega)).mono ?_
      rintro e w5 ⟨v5, rfl, hw5⟩
      clear HW
      go_wp2_with fail
      go_loopw [3, 5] (fun z i wr => ∃ k : Nat, i = .int .i64 k ∧ k ≤ m.tN ∧ RPut w2 (num m.iN ++ m.ints.flatMap num ++ num m.tN ++ (m.texts.take k).flatMap putStr) z wr) (fun _ i _ => m.tN - (intOf i).toNat)
      case atStart => exact ⟨0, rfl, by omega, by rw [List.take_zero, List.flatMap_nil, List.append_nil]; exact hw5⟩
      case round =>
        clear hw5
        obtain ⟨k2, rfl, hk2, hw⟩ := hrel
        by_cases hlt2 : k2 < m.tN
        · obtain ⟨b, o, e, _, hc⟩ := (HD.out.hm.texts.below hw.2).str (k := k2) (by have := LT.out; omega)
          have g0 := hc k2 (by have := LT.out; omega)
          have c1 := (HD.out.below hw.2).m1
          rw [e] at c1
          have hr := HD.out.hm.tall _ (List.getElem_mem (show k2 < m.texts.length by have := LT.out; omega))
          have hsu := flat_succ putStr (l := m.texts) (k := k2) (by have := LT.out; omega)
          have hle := flat_le putStr m.texts (k2 + 1)
          obtain ⟨r, hrr⟩ : ∃ r, m.texts[k2]'(by have := LT.out; omega) = r := ⟨_, rfl⟩
          rw [hrr] at g0 hr hsu
          have hl2 := congrArg List.length hsu
          have hp : (putStr r).length = (num r.length).length + r.length := by unfold putStr; rw [List.length_append]
          rw [List.length_append, hp] at hl2
          have hsz := bstr_size r
          have HQ := Lib.hid (And.intro hr (And.intro hsu (And.intro hle (And.intro hl2 hsz))))
          unfold maxLen at hr
          have hr2 : r.length ≤ 9223372036854775807 := hr
          have hlr : inRange ((bstr r).size : Int) := by unfold inRange; rw [hsz]; omega
          have HLR := Lib.hid hlr
          obtain ⟨ii, hii, hi1, hi2, hi3⟩ := infoU8
          have HI := Lib.hid (And.intro hii (And.intro hi1 (And.intro hi2 hi3)))
          have hbound : (num m.iN ++ m.ints.flatMap num ++ num m.tN ++ (m.texts.take k2).flatMap putStr ++ num ((bstr r).size : Int)).length + (bstr r).size ≤ 1099511627776 := by
            have h1 := HLEN.out; have h2 := HQ.out.2.2.1; have h3 := HQ.out.2.2.2.1; have h4 := HQ.out.2.2.2.2
            rw [h4]
            simp only [List.length_append]; omega
          have HBD := Lib.hid hbound
          have hb0 : (num m.iN ++ m.ints.flatMap num ++ num m.tN ++ (m.texts.take k2).flatMap putStr).length ≤ 1099511627776 := by rw [List.length_append] at hbound; omega
          have HW := Lib.hid (And.intro hw.drew hb0)
          have hbl : b < wr.heap.size := World.block_lt_of_cell? wr _ g0
          obtain ⟨bs5, hbs5⟩ : ∃ bs5, num m.iN ++ m.ints.flatMap num ++ num m.tN ++ (m.texts.take k2).flatMap putStr = bs5 := ⟨_, rfl⟩
          rw [hbs5] at HW HBD
          have HBS := Lib.hid hbs5
          have HG := Lib.hid (And.intro c1 g0)
          have hS : ∀ w6, Below w2.heap.size w2 w6 → w6.cell? ⟨w.heap.size, 1, none⟩ = some (.slice (some ⟨b, o, none⟩) m.tN m.tC) ∧ w6.cell? ⟨b, o + k2, none⟩ = some (.string (bstr r)) := by
            intro w6 h6
            refine ⟨?_, ?_⟩
            · have h := (HD.out.below h6).m1
              rw [e] at h; exact h
            · obtain ⟨b', o', e', _, hc'⟩ := (HD.out.hm.texts.below h6).str (k := k2) (by have := LT.out; omega)
              rw [e] at e'; cases e'
              rw [hc' k2 (by have := LT.out; omega), hrr]
          have HS := Lib.hid hS
          have k0 : (0 : Int) ≤ (k2 : Int) := Int.natCast_nonneg _
          have k1 : (k2 : Int) < (m.tN : Int) := by omega
          clear hc hr hsu hle hrr hl2 hsz hlr hp hr2 e hw hii hi1 hi2 hi3 hbound hb0 hbs5 hS
          go_wp2_with fail
          go_region_held3 (fun w' => w'.cell? ⟨w.heap.size, 1, none⟩ = some (.slice (some ⟨b, o, none⟩) m.tN m.tC) ∧ w'.cell? ⟨b, o + k2, none⟩ = some (.string (bstr r)))
            (first | exact HS.out _ hw6.2 | exact HS.out _ hw7.2 | go_keep | fail)
            (first
              | (go_at_call 24; refine (rput_num ((bstr r).size : Int) HLR.out HW.out.1 HW.out.2).mono ?_; rintro e w6 ⟨v6, rfl, hw6⟩)
              | (refine step_append_str (by rfl) (.tmp 48) (.tmp 53) 29 9 (by rfl) w2.heap.size 5 ii Try.underlying29 Try.underlying9 HI.out.1 HI.out.2.1 HI.out.2.2.1 HI.out.2.2.2 v6 (bs5 ++ num ((bstr r).size : Int)).length _ (by rfl) hw6.1 r (by rfl) (by have := HBD.out; simp only [maxLen]; omega) (by have := HBD.out; omega) hw6.size ?_; intro v7 w7 hown7 hg7; have hw7 := rput_str hw6 hown7 hg7)
              | fail)
          go_wp2_with fail
          go_roundw
          case rel =>
            have h1 := HBS.out
            have h2 := HQ.out.2.1
            have h3 := HQ.out.2.2.2.2
            have e2 : bs5 ++ num ((bstr r).size : Int) ++ r = num m.iN ++ m.ints.flatMap num ++ num m.tN ++ (m.texts.take (k2 + 1)).flatMap putStr := by
              rw [← h1, h3, h2]
              unfold putStr
              simp only [List.append_assoc]
            rw [e2] at hw7
            exact ⟨k2 + 1, by go_num, by omega, hw7⟩
          case measure => simp [intOf] <;> omega
        · have htk2 : m.texts.take k2 = m.texts := List.take_of_length_le (by have := LT.out; omega)
          rw [htk2] at hw
          have c1 := (HD.out.below hw.2).m1
          have c2 := (HD.out.below hw.2).m2
          have HW := Lib.hid hw
          clear hw
          go_wp2_with fail
          clear c1 c2
          refine (rput_num m.fN (by unfold inRange; omega) HW.out (by have h1 := HLEN.out; simp only [List.length_append]; omega)).mono ?_
          rintro e w5 ⟨v5, rfl, hw5⟩
          clear HW
          go_wp2_with fail
          go_loopw [3, 6] (fun z i wr => ∃ k : Nat, i = .int .i64 k ∧ k ≤ m.fN ∧ RPut w2 (num m.iN ++ m.ints.flatMap num ++ num m.tN ++ m.texts.flatMap putStr ++ num m.fN ++ (m.funs.take k).flatMap (fun f => putFnc f.fnc)) z wr) (fun _ i _ => m.fN - (intOf i).toNat)
          case atStart => exact ⟨0, rfl, by omega, by rw [List.take_zero, List.flatMap_nil, List.append_nil]; exact hw5⟩
          case round =>
            clear hw5
            obtain ⟨k3, rfl, hk3, hw⟩ := hrel
            by_cases hlt3 : k3 < m.fN
            · obtain ⟨b, o, e, _, hc⟩ := (HD.out.hm.funs.below hw.2).fnc (k := k3) (by have := LF.out; omega)
              have g := hc k3 (by have := LF.out; omega)
              have hfi := HD.out.hm.fall _ (List.getElem_mem (show k3 < m.funs.length by have := LF.out; omega))
              have hsu := flat_succ (fun f : AFnc => putFnc f.fnc) (l := m.funs) (k := k3) (by have := LF.out; omega)
              have hle := flat_le (fun f : AFnc => putFnc f.fnc) m.funs (k3 + 1)
              obtain ⟨f, hf⟩ : ∃ f, m.funs[k3]'(by have := LF.out; omega) = f := ⟨_, rfl⟩
              rw [hf] at g hfi hsu
              have c2 := (HD.out.below hw.2).m2
              rw [e] at c2
              obtain ⟨g1, g2, g3⟩ := g
              have HN := Lib.hid hfi.rd.insN
              have hz := hfi.sz
              have HF := Lib.hid hfi
              have hput : putFnc f.fnc = num f.regs ++ num f.caps ++ num f.n ++ f.code.flatMap (fun x => putIns x.ins) := by
                unfold putFnc
                show num f.regs ++ num f.caps ++ num ((f.code.map AIns.ins).length : Int) ++ (f.code.map AIns.ins).flatMap putIns = _
                rw [List.length_map, List.flatMap_map, HN.out]
              rw [hput] at hsu
              have hl2 := congrArg List.length hsu
              simp only [List.length_append] at hl2
              obtain ⟨base, hbase⟩ : ∃ base, num m.iN ++ m.ints.flatMap num ++ num m.tN ++ m.texts.flatMap putStr ++ num m.fN ++ (m.funs.take k3).flatMap (fun f => putFnc f.fnc) = base := ⟨_, rfl⟩
              rw [hbase] at hw
              have hbl : base.length + (num f.regs).length + (num f.caps).length + (num f.n).length + (f.code.flatMap (fun x => putIns x.ins)).length ≤ 1099511627776 := by
                rw [← hbase]
                have h1 := HLEN.out
                simp only [List.length_append]
                omega
              have HBL := Lib.hid hbl
              have HSU := Lib.hid (And.intro hsu hbase)
              have hKf := Kp.new hw (.cells #[.int .i64 f.regs, .int .i64 f.caps, .slice f.A f.n f.c] 44)
              have hwa := hw.alloc (.cells #[.int .i64 f.regs, .int .i64 f.caps, .slice f.A f.n f.c] 44)
              have x1 := cell_new wr #[.int .i64 f.regs, .int .i64 f.caps, .slice f.A f.n f.c] 44 1 (v := .int .i64 f.caps) (fr := (0, 0)) rfl
              have x2 := cell_new wr #[.int .i64 f.regs, .int .i64 f.caps, .slice f.A f.n f.c] 44 2 (v := .slice f.A f.n f.c) (fr := (0, 0)) rfl
              have HA := Lib.hid (And.intro hwa (And.intro hKf (And.intro x1 x2)))
              clear hc hfi hsu hle hf hl2 hput hbl hbase e hw hwa hKf x1 x2
              go_wp2_with fail
              clear c2 g1 g2 g3
              generalize (wr.alloc (.cells #[.int .i64 f.regs, .int .i64 f.caps, .slice f.A f.n f.c] 44)) = wf at *
              generalize wr.heap.size = gf at *
              refine (rput_numK f.regs HF.out.regs HA.out.1 (by have := HBL.out; omega)).mono ?_
              rintro e w5 ⟨v5, rfl, hw5, hk5⟩
              have hK5 := HA.out.2.1.wk hk5
              have y1 := hK5.cell HA.out.2.2.1
              clear hk5
              go_wp2_with fail
              clear y1
              refine (rput_numK f.caps HF.out.caps hw5 (by have := HBL.out; simp only [List.length_append]; omega)).mono ?_
              rintro e w6 ⟨v6, rfl, hw6, hk6⟩
              have hK6 := hK5.wk hk6
              have y2 := hK6.cell HA.out.2.2.2
              clear hk6 hw5 hK5
              go_wp2_with fail
              clear y2
              refine (rput_numK f.n (by unfold inRange; omega) hw6 (by have := HBL.out; simp only [List.length_append]; omega)).mono ?_
              rintro e w7 ⟨v7, rfl, hw7, hk7⟩
              have hK7 := hK6.wk hk7
              clear hk7 hw6 hK6
              go_wp2_with fail
              go_loopw [3, 8] (fun z i wr => ∃ k : Nat, i = .int .i64 k ∧ k ≤ f.n ∧ RPut w2 (base ++ num f.regs ++ num f.caps ++ num f.n ++ (f.code.take k).flatMap (fun x => putIns x.ins)) z wr ∧ Kp wf gf z wr) (fun _ i _ => f.n - (intOf i).toNat)
              case atStart => exact ⟨0, rfl, by omega, by rw [List.take_zero, List.flatMap_nil, List.append_nil]; exact hw7, hK7⟩
              case round =>
                clear hw7 hK7
                obtain ⟨k4, rfl, hk4, hw, hK⟩ := hrel
                have y2 := hK.cell HA.out.2.2.2
                by_cases hlt4 : k4 < f.n
                · obtain ⟨ib, io, e, _, hc⟩ := (HF.out.rd.below hw.2).ins (k := k4) (by have := HN.out; omega)
                  obtain ⟨g0, g1, g2⟩ := hc k4 (by have := HN.out; omega)
                  have hxi := HF.out.all _ (List.getElem_mem (show k4 < f.code.length by have := HN.out; omega))
                  have hsucc := flat_succ (fun x : AIns => putIns x.ins) (l := f.code) (k := k4) (by have := HN.out; omega)
                  have hle := flat_le (fun x : AIns => putIns x.ins) f.code (k4 + 1)
                  obtain ⟨x, hx⟩ : ∃ x, f.code[k4]'(by have := HN.out; omega) = x := ⟨_, rfl⟩
                  rw [hx] at g0 g1 g2 hxi hsucc
                  rw [e] at y2
                  have hxn := hxi.rd.ints
                  have hput : putIns x.ins = num x.op ++ num x.a ++ num x.n ++ x.l.flatMap num := by
                    unfold putIns
                    show num x.op ++ num x.a ++ num (x.l.length : Int) ++ _ = _
                    rw [hxn]; rfl
                  rw [hput] at hsucc
                  have hl2 := congrArg List.length hsucc
                  simp only [List.length_append] at hl2
                  have hz2 := hxi.sz
                  obtain ⟨bs4, hbs4⟩ : ∃ bs4, base ++ num f.regs ++ num f.caps ++ num f.n ++ (f.code.take k4).flatMap (fun x => putIns x.ins) = bs4 := ⟨_, rfl⟩
                  rw [hbs4] at hw
                  have hbl : bs4.length + (num x.op).length + (num x.a).length + (num x.n).length + (x.l.flatMap num).length ≤ 1099511627776 := by
                    rw [← hbs4]
                    have h1 := HBL.out
                    simp only [List.length_append]
                    omega
                  have HBL4 := Lib.hid hbl
                  have HX := Lib.hid (And.intro hxi (And.intro hsucc (And.intro hbs4 hxn)))
                  have hKx := Kp.new hw (.cells #[.int .i64 x.op, .int .i64 x.a, .slice x.A x.n x.c] 47)
                  have hwa := hw.alloc (.cells #[.int .i64 x.op, .int .i64 x.a, .slice x.A x.n x.c] 47)
                  have hKa := hK.alloc (.cells #[.int .i64 x.op, .int .i64 x.a, .slice x.A x.n x.c] 47)
                  have x1 := cell_new wr #[.int .i64 x.op, .int .i64 x.a, .slice x.A x.n x.c] 47 1 (v := .int .i64 x.a) (fr := (0, 0)) rfl
                  have x2 := cell_new wr #[.int .i64 x.op, .int .i64 x.a, .slice x.A x.n x.c] 47 2 (v := .slice x.A x.n x.c) (fr := (0, 0)) rfl
                  have HAX := Lib.hid (And.intro hwa (And.intro hKa (And.intro hKx (And.intro x1 x2))))
                  clear hc hxi hsucc hle hx hl2 hput hbl hbs4 e hw hK hwa hKx hKa x1 x2 hxn
                  go_wp2_with fail
                  clear y2 g0 g1 g2
                  generalize (wr.alloc (.cells #[.int .i64 x.op, .int .i64 x.a, .slice x.A x.n x.c] 47)) = wx at *
                  generalize wr.heap.size = gx at *
                  refine (rput_numK x.op HX.out.1.op HAX.out.1 (by have := HBL4.out; omega)).mono ?_
                  rintro e w5 ⟨v5, rfl, hw5, hk5⟩
                  have hF5 := HAX.out.2.1.wk hk5
                  have hK5 := HAX.out.2.2.1.wk hk5
                  have y1 := hK5.cell HAX.out.2.2.2.1
                  clear hk5
                  go_wp2_with fail
                  clear y1
                  refine (rput_numK x.a HX.out.1.a hw5 (by have := HBL4.out; simp only [List.length_append]; omega)).mono ?_
                  rintro e w6 ⟨v6, rfl, hw6, hk6⟩
                  have hF6 := hF5.wk hk6
                  have hK6 := hK5.wk hk6
                  have y2 := hK6.cell HAX.out.2.2.2.2
                  clear hk6 hw5 hK5 hF5
                  go_wp2_with fail
                  clear y2
                  refine (rput_numK x.n (by unfold inRange; omega) hw6 (by have := HBL4.out; simp only [List.length_append]; omega)).mono ?_
                  rintro e w7 ⟨v7, rfl, hw7, hk7⟩
                  have hF7 := hF6.wk hk7
                  have hK7 := hK6.wk hk7
                  clear hk7 hw6 hK6 hF6
                  go_wp2_with fail
                  go_loopw [3, 10] (fun z i wr => ∃ k : Nat, i = .int .i64 k ∧ k ≤ x.n ∧ RPut w2 (bs4 ++ num x.op ++ num x.a ++ num x.n ++ (x.l.take k).flatMap num) z wr ∧ Kp wf gf z wr ∧ Kp wx gx z wr) (fun _ i _ => x.n - (intOf i).toNat)
                  case atStart => exact ⟨0, rfl, by omega, by rw [List.take_zero, List.flatMap_nil, List.append_nil]; exact hw7, hF7, hK7⟩
                  case round =>
                    clear hw7 hK7 hF7
                    obtain ⟨q, rfl, hq, hw, hF, hK⟩ := hrel
                    have y2 := hK.cell HAX.out.2.2.2.2
                    by_cases hltq : q < x.n
                    · obtain ⟨b2, o2, e, _, hc⟩ := (HX.out.1.rd.below hw.2).int (k := q) (by have := HX.out.2.2.2; omega)
                      have g0 := hc q (by have := HX.out.2.2.2; omega)
                      have hrg := HX.out.1.all _ (List.getElem_mem (show q < x.l.length by have := HX.out.2.2.2; omega))
                      have hsq := flat_succ num (l := x.l) (k := q) (by have := HX.out.2.2.2; omega)
                      have hlq := flat_le num x.l q
                      obtain ⟨r, hr⟩ : ∃ r, x.l[q]'(by have := HX.out.2.2.2; omega) = r := ⟨_, rfl⟩
                      rw [hr] at g0 hrg hsq
                      rw [e] at y2
                      have HQ := Lib.hid (And.intro hrg (And.intro hsq hlq))
                      have HW := Lib.hid (And.intro hw (And.intro hF hK))
                      clear hc hrg hsq hlq hr e hw hF hK
                      go_wp2_with fail
                      clear g0 y2
                      refine (rput_numK r HQ.out.1 HW.out.1 (by have h1 := HBL4.out; have h2 := HQ.out.2.2; simp only [List.length_append]; omega)).mono ?_
                      rintro e w8 ⟨v8, rfl, hw8, hk8⟩
                      go_wp2_with fail
                      go_roundw
                      case rel => exact ⟨q + 1, by go_num, by omega, by rw [HQ.out.2.1, ← List.append_assoc]; exact hw8, HW.out.2.1.wk hk8, HW.out.2.2.wk hk8⟩
                      case measure => simp [intOf] <;> omega
                    · have htk : x.l.take q = x.l := List.take_of_length_le (by have := HX.out.2.2.2; omega)
                      rw [htk] at hw
                      have HW := Lib.hid (And.intro hw hF)
                      clear hw hF hK
                      go_wp2_with fail
                      go_roundw
                      case rel =>
                        refine ⟨k4 + 1, by go_num, by omega, ?_, HW.out.2⟩
                        rw [HX.out.2.1]
                        have h1 := HX.out.2.2.1
                        have h2 := HW.out.1
                        rw [← h1] at h2
                        simpa only [List.append_assoc] using h2
                      case measure => simp [intOf] <;> omega
                · have htk4 : f.code.take k4 = f.code := List.take_of_length_le (by have := HN.out; omega)
                  rw [htk4] at hw
                  have HW := Lib.hid hw
                  clear hw hK
                  go_wp2_with fail
                  go_roundw
                  case rel =>
                    refine ⟨k3 + 1, by go_num, by omega, ?_⟩
                    rw [HSU.out.1]
                    have h1 := HSU.out.2
                    have h2 := HW.out
                    rw [← h1] at h2
                    simpa only [List.append_assoc] using h2
                  case measure => simp [intOf] <;> omega
            · have htk3 : m.funs.take k3 = m.funs := List.take_of_length_le (by have := LF.out; omega)
              rw [htk3] at hw
              have e : putImg m.img = num m.iN ++ m.ints.flatMap num ++ num m.tN ++ m.texts.flatMap putStr ++ num m.fN ++ m.funs.flatMap (fun f => putFnc f.fnc) := by rw [putImg_eq, LI.out, LT.out, LF.out]
              rw [← e] at hw
              have c2 := (HD.out.below hw.2).m2
              have HF := Lib.hid hw
              clear hw e
              go_wp2_with fail
              go_returns
              exact ⟨_, rfl, ownsRow_mono HF.out.1 (by omega), below_then HB.out HF.out.2⟩
end Go.Proofs.Ythdnnlelmelegaa
