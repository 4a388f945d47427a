/-
  Whether an instruction may be, by the document's answer: the function.
-/
import Derived.Test.YthdnnlelmelegaaCodeM
import Derived.Lib.QuietBelow
namespace Go.Proofs.Ythdnnlelmelegaa
open Go.ChangeShapes Go.WideShapes Go.ChangeAt Go.RowKit Go.Sort
set_option linter.unusedVariables false

theorem limit_any2 (m : AImg) (f : AFnc) (x : AIns) (i : Nat) (w : World) (hi : i < 140737488351232) :
    Calls Try.prog 28 #[.agg #[.slice m.iA m.iN m.iC, .slice m.tA m.tN m.tC, .slice m.fA m.fN m.fC], .agg #[.int .i64 f.regs, .int .i64 f.caps, .slice f.A f.n f.c], .agg #[.int .i64 x.op, .int .i64 x.a, .slice x.A x.n x.c], .int .i64 i] w fun e w' => e = .returned (.int .i64 (limB m f x i)) ∧ Below w.heap.size w w' := limit_any m f x i w hi
theorem refIn_below (n m : Int) (w : World) : Calls Try.prog 27 #[.int .i64 n, .int .i64 m] w fun e w' => e = .returned (.bool (isInB n m)) ∧ Below w.heap.size w w' :=
  (refIn_any n m w).mono fun _ _ ⟨he, hw⟩ => ⟨he, by rw [hw]; exact Below.refl _ _⟩

theorem cnt_cases (op : Int) (n : Nat) : (cntB op n = true ↔ ¬ opc op = -3 ∧ ¬ (opc op = -1 ∧ n = 0) ∧ ¬ (0 ≤ opc op ∧ ¬ opc op = n)) := by
  unfold cntB
  rw [decide_eq_true_iff]
  constructor
  · rintro ⟨a, b, c⟩; exact ⟨a, fun h => b h.1 h.2, fun h => h.2 (c h.1)⟩
  · rintro ⟨a, b, c⟩; exact ⟨a, fun h h' => b ⟨h, h'⟩, fun h => Decidable.byContradiction fun h' => c ⟨h, h'⟩⟩

set_option maxHeartbeats 2000000 in
theorem fits_no (m : AImg) (f : AFnc) (x : AIns) (w : World) (hm : m.In w) (hf : f.In w) (hx : x.In w) (hc : cntB x.op x.n = false) :
    Calls Try.prog 15 #[m.value, .agg #[.int .i64 f.regs, .int .i64 f.caps, .slice f.A f.n f.c], .agg #[.int .i64 x.op, .int .i64 x.a, .slice x.A x.n x.c]] w fun e w' => e = .returned (.bool (fitsB m f x)) ∧ Below w.heap.size w w' := by
  have hb0 : ∀ o1 o2 o3 : Obj, Below w.heap.size w (((w.alloc o1).alloc o2).alloc o3) := fun o1 o2 o3 => (((Below.refl _ _).alloc (Nat.le_refl _) _).alloc (by simp) _).alloc (by simp; omega) _
  have e : fitsB m f x = false := by unfold fitsB; rw [hc]; rfl
  have HE := Lib.hid e
  have hcc : opc x.op = -3 ∨ (opc x.op = -1 ∧ x.n = 0) ∨ (0 ≤ opc x.op ∧ ¬ opc x.op = x.n) := by
    by_cases a : opc x.op = -3
    · exact .inl a
    · by_cases b : opc x.op = -1 ∧ x.n = 0
      · exact .inr (.inl b)
      · by_cases c : 0 ≤ opc x.op ∧ ¬ opc x.op = x.n
        · exact .inr (.inr c)
        · have := (cnt_cases x.op x.n).2 ⟨a, b, c⟩
          rw [hc] at this; cases this
  have s5 := hx.sz
  clear e hc hm hf hx
  obtain ⟨v, hv⟩ : ∃ v, opc x.op = v := ⟨_, rfl⟩
  rw [hv] at hcc
  have HV := Lib.hid hv
  clear hv
  rcases hcc with rfl | ⟨rfl, hn⟩ | ⟨h1, h2⟩
  · go_enter Try.func15, Try.ntmps15
    unfold AImg.value
    go_wp2_with fail
    refine (count_any x.op _).mono ?_
    rw [HV.out]
    rintro e w1 ⟨rfl, rfl⟩
    go_wp2_with fail
    go_returns
    exact ⟨by rw [HE.out]; rfl, hb0 _ _ _⟩
  · go_enter Try.func15, Try.ntmps15
    unfold AImg.value
    rw [hn]
    clear hn
    go_wp2_with fail
    refine (count_any x.op _).mono ?_
    rw [HV.out]
    rintro e w1 ⟨rfl, rfl⟩
    go_wp2_with fail
    go_returns
    exact ⟨by rw [HE.out]; rfl, hb0 _ _ _⟩
  · have h3 : ¬ v = -3 := by omega
    have h4 : ¬ v = -1 := by omega
    have h5 : (v != (x.n : Int)) = true := by rw [bne_iff_ne]; exact h2
    go_enter Try.func15, Try.ntmps15
    unfold AImg.value
    go_wp2_with fail
    refine (count_any x.op _).mono ?_
    rw [HV.out]
    rintro e w1 ⟨rfl, rfl⟩
    go_wp2_with fail
    go_returns
    exact ⟨by rw [HE.out]; rfl, hb0 _ _ _⟩

/-- The image, the function and the instruction as the call holds them. -/
structure Held3 (w : World) (h : Nat) (m : AImg) (f : AFnc) (x : AIns) : Prop where
  m0 : w.cell? ⟨h, 0, none⟩ = some (.slice m.iA m.iN m.iC)
  m1 : w.cell? ⟨h, 1, none⟩ = some (.slice m.tA m.tN m.tC)
  m2 : w.cell? ⟨h, 2, none⟩ = some (.slice m.fA m.fN m.fC)
  f0 : w.cell? ⟨h + 1, 0, none⟩ = some (.int .i64 f.regs)
  f1 : w.cell? ⟨h + 1, 1, none⟩ = some (.int .i64 f.caps)
  f2 : w.cell? ⟨h + 1, 2, none⟩ = some (.slice f.A f.n f.c)
  x0 : w.cell? ⟨h + 1 + 1, 0, none⟩ = some (.int .i64 x.op)
  x1 : w.cell? ⟨h + 1 + 1, 1, none⟩ = some (.int .i64 x.a)
  x2 : w.cell? ⟨h + 1 + 1, 2, none⟩ = some (.slice x.A x.n x.c)
  hm : m.In w
  hf : f.In w
  hx : x.In w
theorem Held3.below {w w' : World} {h : Nat} {m : AImg} {f : AFnc} {x : AIns} (k : Held3 w h m f x) (hb : Below w.heap.size w w') : Held3 w' h m f x :=
  ⟨cell_below hb k.m0, cell_below hb k.m1, cell_below hb k.m2, cell_below hb k.f0, cell_below hb k.f1, cell_below hb k.f2, cell_below hb k.x0, cell_below hb k.x1, cell_below hb k.x2, k.hm.below hb, k.hf.below hb, k.hx.below hb⟩
theorem held3_made (w : World) (m : AImg) (f : AFnc) (x : AIns) (hm : m.In w) (hf : f.In w) (hx : x.In w) :
    Held3 (((w.alloc (.cells #[.slice m.iA m.iN m.iC, .slice m.tA m.tN m.tC, .slice m.fA m.fN m.fC] 26)).alloc (.cells #[.int .i64 f.regs, .int .i64 f.caps, .slice f.A f.n f.c] 44)).alloc (.cells #[.int .i64 x.op, .int .i64 x.a, .slice x.A x.n x.c] 47)) w.heap.size m f x := by
  have hb0 : ∀ o1 o2 o3 : Obj, Below w.heap.size w (((w.alloc o1).alloc o2).alloc o3) := fun o1 o2 o3 => (((Below.refl _ _).alloc (Nat.le_refl _) _).alloc (by simp) _).alloc (by simp; omega) _
  have h1 : ∀ (w0 : World) (C : Array Value) (t : TypeId) (j : Nat) (v : Value), C[j]? = some v → ((w0.alloc (.cells #[.slice m.iA m.iN m.iC, .slice m.tA m.tN m.tC, .slice m.fA m.fN m.fC] 26)).alloc (.cells C t)).cell? ⟨w0.heap.size + 1, j, none⟩ = some v := by
    intro w0 C t j v hv
    have h := cell_new (w0.alloc (.cells #[.slice m.iA m.iN m.iC, .slice m.tA m.tN m.tC, .slice m.fA m.fN m.fC] 26)) C t j (fr := (0, 0)) hv
    rwa [World.size_alloc] at h
  have h2 : ∀ (C : Array Value) (t : TypeId) (j : Nat) (v : Value) (o1 o2 : Obj), C[j]? = some v → (((w.alloc o1).alloc o2).alloc (.cells C t)).cell? ⟨w.heap.size + 1 + 1, j, none⟩ = some v := by
    intro C t j v o1 o2 hv
    have h := cell_new ((w.alloc o1).alloc o2) C t j (fr := (0, 0)) hv
    rwa [World.size_alloc, World.size_alloc] at h
  exact ⟨cell_alloc (cell_alloc (cell_new w _ _ 0 rfl)), cell_alloc (cell_alloc (cell_new w _ _ 1 rfl)), cell_alloc (cell_alloc (cell_new w _ _ 2 rfl)),
    cell_alloc (h1 w _ _ 0 _ rfl), cell_alloc (h1 w _ _ 1 _ rfl), cell_alloc (h1 w _ _ 2 _ rfl), h2 _ _ 0 _ _ _ rfl, h2 _ _ 1 _ _ _ rfl, h2 _ _ 2 _ _ _ rfl, hm.below (hb0 _ _ _), hf.below (hb0 _ _ _), hx.below (hb0 _ _ _)⟩

set_option maxHeartbeats 1500000 in
theorem fits_yes (m : AImg) (f : AFnc) (x : AIns) (w : World) (hm : m.In w) (hf : f.In w) (hx : x.In w) (hc : cntB x.op x.n = true) :
    Calls Try.prog 15 #[m.value, .agg #[.int .i64 f.regs, .int .i64 f.caps, .slice f.A f.n f.c], .agg #[.int .i64 x.op, .int .i64 x.a, .slice x.A x.n x.c]] w fun e w' => e = .returned (.bool (fitsB m f x)) ∧ Below w.heap.size w w' := by
  have hb0 : ∀ o1 o2 o3 : Obj, Below w.heap.size w (((w.alloc o1).alloc o2).alloc o3) := fun o1 o2 o3 => (((Below.refl _ _).alloc (Nat.le_refl _) _).alloc (by simp) _).alloc (by simp; omega) _
  have HIF := Lib.hid (fits_iff m f x hx.rd.ints hc)
  have HE : RowKit.Hid (fitsB m f x = (okOf m f x && (regsOf x).all (fun r => isInB r f.regs) && targB f x)) := Lib.hid (by unfold fitsB; rw [hc]; rfl)
  have hcc := (cnt_cases x.op x.n).1 hc
  have s5 := hx.sz
  have HL := Lib.hid hx.rd.ints
  obtain ⟨v, hv⟩ : ∃ v, opc x.op = v := ⟨_, rfl⟩
  have hr := opc_range x.op
  rw [hv] at hcc hr
  have HV := Lib.hid hv
  have HIN := Lib.hid (And.intro hm (And.intro hf hx))
  have hvv : v = x.n ∨ (v = -1 ∧ ((x.n : Int) == 0) = false) ∨ v = -2 := by
    have h0 : ¬ x.n = 0 → ((x.n : Int) == 0) = false := fun h => by rw [beq_eq_false_iff_ne]; omega
    rcases (show v = x.n ∨ (v = -1 ∧ ¬ x.n = 0) ∨ v = -2 by omega) with h | ⟨h, h'⟩ | h
    · exact .inl h
    · exact .inr (.inl ⟨h, h0 h'⟩)
    · exact .inr (.inr h)
  have HC := Lib.hid hc
  clear hv hm hf hx hcc hr hc
  rcases hvv with rfl | ⟨rfl, h1⟩ | rfl
  all_goals
    go_enter Try.func15, Try.ntmps15
    unfold AImg.value
    go_wp2_with fail
    refine (count_any x.op _).mono ?_
    rw [HV.out]
    rintro e w1 ⟨rfl, rfl⟩
    go_wp2_with fail
    have HD := Lib.hid (held3_made w m f x HIN.out.1 HIN.out.2.1 HIN.out.2.2)
    have HB0 := Lib.hid (hb0 (.cells #[.slice m.iA m.iN m.iC, .slice m.tA m.tN m.tC, .slice m.fA m.fN m.fC] 26) (.cells #[.int .i64 f.regs, .int .i64 f.caps, .slice f.A f.n f.c] 44) (.cells #[.int .i64 x.op, .int .i64 x.a, .slice x.A x.n x.c] 47))
    clear hb0
    generalize (((w.alloc (.cells #[.slice m.iA m.iN m.iC, .slice m.tA m.tN m.tC, .slice m.fA m.fN m.fC] 26)).alloc (.cells #[.int .i64 f.regs, .int .i64 f.caps, .slice f.A f.n f.c] 44)).alloc (.cells #[.int .i64 x.op, .int .i64 x.a, .slice x.A x.n x.c] 47)) = w1 at *
    go_loopw [8] (fun i wr => ∃ k : Nat, i = .int .i64 k ∧ k ≤ x.n ∧ (∀ j (h : j < x.l.length), j < k → isInB x.l[j] (limB m f x j) = true) ∧ Below w1.heap.size w1 wr) (fun i _ => x.n - (intOf i).toNat)
    case atStart => exact ⟨0, rfl, by omega, by intro j _ h; omega, Below.refl _ _⟩
    case round =>
      obtain ⟨k, rfl, hk, he, hb⟩ := hrel
      have HEL := Lib.hid he
      clear he
      have HK := HD.out.below hb
      by_cases hlt : k < x.n
      · obtain ⟨b, o, e, _, hcl⟩ := HK.hx.rd.int (k := k) (by have := HL.out; omega)
        have g0 := hcl k (by have := HL.out; omega)
        obtain ⟨m0, m1, m2, f0, f1, f2, x0, x1, x2, _, _, _⟩ := HK
        rw [e] at x2
        clear hcl e
        have HB := Lib.hid hb
        clear hb
        rename_i hm' hf' hx'
        have HW := Lib.hid (And.intro hm' (And.intro hf' hx'))
        clear hm' hf' hx'
        go_wp2_with fail
        have cL : ∀ w0 : World, Calls Try.prog 28 #[.agg #[.slice m.iA m.iN m.iC, .slice m.tA m.tN m.tC, .slice m.fA m.fN m.fC], .agg #[.int .i64 f.regs, .int .i64 f.caps, .slice f.A f.n f.c], .agg #[.int .i64 x.op, .int .i64 x.a, .slice (some ⟨b, o, none⟩) x.n x.c], .int .i64 k] w0 fun e w' => e = .returned (.int .i64 (limB m f x k)) ∧ Below w0.heap.size w0 w' := fun w0 => limit_any m f { x with A := some ⟨b, o, none⟩ } k w0 (by omega)
        have CL := Lib.hid cL
        clear cL
        have k0 := cell_regrown g0
        have n0 := cell_regrown m0
        have n1 := cell_regrown m1
        have n2 := cell_regrown m2
        have p0 := cell_regrown f0
        have p1 := cell_regrown f1
        have p2 := cell_regrown f2
        have r0 := cell_regrown x0
        have r1 := cell_regrown x1
        have r2 := cell_regrown x2
        have i1 : (k : Int) < (x.n : Int) := by omega
        refine wp_region_quiet_below (by kernel_rfl) (by kernel_rfl) ?_
        repeat (quiet_step (first | (go_at_call 28; exact Calls.regrown_of (CL.out _)) | (go_at_call 27; exact Calls.regrown_of (refIn_below _ _ _))))
        refine wpQuiet_nil ?_
        intro _ hw'
        obtain ⟨⟨dq, osq⟩, hw''⟩ := hw'
        subst hw''
        have hbq := below_regrown wr dq osq
        have HBQ := Lib.hid (HB.out.trans (hbq.mono HB.out.size))
        clear k0 n0 n1 n2 p0 p1 p2 r0 r1 r2 g0 m0 m1 m2 f0 f1 f2 x0 x1 x2 i1 CL hbq
        generalize grow (redrawn wr dq) osq = w5 at *
        cases hin : isInB (x.l[k]'(by have := HL.out; omega)) (limB m f x k) with
        | false =>
          have hno : (okOf m f x && (regsOf x).all (fun r => isInB r f.regs)) = false := by
            cases hh : (okOf m f x && (regsOf x).all (fun r => isInB r f.regs)) with
            | false => rfl
            | true =>
              have := (HIF.out.1 hh).1 k (by have := HL.out; omega)
              rw [hin] at this; cases this
          have HNO := Lib.hid hno
          clear hno hin
          go_wp2_with fail
          go_returns
          exact ⟨by rw [HE.out, HNO.out]; rfl, below_then HB0.out HBQ.out⟩
        | true =>
          have HINB := Lib.hid hin
          clear hin
          go_wp2_with fail
          go_roundw
          case rel =>
            have hall : ∀ j (h : j < x.l.length), j < k + 1 → isInB x.l[j] (limB m f x j) = true := by
              intro j hj hjk
              rcases Nat.lt_succ_iff_lt_or_eq.1 hjk with h' | h'
              · exact HEL.out j hj h'
              · subst h'; exact HINB.out
            first
            | exact ⟨k + 1, by go_num, by omega, hall, HBQ.out⟩
            | ((repeat apply Exists.intro); exact ⟨⟨k + 1, by go_num, by omega, hall, HBQ.out⟩, rfl⟩)
          case measure => simp [intOf] <;> omega
      · have HALL : RowKit.Hid (∀ i, (h : i < x.l.length) → isInB x.l[i] (limB m f x i) = true) := Lib.hid (fun i h => HEL.out i h (by have := HL.out; omega))
        have HB := Lib.hid (And.intro hb (below_then HB0.out hb))
        clear hb HEL
        by_cases h4 : x.op = 4
        · have hz : 0 < x.n := by
            have h0 : opc x.op = -1 := by rw [h4]; rfl
            have := (cnt_cases x.op x.n).1 HC.out
            have := this.2.1
            omega
          obtain ⟨b, o, e, c0⟩ := l0_cell HK.hx hz
          have hl0 := HALL.out 0 (by have := HL.out; omega)
          rw [← l0_at (x := x) (by have := HL.out; omega), show limB m f x 0 = m.fN by unfold limB; rw [h4]; rfl] at hl0
          have hl0' := of_decide_eq_true hl0
          obtain ⟨q, hq⟩ : ∃ q : Nat, l0 x = (q : Int) := ⟨(l0 x).toNat, by omega⟩
          have hfl := HK.hm.funs.fncN
          have hqf : q < m.funs.length := by omega
          obtain ⟨fb, fo, ef, _, hcc⟩ := HK.hm.funs.fnc (k := q) hqf
          have g1 := (hcc q hqf).2.1
          have hcap : capsAt m (l0 x) = m.funs[q].caps := by unfold capsAt; rw [hq, Int.toNat_natCast, List.getElem?_eq_getElem hqf]; rfl
          have hrange := (HK.hm.fall _ (List.getElem_mem hqf)).caps
          rw [← hcap] at g1 hrange
          have d2 := HK.m2
          have d0 := HK.x0
          have d1 := HK.x1
          have d3 := HK.x2
          have d4 := HK.f0
          rw [ef] at d2
          rw [e] at d3
          rw [h4] at d0
          rw [hq] at c0
          obtain ⟨W, hW⟩ : ∃ W, IntKind.i64.wrap (1 + capsAt m (l0 x)) = W := ⟨_, rfl⟩
          have hWn : (x.n : Int) = W ↔ (x.n : Int) = 1 + capsAt m (l0 x) := by
            rw [← hW, IntKind.wrap_i64]
            have h1 := hrange.1
            have h2 := hrange.2
            omega
          have ht : targB f x = isInB x.a f.regs := by unfold targB; rw [h4]; rfl
          have HT := Lib.hid ht
          have HWN := Lib.hid hWn
          have H4 := Lib.hid h4
          have HZ := Lib.hid (And.intro hz hl0')
          have HQ := Lib.hid hq
          have HKK := Lib.hid HK
          clear hz hl0 hl0' hq hfl hcc hcap hrange ht hWn h4 e ef HK
          generalize capsAt m (l0 x) = cp at *
          by_cases hne : (x.n : Int) = W
          · have HOK : RowKit.Hid ((okOf m f x && (regsOf x).all (fun r => isInB r f.regs)) = true) := Lib.hid (HIF.out.2 ⟨HALL.out, fun _ => HWN.out.1 hne⟩)
            rw [← hne] at hW
            have HNE := Lib.hid hne
            clear hne
            go_wp2_with fail
            have i1 : 0 < x.n := HZ.out.1
            have i2 : (q : Int) < (m.fN : Int) := by have := HZ.out.2; have h3 := HQ.out; omega
            go_quiet (fail)
            clear i1 i2 hW
            go_wp2_with fail
            refine (refIn_any x.a f.regs _).mono ?_
            rintro e w3 ⟨rfl, rfl⟩
            go_wp2_with fail
            go_returns
            exact ⟨by rw [HE.out, HOK.out, HT.out]; rfl, below_then HB.out.2 (below_drewN (Below.refl _ _) _)⟩
          · have HOK : RowKit.Hid ((okOf m f x && (regsOf x).all (fun r => isInB r f.regs)) = false) := Lib.hid (by
              cases hh : (okOf m f x && (regsOf x).all (fun r => isInB r f.regs)) with
              | false => rfl
              | true => exact absurd (HWN.out.2 ((HIF.out.1 hh).2 H4.out)) hne)
            go_wp2_with fail
            have i1 : 0 < x.n := HZ.out.1
            have i2 : (q : Int) < (m.fN : Int) := by have := HZ.out.2; have h3 := HQ.out; omega
            go_quiet (fail)
            clear i1 i2 hW
            go_wp2_with fail
            go_returns
            exact ⟨by rw [HE.out, HOK.out]; rfl, below_then HB.out.2 (below_drewN (Below.refl _ _) _)⟩
        · have HOK : RowKit.Hid ((okOf m f x && (regsOf x).all (fun r => isInB r f.regs)) = true) := Lib.hid (HIF.out.2 ⟨HALL.out, fun h => absurd h h4⟩)
          have d0 := HK.x0
          have d1 := HK.x1
          have d3 := HK.x2
          have d4 := HK.f0
          have HKK := Lib.hid HK
          clear HK
          by_cases h22 : x.op = 22
          · have ht : targB f x = decide (x.a = 0) := by unfold targB; rw [h22]; rfl
            have HT := Lib.hid ht
            rw [h22] at d0
            clear ht h22 h4
            go_wp2_with fail
            go_returns
            exact ⟨by rw [HE.out, HOK.out, HT.out]; rfl, HB.out.2⟩
          by_cases h23 : x.op = 23
          · have ht : targB f x = decide (x.a = 0) := by unfold targB; rw [h23]; rfl
            have HT := Lib.hid ht
            rw [h23] at d0
            clear ht h22 h23 h4
            go_wp2_with fail
            go_returns
            exact ⟨by rw [HE.out, HOK.out, HT.out]; rfl, HB.out.2⟩
          by_cases h24 : x.op = 24
          · have ht : targB f x = decide (x.a = 0) := by unfold targB; rw [h24]; rfl
            have HT := Lib.hid ht
            rw [h24] at d0
            clear ht h22 h23 h24 h4
            go_wp2_with fail
            go_returns
            exact ⟨by rw [HE.out, HOK.out, HT.out]; rfl, HB.out.2⟩
          have ht : targB f x = isInB x.a f.regs := by unfold targB; rw [if_neg h22, if_neg h23, if_neg h24]
          have HT := Lib.hid ht
          have q4 : (x.op == 4) = false := by simpa using h4
          have q22 : (x.op == 22) = false := by simpa using h22
          have q23 : (x.op == 23) = false := by simpa using h23
          have q24 : (x.op == 24) = false := by simpa using h24
          clear ht h4
          go_wp2_with fail
          refine (refIn_any x.a f.regs _).mono ?_
          rintro e w3 ⟨rfl, rfl⟩
          go_wp2_with fail
          go_returns
          exact ⟨by rw [HE.out, HOK.out, HT.out]; rfl, HB.out.2⟩
end Go.Proofs.Ythdnnlelmelegaa
