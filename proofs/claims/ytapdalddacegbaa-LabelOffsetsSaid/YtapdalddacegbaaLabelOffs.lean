/-
  The walk of LabelOffsets.
-/
import Derived.Test.YtapdalddacegbaaLabelSets
import Derived.Deep.RegionHeld3
namespace Go.Proofs.Ytapdalddacegbaa
open Go.ChangeShapes Go.WideShapes Go.ChangeAt Go.RowKit
set_option linter.unusedVariables false

theorem strs_append_one (l : List Str) (s : Str) : strs (l ++ [s]) = strs l ++ [.string (bstr s)] := by simp [strs]

/-- 'append' in a region that draws its order. -/
theorem step_app {P : Program} {t e : TypeId} {z : Value} {size bytes : Nat} (T : ElemTy P t e z size bytes) (w : World) {ops : Array Oper} {o : Oper} {a : Act} {K : Act → World → Prop} {Q : Exit → Act → World → Prop} {E : Prop} (hgd : o.guard = none) (s x : Operand)
    (ho : o.op = .call { callee := .builtin .append, args := #[s, x], argTypes := #[t, t] }) (base : Nat)
    (v : Value) (n : Nat) (xs : List Value) (hs : a.eval s = v) (hown : w.ownsRow base e size v n xs) (A : Option Addr) (m c : Nat) (news : List Value) (hx : a.eval x = .slice A m c) (hr : Rd w size A m news) (h1 : ∀ u ∈ news, u.oneCell' = true)
    (hbytes : (n + m) * bytes ≤ 140737488355328) (hbase : base ≤ w.heap.size)
    (h : ∀ v' w', w'.ownsRow base e size v' (n + m) (xs ++ news) → Below base w w' → w.grownBy w' v.ownBlock → (v'.ownBlock = v.ownBlock ∨ v'.ownBlock = some w.heap.size) → K (a.put o.dst v') w') :
    if Region.wanted o (yielded ops a.tmps) = true then Oper.wp P o a w K Q else E := by
  have hw : Region.wanted o (yielded ops a.tmps) = true := by simp [Region.wanted, hgd]
  rw [if_pos hw]
  obtain ⟨v', w', hrun, h2, h3, h4⟩ := run_app T w o.type base v n xs hown A m c news hr h1 hbytes hbase
  unfold Oper.wp execOp
  simp only [ho, resolve, invoke, builtin, Sem.run_bind, Sem.run_pure, Result.andThen_ok, List.map_toArray, List.map_cons, List.map_nil, hs, hx, hrun]
  exact h v' w' h2 ((Below.refl _ _).grown h3 hbase (fun k hk => (hown.lt k hk).1)) h3 h4

theorem offs_out (A B : Option Addr) (a b : List Str) (s : Str) (n c m d : Nat) (w : World) (hm : n ≤ maxLen) (hm2 : m ≤ maxLen)
    (hra : Rd w 1 A n (strs a)) (hrb : Rd w 1 B m (strs b)) (hbig : smallL a = false ∨ smallL b = false ∨ 100 < s.length) :
    Calls Try.prog 4 #[.slice A n c, .slice B m d, .string (bstr s)] w fun e w' => e = .returned (.bool true) ∧ Below w.heap.size w w' := by
  have HB := Lib.hid hbig
  clear hbig
  go_enter Try.func4, Try.ntmps4
  go_wp2_with fail
  refine (up_any _).mono ?_
  rintro e w1 ⟨rfl, hb1⟩
  go_wp2_with fail
  cases ha : smallL a with
  | false =>
    have HA := Lib.hid ha
    clear ha
    refine (small_any A a n c _ (hra.below hb1) hm).mono ?_
    rw [HA.out]
    rintro e w2 ⟨rfl, hb2⟩
    go_wp2_with fail
    go_returns
    exact ⟨rfl, below_then hb1 hb2⟩
  | true =>
    have HA := Lib.hid ha
    clear ha
    refine (small_any A a n c _ (hra.below hb1) hm).mono ?_
    rw [HA.out]
    rintro e w2 ⟨rfl, hb2⟩
    have b2 := below_then hb1 hb2
    clear hb1 hb2
    go_wp2_with fail
    cases hbb : smallL b with
    | false =>
      have HBB := Lib.hid hbb
      clear hbb
      refine (small_any B b m d _ (hrb.below b2) hm2).mono ?_
      rw [HBB.out]
      rintro e w3 ⟨rfl, hb3⟩
      go_wp2_with fail
      go_returns
      exact ⟨rfl, below_then b2 hb3⟩
    | true =>
      have HBB := Lib.hid hbb
      have hs : 100 < (bstr s).size := by
        rw [bstr_size]
        rcases HB.out with h | h | h
        · rw [HA.out] at h; cases h
        · rw [hbb] at h; cases h
        · exact h
      clear hbb
      refine (small_any B b m d _ (hrb.below b2) hm2).mono ?_
      rw [HBB.out]
      rintro e w3 ⟨rfl, hb3⟩
      go_wp2_with fail
      go_returns
      exact ⟨rfl, below_then b2 hb3⟩

set_option maxHeartbeats 2000000 in
theorem offs_in (A B : Option Addr) (a b : List Str) (s : Str) (n c m d : Nat) (w : World) (hm : n ≤ maxLen) (hm2 : m ≤ maxLen)
    (hra : Rd w 1 A n (strs a)) (hrb : Rd w 1 B m (strs b)) (ha : smallL a = true) (hb : smallL b = true) (hs : s.length ≤ 100) :
    Calls Try.prog 4 #[.slice A n c, .slice B m d, .string (bstr s)] w fun e w' => e = .returned (.bool true) ∧ Below w.heap.size w w' := by
  have ha2 := small_true ha
  have hb2 := small_true hb
  have hla := rd_len hra
  have hlb := rd_len hrb
  have hsz : (bstr s).size ≤ 100 := by rw [bstr_size]; exact hs
  have hx := Nat.le_trans (setOf_length_le a) ha2
  have hy := Nat.le_trans (setOf_length_le b) hb2
  have HA := Lib.hid ha
  have HB := Lib.hid hb
  have HLA := Lib.hid hla
  have HLB := Lib.hid hlb
  have hn : n ≤ 200 := by omega
  have hm' : m ≤ 200 := by omega
  have ox := setOf_order a
  have oy := setOf_order b
  have hnx : (setOf a).length ≤ maxLen := by unfold maxLen; omega
  have hny : (setOf b).length ≤ maxLen := by unfold maxLen; omega
  clear ha hb hla hlb hs
  generalize hX : setOf a = X at hx hnx ox
  generalize hY : setOf b = Y at hy hny oy
  have HX := Lib.hid hX
  have HY := Lib.hid hY
  clear hX hY
  go_enter Try.func4, Try.ntmps4
  go_wp2_with fail
  refine (up_any _).mono ?_
  rintro e w1 ⟨rfl, b1⟩
  go_wp2_with fail
  refine (small_any A a n c _ (hra.below b1) hm).mono ?_
  rw [HA.out]
  rintro e w2 ⟨rfl, k2⟩
  have b2 := below_then b1 k2
  clear b1 k2
  go_wp2_with fail
  refine (small_any B b m d _ (hrb.below b2) hm2).mono ?_
  rw [HB.out]
  rintro e w3 ⟨rfl, k3⟩
  have b3 := below_then b2 k3
  clear b2 k3
  go_wp2_with fail
  refine (of_any A a n c _ (hra.below b3) (by omega)).mono ?_
  rw [HX.out]
  rintro e w4 ⟨vx, rfl, hox, k4⟩
  have b4 := below_then b3 k4
  generalize hNX : X.length = nx at hox hx hnx
  have HNX := Lib.hid hNX
  clear hNX
  have sx : ∃ AX cx, vx = .slice AX nx cx ∧ nx ≤ cx ∧ Rd w4 1 AX nx (strs X) ∧ ((AX = none ∧ cx = 0 ∧ nx = 0) ∨ ∃ g, AX = some ⟨g, 0, none⟩) := by
    have rx := hox
    rcases hox.2 with ⟨rfl, h0⟩ | ⟨g, cx, cur, rfl, _, _, h1, _⟩
    · subst h0; exact ⟨none, 0, rfl, Nat.le_refl _, Rd.of_own rx, .inl ⟨rfl, rfl, rfl⟩⟩
    · exact ⟨_, cx, rfl, h1, Rd.of_own rx, .inr ⟨g, rfl⟩⟩
  clear b3 k4 hox
  obtain ⟨AX, cx, rfl, hcx, rx, hAX⟩ := sx
  go_wp2_with fail
  refine (of_any B b m d _ (hrb.below b4) (by omega)).mono ?_
  rw [HY.out]
  rintro e w5 ⟨vy, rfl, hoy, k5⟩
  have b5 := below_then b4 k5
  obtain ⟨AY, cy, rfl, hcy, _, _⟩ := own_cap hoy
  have ry := Rd.of_own hoy
  replace rx := rx.below k5
  clear b4 k5 hoy
  generalize hNY : Y.length = ny at ry hcy hy hny
  have HNY := Lib.hid hNY
  clear hNY
  go_wp2_with fail
  refine (offset_any AX X s _ cx _ rx (by omega) ox).mono ?_
  rintro e w6 ⟨rfl, k6⟩
  have b6 := below_then b5 k6
  replace rx := rx.below k6
  replace ry := ry.below k6
  clear b5 k6
  have hof := offs_le X s
  rw [HNX.out] at hof
  go_wp2_with fail
  refine (has_any AX X s _ cx _ rx (by omega) ox).mono ?_
  rintro e w7 ⟨rfl, k7⟩
  have b7 := below_then b6 k7
  replace rx := rx.below k7
  replace ry := ry.below k7
  clear b6 k7
  by_cases hsX : s ∈ X
  · have HSX := Lib.hid hsX
    rw [decide_eq_true hsX]
    have hlt : offs X s < X.length := by
      by_cases h : offs X s < X.length
      · exact h
      · exact absurd hsX (has_end ox h)
    have hat := (has_at ox hlt).1 hsX
    obtain ⟨bx, ofx, rfl, hc⟩ := rx.str (k := offs X s) hlt
    have hc1 := hc (offs X s) hlt
    rw [hat] at hc1
    rw [HNX.out] at hlt
    clear hc hat hsX
    have hself : ((bstr s).toList == (bstr s).toList) = true := by simp
    have hne : (((offs X s : Nat) : Int) == (nx : Int)) = false := by rw [beq_eq_false_iff_ne]; omega
    go_wp2_with fail
    refine (join_any _ AY X Y _ cx _ cy _ rx ry (by omega) (by omega)).mono ?_
    rintro e w8 ⟨vj, rfl, hj, k8⟩
    have b8 := below_then b7 k8
    replace rx := rx.below k8
    replace ry := ry.below k8
    obtain ⟨AJ, cj, rfl, hcj, _, _⟩ := own_cap hj
    have rj := Rd.of_own hj
    have oj := setOf_order (X ++ Y)
    have hjl := join_length ox oy
    have hjs := setOf_mem (X ++ Y) s
    have hjm : (setOf (X ++ Y)).length ≤ 400 := by refine Nat.le_trans (setOf_length_le _) ?_; rw [List.length_append, HNX.out, HNY.out]; omega
    generalize setOf (X ++ Y) = J at rj oj hjl hjs hj hcj hjm
    have hlm := less_meet_length X Y
    have hm1 : (lessL Y X).length ≤ ny := by rw [← HNY.out]; exact List.length_filter_le _ _
    have hm2 : (lessL X Y).length ≤ nx := by rw [← HNX.out]; exact List.length_filter_le _ _
    have hm3 : (meetL X Y).length ≤ nx := by rw [← HNX.out]; exact List.length_filter_le _ _
    generalize J.length = nj at rj hjl hj hcj hjm
    rw [HNX.out] at hjl hlm
    have hjs' : s ∈ J ↔ s ∈ X ∨ s ∈ Y := hjs.trans List.mem_append
    have HJS := Lib.hid hjs'
    have HJL := Lib.hid hjl
    have HLM := Lib.hid hlm
    clear hjs hjs' hj hjl hlm
    clear b7 k8
    go_wp2_with fail
    refine (is_any AJ J _ cj _ rj (by unfold maxLen; omega)).mono ?_
    rw [(isB_order J).2 oj]
    rintro e w9 ⟨rfl, k9⟩
    have b9 := below_then b8 k9
    replace rx := rx.below k9
    replace ry := ry.below k9
    replace rj := rj.below k9
    clear b8 k9
    go_wp2_with fail
    refine (has_any AJ J s _ cj _ rj (by omega) oj).mono ?_
    rw [decide_eq_true (HJS.out.2 (.inl HSX.out))]
    rintro e w10 ⟨rfl, k10⟩
    have b10 := below_then b9 k10
    replace rx := rx.below k10
    replace ry := ry.below k10
    replace rj := rj.below k10
    clear b9 k10
    go_wp2_with fail
    refine (has_any _ X s _ cx _ rx (by omega) ox).mono ?_
    rw [decide_eq_true HSX.out]
    rintro e w11 ⟨rfl, k11⟩
    have b11 := below_then b10 k11
    replace rx := rx.below k11
    replace ry := ry.below k11
    replace rj := rj.below k11
    clear b10 k11
    go_wp2_with fail
    refine (less_any AY _ Y X _ cy _ cx _ ry rx (by omega) (by omega) ox).mono ?_
    rintro e w12 ⟨v12, rfl, h12o, k12⟩
    have b12 := below_then b11 k12
    replace rx := rx.below k12
    replace ry := ry.below k12
    replace rj := rj.below k12
    obtain ⟨_, _, rfl, _, _, _⟩ := own_cap h12o
    clear h12o
    generalize (lessL Y X).length = n12 at HJL hm1
    have q12 : ((nj : Int) == (nx : Int) + (n12 : Int)) = true := by rw [beq_iff_eq]; have := HJL.out; omega
    clear b11 k12
    go_wp2_with fail
    clear q12
    refine (less_any _ AY X Y _ cx _ cy _ rx ry (by omega) (by omega) oy).mono ?_
    rintro e w13 ⟨v13, rfl, h13o, k13⟩
    have b13 := below_then b12 k13
    replace rx := rx.below k13
    replace ry := ry.below k13
    replace rj := rj.below k13
    obtain ⟨_, _, rfl, _, _, _⟩ := own_cap h13o
    clear h13o
    generalize (lessL X Y).length = n13 at HLM hm2
    clear b12 k13
    go_wp2_with fail
    refine (meet_any _ AY X Y _ cx _ cy _ rx ry (by omega) (by omega) oy).mono ?_
    rintro e w14 ⟨v14, rfl, h14o, k14⟩
    have b14 := below_then b13 k14
    replace rx := rx.below k14
    replace ry := ry.below k14
    replace rj := rj.below k14
    obtain ⟨_, _, rfl, _, _, _⟩ := own_cap h14o
    clear h14o
    generalize (meetL X Y).length = n14 at HLM hm3
    have q14 : ((nx : Int) == (n13 : Int) + (n14 : Int)) = true := by rw [beq_iff_eq]; have := HLM.out; omega
    clear b13 k14
    go_wp2_with fail
    go_returns
    exact ⟨rfl, b14⟩
  · have HSX := Lib.hid hsX
    rw [decide_eq_false hsX]
    have hin := insert_order ox hsX
    have hlo : (X.take (offs X s) ++ [s] ++ X.drop (offs X s)).length = nx + 1 := by rw [List.length_append, List.length_append, List.length_take, List.length_drop, HNX.out]; simp; omega
    have HIN := Lib.hid hin
    have HLO := Lib.hid hlo
    clear hsX hin hlo
    rcases hAX with ⟨rfl, rfl, rfl⟩ | ⟨g, rfl⟩
    · have h0 : offs X s = 0 := by omega
      have HZ := Lib.hid h0
      rw [h0]
      clear h0
      have hXn : X = [] := List.eq_nil_of_length_eq_zero HNX.out
      have HXN := Lib.hid hXn
      clear hXn
      go_wp2_with (at_builtin; refine wpList_app elStr _ rfl (.tmp 56) (.tmp 59) rfl w7.heap.size (.slice (some ⟨w7.heap.size, 0, none⟩) 0 0) 0 [] rfl (World.ownsRow_lit w7 #[] 0 (by simp) (by simp [maxLen]) rfl) none 0 0 [] rfl (Rd.nil _ _ _) (by simp) (by omega) (by simp) ?_; intro v8 w8 hown8 hb8 _ _; rw [Nat.zero_add, List.nil_append] at hown8)
      have k8 : Below w7.heap.size w7 w8 := ((Below.refl _ _).alloc (Nat.le_refl _) _).trans hb8
      have hz := k8.size
      clear hb8
      go_region_held3 (fun w' => True) (trivial) (first
        | ((refine step_app elStr _ (by rfl) (.tmp 64) (.tmp 67) (by rfl) w7.heap.size v9 1 _ (by rfl) hown9 none 0 0 [] (by rfl) (Rd.nil _ _ _) (by simp) (by omega) k9.size ?_); intro v10 w10 hown10 hb10 hg10 hat10; clear hg10 hat10; have k10 := k9.trans hb10; clear hb10)
        | ((refine step_app elStr _ (by rfl) (.tmp 61) (.tmp 63) (by rfl) w7.heap.size v8 0 _ (by rfl) (by first | exact hown8.alloc _ | exact (hown8.alloc _).drew | exact hown8.drew.alloc _) (some ⟨w8.heap.size, 0, none⟩) 1 1 [.string (bstr s)] (by rfl) (by first | exact Rd.lit w8 _ _ rfl | exact (Rd.lit w8 _ _ rfl).drew | exact Rd.lit w8.drew _ _ rfl) (strs_one [s]) (by omega) (by (try simp); omega) ?_); intro v9 w9 hown9 hb9 hg9 hat9; clear hg9 hat9; have k9 : Below w7.heap.size w7 w9 := (by refine Below.trans ?_ hb9; first | exact k8.alloc hz _ | exact (k8.alloc hz _).drew | exact k8.drew.alloc hz _); clear hb9))
      all_goals
        have b10 := below_then b7 k10
        replace rx := rx.below k10
        replace ry := ry.below k10
        obtain ⟨Ain, cin, rfl, _, _, _⟩ := own_cap hown10
        have rin : Rd w10 1 Ain 1 (strs [s]) := Rd.of_own hown10
        clear hown10 k10 k9 hown9 hown8 k8 hz b7
        go_wp2_with fail
        refine (is_any Ain [s] 1 cin _ rin (by unfold maxLen; omega)).mono ?_
        rw [(isB_order _).2 (show inOrder [s] from by simp [inOrder])]
        rintro e w11 ⟨rfl, k11⟩
        have b11 := below_then b10 k11
        replace rx := rx.below k11
        replace ry := ry.below k11
        clear b10 k11 rin
        go_wp2_with fail
        refine (join_any none AY X Y _ 0 _ cy _ rx ry (by omega) (by omega)).mono ?_
        rintro e w12 ⟨vj, rfl, hj, k12⟩
        have b12 := below_then b11 k12
        replace rx := rx.below k12
        replace ry := ry.below k12
        obtain ⟨AJ, cj, rfl, hcj, _, _⟩ := own_cap hj
        have rj := Rd.of_own hj
        have oj := setOf_order (X ++ Y)
        have hjl := join_length ox oy
        have hjs := setOf_mem (X ++ Y) s
        have hjm : (setOf (X ++ Y)).length ≤ 400 := by refine Nat.le_trans (setOf_length_le _) ?_; rw [List.length_append, HNX.out, HNY.out]; omega
        generalize setOf (X ++ Y) = J at rj oj hjl hjs hj hcj hjm
        have hlm := less_meet_length X Y
        have hm1 : (lessL Y X).length ≤ ny := by rw [← HNY.out]; exact List.length_filter_le _ _
        have hm2 : (lessL X Y).length ≤ 0 := by rw [← HNX.out]; exact List.length_filter_le _ _
        have hm3 : (meetL X Y).length ≤ 0 := by rw [← HNX.out]; exact List.length_filter_le _ _
        generalize J.length = nj at rj hjl hj hcj hjm
        rw [HNX.out] at hjl hlm
        have hjs' : s ∈ J ↔ s ∈ X ∨ s ∈ Y := hjs.trans List.mem_append
        have HJS := Lib.hid hjs'
        have HJL := Lib.hid hjl
        have HLM := Lib.hid hlm
        clear hjs hjs' hj hjl hlm
        clear b11 k12
        go_wp2_with fail
        refine (is_any AJ J _ cj _ rj (by unfold maxLen; omega)).mono ?_
        rw [(isB_order J).2 oj]
        rintro e w13 ⟨rfl, k13⟩
        have b13 := below_then b12 k13
        replace rx := rx.below k13
        replace ry := ry.below k13
        replace rj := rj.below k13
        clear b12 k13
        go_wp2_with fail
        by_cases hsY : s ∈ Y
        · have HSY := Lib.hid hsY
          clear hsY
          refine (has_any AJ J s _ cj _ rj (by omega) oj).mono ?_
          rw [decide_eq_true (HJS.out.2 (.inr HSY.out))]
          rintro e w14 ⟨rfl, k14⟩
          have b14 := below_then b13 k14
          replace rx := rx.below k14
          replace ry := ry.below k14
          replace rj := rj.below k14
          clear b13 k14
          go_wp2_with fail
          refine (has_any none X s _ 0 _ rx (by omega) ox).mono ?_
          rw [decide_eq_false HSX.out]
          rintro e w15 ⟨rfl, k15⟩
          have b15 := below_then b14 k15
          replace rx := rx.below k15
          replace ry := ry.below k15
          replace rj := rj.below k15
          clear b14 k15
          go_wp2_with fail
          refine (has_any AY Y s _ cy _ ry (by omega) oy).mono ?_
          rw [decide_eq_true HSY.out]
          rintro e w16 ⟨rfl, k16⟩
          have b16 := below_then b15 k16
          replace rx := rx.below k16
          replace ry := ry.below k16
          replace rj := rj.below k16
          clear b15 k16
          go_wp2_with fail
          refine (less_any AY none Y X _ cy _ 0 _ ry rx (by omega) (by omega) ox).mono ?_
          rintro e w17 ⟨v17, rfl, h17o, k17⟩
          have b17 := below_then b16 k17
          replace rx := rx.below k17
          replace ry := ry.below k17
          replace rj := rj.below k17
          obtain ⟨_, _, rfl, _, _, _⟩ := own_cap h17o
          clear h17o
          generalize (lessL Y X).length = n17 at HJL hm1
          have q17 : ((nj : Int) == (n17 : Int)) = true := by rw [beq_iff_eq]; have := HJL.out; omega
          clear b16 k17
          go_wp2_with fail
          clear q17
          refine (less_any none AY X Y _ 0 _ cy _ rx ry (by omega) (by omega) oy).mono ?_
          rintro e w18 ⟨v18, rfl, h18o, k18⟩
          have b18 := below_then b17 k18
          replace rx := rx.below k18
          replace ry := ry.below k18
          replace rj := rj.below k18
          obtain ⟨_, _, rfl, _, _, _⟩ := own_cap h18o
          clear h18o
          generalize (lessL X Y).length = n18 at HLM hm2
          clear b17 k18
          go_wp2_with fail
          refine (meet_any none AY X Y _ 0 _ cy _ rx ry (by omega) (by omega) oy).mono ?_
          rintro e w19 ⟨v19, rfl, h19o, k19⟩
          have b19 := below_then b18 k19
          replace rx := rx.below k19
          replace ry := ry.below k19
          replace rj := rj.below k19
          obtain ⟨_, _, rfl, _, _, _⟩ := own_cap h19o
          clear h19o
          generalize (meetL X Y).length = n19 at HLM hm3
          obtain rfl : n18 = 0 := by omega
          obtain rfl : n19 = 0 := by omega
          clear b18 k19
          go_wp2_with fail
          go_returns
          exact ⟨rfl, b19⟩
        · have HSY := Lib.hid hsY
          clear hsY
          refine (has_any AJ J s _ cj _ rj (by omega) oj).mono ?_
          rw [decide_eq_false (fun h => (HJS.out.1 h).elim HSX.out HSY.out)]
          rintro e w14 ⟨rfl, k14⟩
          have b14 := below_then b13 k14
          replace rx := rx.below k14
          replace ry := ry.below k14
          replace rj := rj.below k14
          clear b13 k14
          go_wp2_with fail
          refine (has_any none X s _ 0 _ rx (by omega) ox).mono ?_
          rw [decide_eq_false HSX.out]
          rintro e w15 ⟨rfl, k15⟩
          have b15 := below_then b14 k15
          replace rx := rx.below k15
          replace ry := ry.below k15
          replace rj := rj.below k15
          clear b14 k15
          go_wp2_with fail
          refine (has_any AY Y s _ cy _ ry (by omega) oy).mono ?_
          rw [decide_eq_false HSY.out]
          rintro e w16 ⟨rfl, k16⟩
          have b16 := below_then b15 k16
          replace rx := rx.below k16
          replace ry := ry.below k16
          replace rj := rj.below k16
          clear b15 k16
          go_wp2_with fail
          refine (less_any AY none Y X _ cy _ 0 _ ry rx (by omega) (by omega) ox).mono ?_
          rintro e w17 ⟨v17, rfl, h17o, k17⟩
          have b17 := below_then b16 k17
          replace rx := rx.below k17
          replace ry := ry.below k17
          replace rj := rj.below k17
          obtain ⟨_, _, rfl, _, _, _⟩ := own_cap h17o
          clear h17o
          generalize (lessL Y X).length = n17 at HJL hm1
          have q17 : ((nj : Int) == (n17 : Int)) = true := by rw [beq_iff_eq]; have := HJL.out; omega
          clear b16 k17
          go_wp2_with fail
          clear q17
          refine (less_any none AY X Y _ 0 _ cy _ rx ry (by omega) (by omega) oy).mono ?_
          rintro e w18 ⟨v18, rfl, h18o, k18⟩
          have b18 := below_then b17 k18
          replace rx := rx.below k18
          replace ry := ry.below k18
          replace rj := rj.below k18
          obtain ⟨_, _, rfl, _, _, _⟩ := own_cap h18o
          clear h18o
          generalize (lessL X Y).length = n18 at HLM hm2
          clear b17 k18
          go_wp2_with fail
          refine (meet_any none AY X Y _ 0 _ cy _ rx ry (by omega) (by omega) oy).mono ?_
          rintro e w19 ⟨v19, rfl, h19o, k19⟩
          have b19 := below_then b18 k19
          replace rx := rx.below k19
          replace ry := ry.below k19
          replace rj := rj.below k19
          obtain ⟨_, _, rfl, _, _, _⟩ := own_cap h19o
          clear h19o
          generalize (meetL X Y).length = n19 at HLM hm3
          obtain rfl : n18 = 0 := by omega
          obtain rfl : n19 = 0 := by omega
          clear b18 k19
          go_wp2_with fail
          go_returns
          exact ⟨rfl, b19⟩
    · have hf := rx.from_ (lo := offs X s) (c := cx) (k := offs X s) hof hcx (by omega)
      rw [strs_drop] at hf
      simp only [Option.map_some, Addr.add_lit, Nat.zero_add] at hf
      have HF := Lib.hid hf
      clear hf
      go_wp2_with (at_builtin; refine wpList_app elStr _ rfl (.tmp 56) (.tmp 59) rfl w7.heap.size (.slice (some ⟨w7.heap.size, 0, none⟩) 0 0) 0 [] rfl (World.ownsRow_lit w7 #[] 0 (by simp) (by simp [maxLen]) rfl) (some ⟨g, 0, none⟩) (offs X s) cx _ rfl ((rx.alloc _).take_ hof) (by rw [strs_take]; exact strs_one _) (by omega) (by simp) ?_; intro v8 w8 hown8 hb8 _ _; rw [Nat.zero_add, List.nil_append] at hown8)
      have k8 : Below w7.heap.size w7 w8 := ((Below.refl _ _).alloc (Nat.le_refl _) _).trans hb8
      have hz := k8.size
      clear hb8
      go_region_held3 (fun w' => True) (trivial) (first
        | ((refine step_app elStr _ (by rfl) (.tmp 64) (.tmp 67) (by rfl) w7.heap.size v9 (offs X s + 1) _ (by rfl) hown9 (if cx = offs X s then some ⟨g, 0, none⟩ else some ⟨g, offs X s, none⟩) (nx - offs X s) (cx - offs X s) (strs (X.drop (offs X s))) (by rfl) (HF.out.below k9) (strs_one _) (by omega) k9.size ?_); intro v10 w10 hown10 hb10 hg10 hat10; clear hg10 hat10; have k10 := k9.trans hb10; clear hb10)
        | ((refine step_app elStr _ (by rfl) (.tmp 61) (.tmp 63) (by rfl) w7.heap.size v8 (offs X s) _ (by rfl) (by first | exact hown8.alloc _ | exact (hown8.alloc _).drew | exact hown8.drew.alloc _) (some ⟨w8.heap.size, 0, none⟩) 1 1 [.string (bstr s)] (by rfl) (by first | exact Rd.lit w8 _ _ rfl | exact (Rd.lit w8 _ _ rfl).drew | exact Rd.lit w8.drew _ _ rfl) (strs_one [s]) (by omega) (by (try simp); omega) ?_); intro v9 w9 hown9 hb9 hg9 hat9; clear hg9 hat9; have k9 : Below w7.heap.size w7 w9 := (by refine Below.trans ?_ hb9; first | exact k8.alloc hz _ | exact (k8.alloc hz _).drew | exact k8.drew.alloc hz _); clear hb9))
      all_goals (by_cases hcc : cx = offs X s)
      all_goals
        have b10 := below_then b7 k10
        replace rx := rx.below k10
        replace ry := ry.below k10
        have en : offs X s + 1 + (nx - offs X s) = nx + 1 := by omega
        rw [en, strs_take, ← strs_append_one, ← strs_append] at hown10
        clear en
        obtain ⟨Ain, cin, rfl, _, _, _⟩ := own_cap hown10
        have rin := Rd.of_own hown10
        clear hown10 k10 k9 hown9 hown8 k8 hz b7
        go_wp2_with fail
        refine (is_any Ain _ (nx + 1) cin _ rin (by unfold maxLen; omega)).mono ?_
        rw [(isB_order _).2 HIN.out]
        rintro e w11 ⟨rfl, k11⟩
        have b11 := below_then b10 k11
        replace rx := rx.below k11
        replace ry := ry.below k11
        clear b10 k11 rin
        go_wp2_with fail
        refine (join_any _ AY X Y _ _ _ cy _ rx ry (by omega) (by omega)).mono ?_
        rintro e w12 ⟨vj, rfl, hj, k12⟩
        have b12 := below_then b11 k12
        replace rx := rx.below k12
        replace ry := ry.below k12
        obtain ⟨AJ, cj, rfl, hcj, _, _⟩ := own_cap hj
        have rj := Rd.of_own hj
        have oj := setOf_order (X ++ Y)
        have hjl := join_length ox oy
        have hjs := setOf_mem (X ++ Y) s
        have hjm : (setOf (X ++ Y)).length ≤ 400 := by refine Nat.le_trans (setOf_length_le _) ?_; rw [List.length_append, HNX.out, HNY.out]; omega
        generalize setOf (X ++ Y) = J at rj oj hjl hjs hj hcj hjm
        have hlm := less_meet_length X Y
        have hm1 : (lessL Y X).length ≤ ny := by rw [← HNY.out]; exact List.length_filter_le _ _
        have hm2 : (lessL X Y).length ≤ nx := by rw [← HNX.out]; exact List.length_filter_le _ _
        have hm3 : (meetL X Y).length ≤ nx := by rw [← HNX.out]; exact List.length_filter_le _ _
        generalize J.length = nj at rj hjl hj hcj hjm
        rw [HNX.out] at hjl hlm
        have hjs' : s ∈ J ↔ s ∈ X ∨ s ∈ Y := hjs.trans List.mem_append
        have HJS := Lib.hid hjs'
        have HJL := Lib.hid hjl
        have HLM := Lib.hid hlm
        clear hjs hjs' hj hjl hlm
        clear b11 k12
        go_wp2_with fail
        refine (is_any AJ J _ cj _ rj (by unfold maxLen; omega)).mono ?_
        rw [(isB_order J).2 oj]
        rintro e w13 ⟨rfl, k13⟩
        have b13 := below_then b12 k13
        replace rx := rx.below k13
        replace ry := ry.below k13
        replace rj := rj.below k13
        clear b12 k13
        go_wp2_with fail
        by_cases hsY : s ∈ Y
        · have HSY := Lib.hid hsY
          clear hsY
          refine (has_any AJ J s _ cj _ rj (by omega) oj).mono ?_
          rw [decide_eq_true (HJS.out.2 (.inr HSY.out))]
          rintro e w14 ⟨rfl, k14⟩
          have b14 := below_then b13 k14
          replace rx := rx.below k14
          replace ry := ry.below k14
          replace rj := rj.below k14
          clear b13 k14
          go_wp2_with fail
          refine (has_any _ X s _ _ _ rx (by omega) ox).mono ?_
          rw [decide_eq_false HSX.out]
          rintro e w15 ⟨rfl, k15⟩
          have b15 := below_then b14 k15
          replace rx := rx.below k15
          replace ry := ry.below k15
          replace rj := rj.below k15
          clear b14 k15
          go_wp2_with fail
          refine (has_any AY Y s _ cy _ ry (by omega) oy).mono ?_
          rw [decide_eq_true HSY.out]
          rintro e w16 ⟨rfl, k16⟩
          have b16 := below_then b15 k16
          replace rx := rx.below k16
          replace ry := ry.below k16
          replace rj := rj.below k16
          clear b15 k16
          go_wp2_with fail
          refine (less_any AY _ Y X _ cy _ _ _ ry rx (by omega) (by omega) ox).mono ?_
          rintro e w17 ⟨v17, rfl, h17o, k17⟩
          have b17 := below_then b16 k17
          replace rx := rx.below k17
          replace ry := ry.below k17
          replace rj := rj.below k17
          obtain ⟨_, _, rfl, _, _, _⟩ := own_cap h17o
          clear h17o
          generalize (lessL Y X).length = n17 at HJL hm1
          have q17 : ((nj : Int) == (nx : Int) + (n17 : Int)) = true := by rw [beq_iff_eq]; have := HJL.out; omega
          clear b16 k17
          go_wp2_with fail
          clear q17
          refine (less_any _ AY X Y _ _ _ cy _ rx ry (by omega) (by omega) oy).mono ?_
          rintro e w18 ⟨v18, rfl, h18o, k18⟩
          have b18 := below_then b17 k18
          replace rx := rx.below k18
          replace ry := ry.below k18
          replace rj := rj.below k18
          obtain ⟨_, _, rfl, _, _, _⟩ := own_cap h18o
          clear h18o
          generalize (lessL X Y).length = n18 at HLM hm2
          clear b17 k18
          go_wp2_with fail
          refine (meet_any _ AY X Y _ _ _ cy _ rx ry (by omega) (by omega) oy).mono ?_
          rintro e w19 ⟨v19, rfl, h19o, k19⟩
          have b19 := below_then b18 k19
          replace rx := rx.below k19
          replace ry := ry.below k19
          replace rj := rj.below k19
          obtain ⟨_, _, rfl, _, _, _⟩ := own_cap h19o
          clear h19o
          generalize (meetL X Y).length = n19 at HLM hm3
          have q19 : ((nx : Int) == (n18 : Int) + (n19 : Int)) = true := by rw [beq_iff_eq]; have := HLM.out; omega
          clear b18 k19
          go_wp2_with fail
          go_returns
          exact ⟨rfl, b19⟩
        · have HSY := Lib.hid hsY
          clear hsY
          refine (has_any AJ J s _ cj _ rj (by omega) oj).mono ?_
          rw [decide_eq_false (fun h => (HJS.out.1 h).elim HSX.out HSY.out)]
          rintro e w14 ⟨rfl, k14⟩
          have b14 := below_then b13 k14
          replace rx := rx.below k14
          replace ry := ry.below k14
          replace rj := rj.below k14
          clear b13 k14
          go_wp2_with fail
          refine (has_any _ X s _ _ _ rx (by omega) ox).mono ?_
          rw [decide_eq_false HSX.out]
          rintro e w15 ⟨rfl, k15⟩
          have b15 := below_then b14 k15
          replace rx := rx.below k15
          replace ry := ry.below k15
          replace rj := rj.below k15
          clear b14 k15
          go_wp2_with fail
          refine (has_any AY Y s _ cy _ ry (by omega) oy).mono ?_
          rw [decide_eq_false HSY.out]
          rintro e w16 ⟨rfl, k16⟩
          have b16 := below_then b15 k16
          replace rx := rx.below k16
          replace ry := ry.below k16
          replace rj := rj.below k16
          clear b15 k16
          go_wp2_with fail
          refine (less_any AY _ Y X _ cy _ _ _ ry rx (by omega) (by omega) ox).mono ?_
          rintro e w17 ⟨v17, rfl, h17o, k17⟩
          have b17 := below_then b16 k17
          replace rx := rx.below k17
          replace ry := ry.below k17
          replace rj := rj.below k17
          obtain ⟨_, _, rfl, _, _, _⟩ := own_cap h17o
          clear h17o
          generalize (lessL Y X).length = n17 at HJL hm1
          have q17 : ((nj : Int) == (nx : Int) + (n17 : Int)) = true := by rw [beq_iff_eq]; have := HJL.out; omega
          clear b16 k17
          go_wp2_with fail
          clear q17
          refine (less_any _ AY X Y _ _ _ cy _ rx ry (by omega) (by omega) oy).mono ?_
          rintro e w18 ⟨v18, rfl, h18o, k18⟩
          have b18 := below_then b17 k18
          replace rx := rx.below k18
          replace ry := ry.below k18
          replace rj := rj.below k18
          obtain ⟨_, _, rfl, _, _, _⟩ := own_cap h18o
          clear h18o
          generalize (lessL X Y).length = n18 at HLM hm2
          clear b17 k18
          go_wp2_with fail
          refine (meet_any _ AY X Y _ _ _ cy _ rx ry (by omega) (by omega) oy).mono ?_
          rintro e w19 ⟨v19, rfl, h19o, k19⟩
          have b19 := below_then b18 k19
          replace rx := rx.below k19
          replace ry := ry.below k19
          replace rj := rj.below k19
          obtain ⟨_, _, rfl, _, _, _⟩ := own_cap h19o
          clear h19o
          generalize (meetL X Y).length = n19 at HLM hm3
          have q19 : ((nx : Int) == (n18 : Int) + (n19 : Int)) = true := by rw [beq_iff_eq]; have := HLM.out; omega
          clear b18 k19
          go_wp2_with fail
          go_returns
          exact ⟨rfl, b19⟩
end Go.Proofs.Ytapdalddacegbaa
