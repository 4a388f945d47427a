/-
  The names that are free in a core expression, as they stand, by the document's answer.
-/
import Derived.Test.YtpnihimoekkepaaCoBB
import Derived.Test.YtpnihimoekkepaaQuiet
import Derived.Deep.CutRange
namespace Go.Proofs.Ytpnihimoekkepaa
open Go.ChangeShapes Go.WideShapes Go.ChangeAt Go.RowKit Go.Sort
set_option linter.unusedVariables false
set_option linter.unusedSimpArgs false
attribute [local irreducible] Go.wpQuiet

def LsR (t : Ex) (w : World) (e : Ending) (w' : World) : Prop := ∃ v ss, e = .returned v ∧ w'.ownsRow w.heap.size 9 1 v ss.length (strs ss) ∧ (∀ x, x ∈ ss ↔ t.freeB x = true) ∧ ss.length ≤ t.nodes ∧ Below w.heap.size w w'
/-- The list under way. -/
structure FrS (w1 wr : World) (v : Value) (xs : List Str) : Prop where
  own : wr.ownsRow w1.heap.size 9 1 v xs.length (strs xs)
  b : Below w1.heap.size w1 wr
/-- Another list, in other blocks. -/
structure OtL (wr : World) (v : Value) (A : Option Addr) (ll : List Str) : Prop where
  rd : Rd wr 1 A ll.length (strs ll)
  sep : 0 < ll.length → ∀ a, A = some a → some a.block ≠ v.ownBlock
theorem FrS.below {w1 wr wz : World} {v : Value} {xs : List Str} (h : FrS w1 wr v xs) (hb : Below wr.heap.size wr wz) : FrS w1 wz v xs := ⟨own_below h.own hb, below_then h.b hb⟩
theorem OtL.below {wr wz : World} {v : Value} {A : Option Addr} {ll : List Str} (h : OtL wr v A ll) (hb : Below wr.heap.size wr wz) : OtL wz v A ll := ⟨h.rd.below hb, h.sep⟩
theorem FrS.app {w1 wr wz : World} {v v' : Value} {xs news : List Str} {n : Nat} (h : FrS w1 wr v xs) (hown : wz.ownsRow w1.heap.size 9 1 v' n (strs xs ++ strs news)) (hn : n = (xs ++ news).length) (hb : Below w1.heap.size wr wz) : FrS w1 wz v' (xs ++ news) := by
  subst hn
  rw [← strs_append] at hown
  exact ⟨hown, h.b.trans hb⟩
theorem OtL.app {wr wz : World} {v v' : Value} {A : Option Addr} {ll : List Str} (h : OtL wr v A ll) (hg : wr.grownBy wz v.ownBlock) (ho : v'.ownBlock = v.ownBlock ∨ v'.ownBlock = some wr.heap.size) : OtL wz v' A ll := by
  refine ⟨rd_keepP (P := fun b => some b ≠ v.ownBlock) h.rd h.sep (fun b hb hl => hg.block b hl hb), fun hn a ha => ?_⟩
  rcases ho with q | q
  · rw [q]; exact h.sep hn a ha
  · rw [q]
    intro e
    injection e with e
    have := h.rd.lt_ hn ha
    omega
/-- A name's list comes to this. -/
structure FrO (d : ExD) (l : List Ex) (k : Nat) (w1 wr : World) (v : Value) (xs : List Str) : Prop where
  s : FrS w1 wr v xs
  m : ∀ x, x ∈ xs ↔ ((d.kind = 3 ∧ x = d.s) ∨ freeLB d (l.take k) 0 x = true)
  n : xs.length ≤ 1 + enodesL (l.take k)
structure FrI (d : ExD) (i : Nat) (ll : List Str) (k : Nat) (xs0 : List Str) (A : Option Addr) (w1 wr : World) (v : Value) (xs : List Str) : Prop where
  s : FrS w1 wr v xs
  o : OtL wr v A ll
  m : ∀ x, x ∈ xs ↔ (x ∈ xs0 ∨ (x ∈ ll.take k ∧ x ∉ d.boundF i))
  n : xs.length ≤ xs0.length + k
theorem FrI.done {d : ExD} {l : List Ex} {k : Nat} {ll : List Str} {xs0 xs : List Str} {A : Option Addr} {w1 wr w2 : World} {v v0 : Value} {y : Ex} (h0 : FrO d l k w1 w2 v0 xs0) (hk : k < l.length) (hy : l.take (k + 1) = l.take k ++ [y]) (hm : ∀ x, x ∈ ll ↔ y.freeB x = true) (hn : ll.length ≤ y.nodes) (h : FrI d k ll ll.length xs0 A w1 wr v xs) : FrO d l (k + 1) w1 wr v xs := by
  have ht : (l.take k).length = k := by rw [List.length_take]; omega
  refine ⟨h.s, fun x => ?_, ?_⟩
  · rw [h.m x, h0.m x, List.take_length, hm x, hy, freeLB_snoc, ht, Nat.zero_add, Bool.or_eq_true, Bool.and_eq_true, Bool.not_eq_true', decide_eq_false_iff_not, or_assoc]
  · have h1 := h.n
    have h2 := h0.n
    rw [hy, enodesL_snoc]
    omega
theorem FrI.skip {d : ExD} {i k : Nat} {ll : List Str} {xs0 xs : List Str} {A : Option Addr} {w1 wr wz : World} {v : Value} {x : Str} (h : FrI d i ll k xs0 A w1 wr v xs) (hx : ll.take (k + 1) = ll.take k ++ [x]) (hb : x ∈ d.boundF i) (hw : Below wr.heap.size wr wz) : FrI d i ll (k + 1) xs0 A w1 wz v xs := by
  refine ⟨h.s.below hw, h.o.below hw, fun y => ?_, by have := h.n; omega⟩
  rw [h.m y, hx]
  constructor
  · rintro (q | ⟨q, r⟩)
    · exact .inl q
    · exact .inr ⟨List.mem_append_left _ q, r⟩
  · rintro (q | ⟨q, r⟩)
    · exact .inl q
    · rcases List.mem_append.1 q with q | q
      · exact .inr ⟨q, r⟩
      · rw [List.mem_singleton] at q; subst q; exact absurd hb r
theorem FrI.put {d : ExD} {i k : Nat} {ll : List Str} {xs0 xs : List Str} {A : Option Addr} {w1 wr wy wz : World} {v v' : Value} {x : Str} (h : FrI d i ll k xs0 A w1 wr v xs) (hx : ll.take (k + 1) = ll.take k ++ [x]) (hb : x ∉ d.boundF i) (hw : Below wr.heap.size wr wy) (hown : wz.ownsRow w1.heap.size 9 1 v' (xs.length + 1) (strs xs ++ strs [x])) (hbz : Below w1.heap.size wy wz) (hg : wy.grownBy wz v.ownBlock) (ho : v'.ownBlock = v.ownBlock ∨ v'.ownBlock = some wy.heap.size) : FrI d i ll (k + 1) xs0 A w1 wz v' (xs ++ [x]) := by
  refine ⟨(h.s.below hw).app hown (by simp) hbz, (h.o.below hw).app hg ho, fun y => ?_, by have := h.n; simp; omega⟩
  rw [List.mem_append, h.m y, hx]
  constructor
  · rintro ((q | ⟨q, r⟩) | q)
    · exact .inl q
    · exact .inr ⟨List.mem_append_left _ q, r⟩
    · rw [List.mem_singleton] at q; subst q; exact .inr ⟨List.mem_append_right _ (by simp), hb⟩
  · rintro (q | ⟨q, r⟩)
    · exact .inl (.inl q)
    · rcases List.mem_append.1 q with q | q
      · exact .inl (.inr ⟨q, r⟩)
      · exact .inr q

set_option maxRecDepth 100000 in
set_option maxHeartbeats 2000000 in
theorem rfree_any (w0 : World) (t : Ex) (hIn : t.In w0) : ∀ (w : World), Below w0.heap.size w0 w → t.nodes ≤ 4000000 →
    Calls Try.prog 36 #[.agg t.d.arr] w (LsR t w) := by
  induction hIn with
  | mk d l nam par cap sub ih =>
  intro w hb hnd
  have hlen : l.length = d.pn := by have := par.1; rw [flat_len Ex.cells_len] at this; omega
  have hb1 : Below w.heap.size w (w.alloc (.cells d.arr 25)) := (Below.refl _ _).alloc (Nat.le_refl _) _
  have HAT := Lib.hid (show d.At (w.alloc (.cells d.arr 25)) w.heap.size 0 from ex_box w d)
  have HI := Lib.hid (show (Ex.mk d l).In (w.alloc (.cells d.arr 25)) from (Ex.In.mk d l nam par cap sub).lower (below_then hb hb1))
  have HIH := Lib.hid (show ∀ x ∈ l, ∀ V, Below (w.alloc (.cells d.arr 25)).heap.size (w.alloc (.cells d.arr 25)) V → Calls Try.prog 36 #[.agg x.d.arr] V (LsR x V) from fun x hx V h => ih x hx V (below_then (below_then hb hb1) h) (by have := enodesL_mem l x hx; unfold Ex.nodes at hnd; omega))
  have HB1 := Lib.hid hb1
  have HL := Lib.hid hlen
  have HND := Lib.hid (show 1 + enodesL l ≤ 4000000 from hnd)
  have HCP := Lib.hid cap
  have c0 := (ex_box w d).c0
  have c2 := (ex_box w d).c2
  clear hb1 nam par cap sub ih hb hlen hnd
  go_enter Try.func36, Try.ntmps36
  show _
  unfold Ex.d
  go_upto_if 10 with fail
  generalize (w.alloc (.cells d.arr 25)) = w1 at *
  go_cut [3] from 8 to 15 (fun v wx => ∃ xs, FrO d l 0 w1 wx v xs)
  case first =>
    by_cases hk : d.kind = 3
    · have HK := Lib.hid hk
      rw [hk]
      clear hk
      go_wp2_with (at_builtin; refine wpList_app elStr _ rfl (.tmp 11) (.tmp 14) rfl w1.heap.size (.slice none 0 0) 0 [] rfl (World.ownsRow_nil _ _ _ _) (some ⟨w1.heap.size, 0, none⟩) 1 1 _ rfl (Rd.lit w1 _ _ rfl) (strs_one [d.s]) (by omega) (by simp) ?_; intro v4 w4 hown4 hb4 _ _)
      go_meet
      have hb5 : Below w1.heap.size w1 w4 := ((Below.refl _ _).alloc (Nat.le_refl _) _).trans hb4
      exact ⟨[d.s], ⟨by simpa [strs] using hown4, hb5⟩, (fun x => by simp [freeLB, HK.out]), by simp [enodesL]⟩
    · have hk3 : (d.kind == 3) = false := by simpa using hk
      have HK := Lib.hid hk
      clear hk
      go_wp2_with fail
      go_meet
      exact ⟨[], ⟨World.ownsRow_nil _ _ _ _, Below.refl _ _⟩, (fun x => by simp [freeLB, HK.out]), by simp [enodesL]⟩
  case rest =>
  obtain ⟨xs0, hs0⟩ := hcut
  clear c0 c2
  go_wp2_with fail
  go_loopw [3, 4] (fun v i wr => ∃ (k : Nat) (xs : List Str), i = .int .i64 k ∧ k ≤ d.pn ∧ FrO d l k w1 wr v xs) (fun _ i _ => d.pn - (intOf i).toNat)
  case atStart => exact ⟨0, xs0, rfl, Nat.zero_le _, hs0⟩
  case round =>
    clear hs0
    obtain ⟨k, xs, rfl, hk, hO⟩ := hrel
    have HO := Lib.hid hO
    have cc := (HAT.out.lower hO.s.b).c5
    clear hO
    by_cases hlt : k < d.pn
    · have HLT := Lib.hid hlt
      have hkl : k < l.length := by rw [HL.out]; exact hlt
      obtain ⟨pb, po, hpA, hAtP⟩ := HI.out.part (k := k) hkl
      have hpA' : d.pA = some ⟨pb, po, none⟩ := hpA
      rw [hpA'] at cc
      have hAtM : (l[k]).d.At w1 pb (po + k * 6) := hAtP k hkl
      have HTK := Lib.hid (show l.take (k + 1) = l.take k ++ [l[k]] from List.take_succ_eq_append_getElem hkl)
      obtain ⟨x, hx⟩ : ∃ x, l[k] = x := ⟨_, rfl⟩
      rw [hx] at hAtM HTK
      have hxm : x ∈ l := by rw [← hx]; exact List.getElem_mem hkl
      have HM := Lib.hid (HIH.out x hxm _ HO.out.s.b)
      have HXN := Lib.hid (show xs.length + x.nodes ≤ 4000000 from by
        have h1 := HO.out.n
        have h2 := HND.out
        have h3 := enodesL_take l (k + 1)
        rw [HTK.out, enodesL_snoc] at h3
        omega)
      obtain ⟨p0, p1, p2, p3, p4, p5⟩ := hAtM.lower HO.out.s.b
      have hki : (k : Int) < (d.pn : Int) := by omega
      have hk0 : (0 : Int) ≤ (k : Int) := by omega
      have hk4 : (k : Int) ≤ 4000000 := by have := HCP.out.2.1.2.2; omega
      clear hpA hpA' hAtP hAtM hx hxm
      go_wp2_with fail
      refine HM.out.mono ?_
      rintro e w3 ⟨lv, ll, rfl, hown, hmem, hln, hb3⟩
      obtain ⟨LA, lc, rfl, _⟩ := own_cap hown
      have HMM := Lib.hid (And.intro hmem hln)
      have HS := Lib.hid (show FrI d k ll 0 xs LA w1 w3 u3 xs from ⟨HO.out.s.below hb3, ⟨Rd.of_own hown, fun hn a ha e => by
          have h1 := (HO.out.s.own.lt _ e.symm).2
          have h2 := (hown.lt a.block (by rw [ha]; rfl)).1
          omega⟩, fun x => by simp, Nat.le_refl _⟩)
      clear hown hmem hln hb3 HM cc p0 p1 p2 p3 p4 p5
      go_wp2_with fail
      go_loopw [3, 6] (fun v i wr => ∃ (j : Nat) (ys : List Str), i = .int .i64 j ∧ j ≤ ll.length ∧ FrI d k ll j xs LA w1 wr v ys) (fun _ i _ => ll.length - (intOf i).toNat)
      case atStart => exact ⟨0, xs, rfl, Nat.zero_le _, HS.out⟩
      case round =>
        obtain ⟨j, ys, rfl, hj, hIn⟩ := hrel
        have HN := Lib.hid hIn
        clear hIn
        by_cases hjl : j < ll.length
        · have HJL := Lib.hid hjl
          obtain ⟨sb, so, hLA, hsc⟩ := HN.out.o.rd.str hjl
          have HTJ := Lib.hid (show ll.take (j + 1) = ll.take j ++ [ll[j]] from List.take_succ_eq_append_getElem hjl)
          obtain ⟨s, hs⟩ : ∃ s, ll[j] = s := ⟨_, rfl⟩
          have h1 : wr.cell? ⟨sb, so + j, none⟩ = some (.string (bstr s)) := by rw [← hs]; exact hsc j hjl
          rw [hs] at HTJ
          have H1 := Lib.hid h1
          have HLA := Lib.hid hLA
          have hji : (j : Int) < (ll.length : Int) := by omega
          have hj0 : (0 : Int) ≤ (j : Int) := by omega
          have hj4 : (j : Int) ≤ 4000000 := by have := HMM.out.2; have := HXN.out; omega
          have HYL := Lib.hid (show ys.length + 1 ≤ 4000000 from by have := HN.out.n; have := HMM.out.2; have := HXN.out; omega)
          obtain ⟨q0, q1, q2, q3, q4, q5⟩ := HAT.out.lower HN.out.s.b
          have r0 := cell_regrown q0
          have r1 := cell_regrown q1
          have r2 := cell_regrown q2
          have r3 := cell_regrown q3
          have r4 := cell_regrown q4
          have r5 := cell_regrown q5
          have r6 := cell_regrown h1
          have HBQ : RowKit.Hid (∀ dd os, Calls Try.prog 45 #[.agg #[.int .i64 d.kind, .int .i64 d.n, .string (bstr d.s), .string (bstr d.t), .slice d.nA d.nn d.nc, .slice d.pA d.pn d.pc], .int .i64 (k : Int), .string (bstr s)] (grow (redrawn wr dd) os) fun e w'' => e = .returned (.bool (decide (s ∈ d.boundF k))) ∧ ∃ p : Regrown, w'' = grow (redrawn wr p.d) p.os) := Lib.hid fun dd os => Calls.regrown_of (binds_any d l s k (by have := HCP.out.2.1.2.2; have := HLT.out; omega) (grow (redrawn wr dd) os) ((HI.out.lower HN.out.s.b).lower (below_regrown _ _ _)))
          clear hsc hs hjl h1 q0 q1 q2 q3 q4 q5
          subst hLA
          go_upto_region 11 with fail
          refine wp_region_quiet_below (by kernel_rfl) (by kernel_rfl) ?_
          iterate 8 (quiet_step (first | (go_at_call 45; with_reducible exact HBQ.out _ _) | fail))
          refine wpQuiet_nil ?_
          intro _ hw
          obtain ⟨⟨dq, osq⟩, hw2⟩ := hw
          subst hw2
          have HV := Lib.hid (below_regrown wr dq osq)
          clear r0 r1 r2 r3 r4 r5 r6 HBQ
          generalize grow (redrawn wr dq) osq = V2 at *
          by_cases hc : s ∈ d.boundF k
          · have HC := Lib.hid hc
            rw [decide_eq_true hc]
            clear hc
            go_wp2_with fail
            go_roundw
            case rel => exact ⟨j + 1, ys, by go_num, HJL.out, HN.out.skip HTJ.out HC.out HV.out⟩
            case measure => have := HJL.out; simp [intOf] <;> omega
          · have HC := Lib.hid hc
            rw [decide_eq_false hc]
            have h2 := cell_below HV.out H1.out
            have HOW := Lib.hid (HN.out.s.below HV.out).own
            have HVS := Lib.hid (HN.out.s.below HV.out).b
            clear hc
            go_wp2_with (at_builtin; refine wpList_app elStr _ rfl (.tmp 44) (.tmp 49) rfl w1.heap.size u3 ys.length _ rfl (HOW.out.alloc _) (some ⟨V2.heap.size, 0, none⟩) 1 1 _ rfl (Rd.lit V2 _ _ rfl) (strs_one [s]) (by have := HYL.out; omega) (by have := HVS.out.size; simp; omega) ?_; intro v4 w4 hown4 hb4 hg4 ho4)
            go_roundw
            case rel => exact ⟨j + 1, ys ++ [s], by go_num, HJL.out, HN.out.put HTJ.out HC.out (HV.out.alloc HV.out.size _) hown4 hb4 hg4 ho4⟩
            case measure => have := HJL.out; simp [intOf] <;> omega
        · have hji : ¬ (j : Int) < (ll.length : Int) := by omega
          obtain rfl : j = ll.length := by omega
          have HKL := Lib.hid hkl
          clear hjl hj hkl
          go_wp2_with fail
          go_roundw
          case rel => exact ⟨k + 1, ys, by go_num, HLT.out, HN.out.done HO.out HKL.out HTK.out HMM.out.1 HMM.out.2⟩
          case measure => have := HLT.out; simp [intOf] <;> omega
    · have hki : ¬ (k : Int) < (d.pn : Int) := by omega
      obtain rfl : k = d.pn := by omega
      clear hlt hk
      go_wp2_with fail
      go_returns
      have hm := HO.out.m
      have hn := HO.out.n
      rw [List.take_of_length_le (by rw [HL.out]; exact Nat.le_refl _)] at hm hn
      refine ⟨_, xs, rfl, own_mono HO.out.s.own HB1.out.size, fun x => ?_, hn, below_then HB1.out HO.out.s.b⟩
      rw [hm x]
      show _ ↔ ((decide (d.kind = 3) && decide (x = d.s)) || freeLB d l 0 x) = true
      simp
end Go.Proofs.Ytpnihimoekkepaa
