/-
  A type's variables, by the code: the walk, with two that meet.
-/
import Derived.Test.YtlgmddnpmmggdaaDoorVmA
namespace Go.Proofs.YtlgmddnpmmggdaaDoor
open Go.ChangeShapes Go.WideShapes Go.ChangeAt Go.RowKit Go.Sort Go.Maps
set_option linter.unusedVariables false
set_option linter.unusedSimpArgs false

inductive Ty.Rg : Ty → Prop
  | mk (d : TyD) (l : List Ty) (hn : (Lit.int .i64 d.n).wf = true) (ht : (Lit.int .i64 d.tail).wf = true) (sub : ∀ x ∈ l, Ty.Rg x) : Ty.Rg (.mk d l)
/-- A block of the meeter's own. -/
def Mine (B : Nat) (v : Value) (g : Nat) : Prop := g = B ∨ g = B + 1 ∨ g = B + 2 ∨ v.ownBlock = some g
structure M2 (w : World) (B1 B2 : Nat) (T R : List Int) (v1 v2 : Value) : Prop where
  m1 : MT w B1 T v1
  m2 : MT w B2 R v2
  s1 : ∀ g, Mine B1 v1 g → OthM B2 w v2 g
  s2 : ∀ g, Mine B2 v2 g → OthM B1 w v1 g
section
variable {w w1 : World} {B B1 B2 : Nat} {l T R T1 R1 : List Int} {v v1 v2 v3 : Value}
theorem MT.kept (h : MT w B l v) (hk : ∀ g, Mine B v g → w1.heap[g]? = w.heap[g]?) : MT w1 B l v := by
  have kB := hk B (.inl rfl)
  have kM := hk (B + 1) (.inr (.inl rfl))
  have kC := hk (B + 2) (.inr (.inr (.inl rfl)))
  obtain ⟨D, h1, h2⟩ := h.mp
  refine ⟨(World.cell?_of_block (a := ⟨B, 0, none⟩) kB).trans h.cl, (World.frozen?_of_block (a := ⟨B, 0, none⟩) kB).trans h.fl, (World.cell?_of_block (a := ⟨B + 2, 0, none⟩) kC).trans h.cm, ⟨h.own.1, ?_⟩, D, ?_, h2⟩
  · rcases h.own.2 with hn | ⟨g, cap, cur, rfl, hb, hgg, rest⟩
    · exact .inl hn
    · exact .inr ⟨g, cap, cur, rfl, hb, (hk g (.inr (.inr (.inr rfl)))).trans hgg, rest⟩
  · obtain ⟨es, clock, hh, F, hs, hD⟩ := h1
    exact ⟨es, clock, kM.trans hh, F, hs, hD⟩
theorem MT.mine (h : MT w B l v) {g : Nat} (hg : Mine B v g) : g < w.heap.size := by
  have := h.lt
  rcases hg with rfl | rfl | rfl | q
  · omega
  · omega
  · omega
  · exact (h.own.lt g q).2
theorem oth_new (h : MT w B2 R v2) {g : Nat} (hg : w.heap.size ≤ g) (hg1 : g < w1.heap.size) : OthM B2 w1 v2 g := by
  have := h.lt
  exact ⟨hg1, by omega, by omega, by omega, fun e => by have := (h.own.lt g e.symm).2; omega⟩
theorem oth_size {g : Nat} (h : OthM B w v g) (hs : w.heap.size ≤ w1.heap.size) : OthM B w1 v g := ⟨Nat.lt_of_lt_of_le h.1 hs, h.2⟩
theorem mine_new (k : WM B w v w1 v1) {g : Nat} (hg : Mine B v1 g) : Mine B v g ∨ w.heap.size ≤ g := by
  rcases hg with rfl | rfl | rfl | q
  · exact .inl (.inl rfl)
  · exact .inl (.inr (.inl rfl))
  · exact .inl (.inr (.inr (.inl rfl)))
  · rcases k.new g q with q | q
    · exact .inl (.inr (.inr (.inr q)))
    · exact .inr q
theorem M2.first (h : M2 w B1 B2 T R v1 v2) (n : MT w1 B1 T1 v3) (k : WM B1 w v1 w1 v3) : M2 w1 B1 B2 T1 R v3 v2 := by
  refine ⟨n, h.m2.kept fun g hg => (k.oth g (h.s2 g hg)).2, fun g hg => ?_, fun g hg => (k.oth g (h.s2 g hg)).1⟩
  have hlt := n.mine hg
  rcases mine_new k hg with q | q
  · exact oth_size (h.s1 g q) k.b.size
  · exact oth_new h.m2 q hlt
theorem M2.second (h : M2 w B1 B2 T R v1 v2) (n : MT w1 B2 R1 v3) (k : WM B2 w v2 w1 v3) : M2 w1 B1 B2 T R1 v1 v3 := by
  refine ⟨h.m1.kept fun g hg => (k.oth g (h.s1 g hg)).2, n, fun g hg => (k.oth g (h.s1 g hg)).1, fun g hg => ?_⟩
  have hlt := n.mine hg
  rcases mine_new k hg with q | q
  · exact oth_size (h.s2 g q) k.b.size
  · exact oth_new h.m1 q hlt
theorem TyD.At.old {d : TyD} {b o : Nat} (h : d.At w b o) (hb : Below B w w1) (hlt : b < B) : d.At w1 b o :=
  ⟨(World.cell?_of_block (a := ⟨b, o, none⟩) (hb.block b hlt)).trans h.c0, (World.cell?_of_block (a := ⟨b, o + 1, none⟩) (hb.block b hlt)).trans h.c1, (World.cell?_of_block (a := ⟨b, o + 2, none⟩) (hb.block b hlt)).trans h.c2, (World.cell?_of_block (a := ⟨b, o + 3, none⟩) (hb.block b hlt)).trans h.c3, (World.cell?_of_block (a := ⟨b, o + 4, none⟩) (hb.block b hlt)).trans h.c4⟩
end

theorem isRow_any (d : TyD) (b o : Nat) (w : World) (h : d.At w b o) : Calls Tryd.prog 46 #[.pointer (some ⟨b, o, none⟩)] w fun e w' => e = .returned (.bool (decide (d.kind = 4 ∨ d.kind = 5))) ∧ w' = w := by
  obtain ⟨c0, _, _, _, _⟩ := h
  by_cases h4 : d.kind = 4
  · have q4 : (d.kind == 4) = true := by simpa using h4
    go_enter Tryd.func46, Tryd.ntmps46
    go_wp2_with fail
    go_returns
    exact ⟨by rw [decide_eq_true (Or.inl h4)]; rfl, rfl⟩
  · have q4 : (d.kind == 4) = false := by simpa using h4
    by_cases h5 : d.kind = 5
    · have q5 : (d.kind == 5) = true := by simpa using h5
      go_enter Tryd.func46, Tryd.ntmps46
      go_wp2_with fail
      go_returns
      exact ⟨by rw [decide_eq_true (Or.inr h5)]; rfl, rfl⟩
    · have q5 : (d.kind == 5) = false := by simpa using h5
      go_enter Tryd.func46, Tryd.ntmps46
      go_wp2_with fail
      go_returns
      exact ⟨by rw [decide_eq_false (by rintro (h | h); exact h4 h; exact h5 h)]; rfl, rfl⟩

/-- The children's part of the walk. -/
def KidsW (w0 : World) (B1 B2 : Nat) (l : List Ty) : Prop :=
  ∀ x ∈ l, x.Rg → ∀ (T R : List Int) (v1 v2 : Value) (W : World) (b o : Nat), Below w0.heap.size w0 W → M2 W B1 B2 T R v1 v2 → x.d.At W b o → b < B1 → T.length + x.nodes ≤ 4000000 → R.length + x.nodes ≤ 4000000 →
    Calls Tryd.prog 36 #[.pointer (some ⟨b, o, none⟩), meetFn B1, meetFn B2] W fun e w' => e = .returned (.tuple #[]) ∧ ∃ v1' v2', M2 w' B1 B2 (meetT x T R).1 (meetT x T R).2 v1' v2' ∧ Below B1 W w'

set_option maxRecDepth 100000 in
set_option maxHeartbeats 1000000 in
theorem walk_one (w0 : World) (B1 B2 : Nat) (hB1 : w0.heap.size ≤ B1) (hB : B1 ≤ B2) (d : TyD) (l : List Ty) (hI : Ty.In w0 (.mk d l)) (hG : Ty.Rg (.mk d l)) (hK : KidsW w0 B1 B2 l) (T R : List Int) (v1 v2 : Value) (w : World) (b o : Nat) (hb : Below w0.heap.size w0 w)
    (hM : M2 w B1 B2 T R v1 v2) (hA : d.At w b o) (hlt : b < B1) (hT : T.length + (1 + nodesL l) ≤ 4000000) (hR : R.length + (1 + nodesL l) ≤ 4000000) :
    Calls Tryd.prog 36 #[.pointer (some ⟨b, o, none⟩), meetFn B1, meetFn B2] w fun e w' => e = .returned (.tuple #[]) ∧ ∃ v1' v2', M2 w' B1 B2 (meetT (.mk d l) T R).1 (meetT (.mk d l) T R).2 v1' v2' ∧ Below B1 w w' := by
  have HM := Lib.hid hM
  have HI := Lib.hid hI
  have HK := Lib.hid hK
  have HB := Lib.hid hb
  have HA := Lib.hid hA
  have HT := Lib.hid (And.intro hT hR)
  have HN := Lib.hid (And.intro hB1 (And.intro hB hlt))
  have HG := Lib.hid (show (Lit.int .i64 d.n).wf = true ∧ (Lit.int .i64 d.tail).wf = true ∧ ∀ x ∈ l, Ty.Rg x by cases hG; exact ⟨by assumption, by assumption, by assumption⟩)
  obtain ⟨c0, c1, c2, _, c4⟩ := hA
  clear hM hI hK hb hT hR hB1 hB hlt hG
  unfold meetFn
  go_enter Tryd.func36, Tryd.ntmps36
  go_upto_if 11 with fail
  go_cut [] from 7 to 17 (fun wx => ∃ T1 v1', (if d.kind = 7 then addI T d.n else T) = T1 ∧ M2 wx B1 B2 T1 R v1' v2 ∧ Below B1 w wx)
  case first =>
    by_cases h7 : d.kind = 7
    · have q7 : (d.kind == 7) = true := by simpa using h7
      go_wp2_with fail
      refine (meets_any B1 T v1 d.n w HM.out.m1 HG.out.1 (by have := HT.out; omega)).mono ?_
      rintro e w3 ⟨rfl, v3, hn3, hk3⟩
      have H3 := Lib.hid (And.intro (HM.out.first hn3 hk3) hk3.b)
      clear hn3 hk3
      go_wp2_with fail
      go_meet
      exact ⟨_, _, if_pos h7, H3.out⟩
    · have q7 : (d.kind == 7) = false := by simpa using h7
      go_wp2_with fail
      go_meet
      exact ⟨_, _, if_neg h7, HM.out, Below.refl _ _⟩
  case rest =>
  obtain ⟨T1, v3, hT1, hm1, hb1⟩ := hcut
  have hlT : T1.length ≤ T.length + 1 := by
    have := addI_len T d.n
    rw [← hT1]; split <;> omega
  have HMD := Lib.hid (And.intro hm1 hb1)
  have HT1 := Lib.hid hT1
  have HLT := Lib.hid hlT
  have HPN := Lib.hid (show l.length = d.pn from HI.out.len)
  have HP4 := Lib.hid (show d.pn ≤ 4000000 from HI.out.cap.2.2.2.2.2)
  obtain ⟨_, _, c2w, _, _⟩ := HA.out.old hb1 HN.out.2.2
  clear hm1 hb1 hT1 hlT
  go_wp2_with fail
  clear c0 c1 c2 c4 c2w
  go_loopw [23] (fun i wr => ∃ (k : Nat) (T2 R2 : List Int) (v4 v5 : Value), i = .int .i64 k ∧ k ≤ d.pn ∧ meetTs (l.take k) T1 R = (T2, R2) ∧ M2 wr B1 B2 T2 R2 v4 v5 ∧ Below B1 w wr) (fun i _ => d.pn - (intOf i).toNat)
  case atStart => exact ⟨0, T1, R, v3, v2, rfl, Nat.zero_le _, by rw [List.take_zero]; simp [meetTs], HMD.out⟩
  case round =>
    obtain ⟨k, T2, R2, v4, v5, rfl, hk, hme, hm, hbw⟩ := hrel
    have HR := Lib.hid (And.intro hm hbw)
    have HME := Lib.hid hme
    have hAt := HA.out.old hbw HN.out.2.2
    have hwr : RowKit.Below w0.heap.size w0 wr := HB.out.trans (hbw.mono HN.out.1)
    have HWR := Lib.hid hwr
    obtain ⟨c0, c1, c2, _, c4⟩ := hAt
    clear hm hbw hme
    by_cases hlt2 : k < d.pn
    · have hjl : k < l.length := by rw [HPN.out]; exact hlt2
      obtain ⟨pb, po, hpA, hAtP⟩ := HI.out.part (k := k) hjl
      have hpA' : d.pA = some ⟨pb, po, none⟩ := hpA
      rw [hpA'] at c2
      have hAt0 : (l[k]).d.At w0 pb (po + k * 5) := hAtP k hjl
      have hpl : pb < B1 := Nat.lt_of_lt_of_le hAt0.lt HN.out.1
      have hAtM := hAt0.lower hwr
      obtain ⟨x, hx⟩ : ∃ x, l[k] = x := ⟨_, rfl⟩
      rw [hx] at hAtM
      have hxm : x ∈ l := by rw [← hx]; exact List.getElem_mem hjl
      have htk : l.take (k + 1) = l.take k ++ [x] := by rw [List.take_succ_eq_append_getElem hjl, hx]
      have hn1 := nodesL_take l (k + 1)
      rw [htk, nodesL_snoc] at hn1
      have hl2 := meetTs_len (l.take k) T1 R
      rw [HME.out] at hl2
      have hsT : T2.length + x.nodes ≤ 4000000 := by have := HT.out; have := HLT.out; have h3 : T2.length ≤ T1.length + nodesL (l.take k) := hl2.1; omega
      have hsR : R2.length + x.nodes ≤ 4000000 := by have := HT.out; have h3 : R2.length ≤ R.length + nodesL (l.take k) := hl2.2; omega
      have HMM := Lib.hid (HK.out x hxm (HG.out.2.2 x hxm) T2 R2 v4 v5 wr pb (po + k * 5) hwr HR.out.1 hAtM hpl hsT hsR)
      have hsn : meetTs (l.take (k + 1)) T1 R = ((meetT x T2 R2).1, (meetT x T2 R2).2) := by rw [htk, meetTs_snoc, HME.out]
      have HS := Lib.hid hsn
      have hji : (k : Int) < (d.pn : Int) := by omega
      have hj4 : (k : Int) ≤ 4000000 := by have := HP4.out; omega
      clear hpA hpA' hAtP hAt0 hAtM hx hxm hjl htk hn1 hsn hl2 hsT hsR hwr hpl
      go_wp2_with fail
      refine HMM.out.mono ?_
      rintro e w3 ⟨rfl, v6, v7, hn3, hk3⟩
      have H3 := Lib.hid (And.intro hn3 (HR.out.2.trans hk3))
      clear hn3 hk3 HMM
      go_wp2_with fail
      go_roundw
      case rel => exact ⟨k + 1, _, _, v6, v7, by go_num, hlt2, HS.out, H3.out⟩
      case measure => simp [intOf] <;> omega
    · have hji : ¬ (k : Int) < (d.pn : Int) := by omega
      have hmm : l.take k = l := List.take_of_length_le (by rw [HPN.out]; omega)
      have hres : meetT (.mk d l) T R = if (d.kind = 4 ∨ d.kind = 5) ∧ 0 ≤ d.tail then (T2, addI R2 d.tail) else (T2, R2) := by
        have := HME.out
        rw [hmm] at this
        unfold meetT
        rw [HT1.out, this]
      have HRES := Lib.hid hres
      have HAR := Lib.hid (isRow_any d b o wr ⟨c0, c1, c2, by assumption, c4⟩)
      have HR4 := Lib.hid (show R2.length ≤ 4000000 by
        have h1 := meetTs_len (l.take k) T1 R
        rw [HME.out] at h1
        have h2 : R2.length ≤ R.length + nodesL (l.take k) := h1.2
        have := nodesL_take l k; have := HT.out; omega)
      clear hmm hres hwr HWR
      by_cases hrow : d.kind = 4 ∨ d.kind = 5
      · have hq := HAR.out
        rw [decide_eq_true hrow] at hq
        have HAQ := Lib.hid hq
        clear hq HAR
        by_cases ht : 0 ≤ d.tail
        · have HF := Lib.hid (HRES.out.trans (if_pos ⟨hrow, ht⟩))
          clear hrow
          go_wp2_with fail
          refine HAQ.out.mono ?_
          rintro e w4 ⟨rfl, rfl⟩
          have qt : decide (0 ≤ d.tail) = true := decide_eq_true ht
          go_wp2_with fail
          refine (meets_any B2 R2 v5 d.tail _ HR.out.1.m2 HG.out.2.1 HR4.out).mono ?_
          rintro e w5 ⟨rfl, v6, hn5, hk5⟩
          have H5 := Lib.hid (And.intro (HR.out.1.second hn5 hk5) (HR.out.2.trans (hk5.b.mono HN.out.2.1)))
          clear hn5 hk5
          go_wp2_with fail
          go_returns
          refine ⟨rfl, v4, v6, ?_, H5.out.2⟩
          rw [HF.out]
          exact H5.out.1
        · have HF := Lib.hid (HRES.out.trans (if_neg (fun h => ht h.2)))
          clear hrow
          go_wp2_with fail
          refine HAQ.out.mono ?_
          rintro e w4 ⟨rfl, rfl⟩
          have qt : decide (0 ≤ d.tail) = false := decide_eq_false (by omega)
          go_wp2_with fail
          go_returns
          refine ⟨rfl, v4, v5, ?_, HR.out.2⟩
          rw [HF.out]
          exact HR.out.1
      · have hq := HAR.out
        rw [decide_eq_false hrow] at hq
        have HAQ := Lib.hid hq
        have HF := Lib.hid (HRES.out.trans (if_neg (fun h => hrow h.1)))
        clear hq HAR hrow
        go_wp2_with fail
        refine HAQ.out.mono ?_
        rintro e w4 ⟨rfl, rfl⟩
        go_wp2_with fail
        go_returns
        refine ⟨rfl, v4, v5, ?_, HR.out.2⟩
        rw [HF.out]
        exact HR.out.1

set_option maxRecDepth 100000 in
/-- The walk, at every type. -/
theorem walk_any (w0 : World) (B1 B2 : Nat) (hB1 : w0.heap.size ≤ B1) (hB : B1 ≤ B2) (t : Ty) (hI : t.In w0) : t.Rg → ∀ (T R : List Int) (v1 v2 : Value) (W : World) (b o : Nat), Below w0.heap.size w0 W → M2 W B1 B2 T R v1 v2 → t.d.At W b o → b < B1 → T.length + t.nodes ≤ 4000000 → R.length + t.nodes ≤ 4000000 →
    Calls Tryd.prog 36 #[.pointer (some ⟨b, o, none⟩), meetFn B1, meetFn B2] W fun e w' => e = .returned (.tuple #[]) ∧ ∃ v1' v2', M2 w' B1 B2 (meetT t T R).1 (meetT t T R).2 v1' v2' ∧ Below B1 W w' := by
  induction hI with
  | mk d l lab par cap sub ih =>
  intro hG T R v1 v2 W b o hb hM hA hlt hT hR
  exact walk_one w0 B1 B2 hB1 hB d l (.mk d l lab par cap sub) hG ih T R v1 v2 W b o hb hM hA hlt hT hR
end Go.Proofs.YtlgmddnpmmggdaaDoor
