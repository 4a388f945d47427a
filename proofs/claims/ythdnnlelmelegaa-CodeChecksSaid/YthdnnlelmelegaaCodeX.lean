/-
  Reading instructions and lists of them.
-/
import Derived.Test.YthdnnlelmelegaaCodeW
namespace Go.Proofs.Ythdnnlelmelegaa
open Go.ChangeShapes Go.WideShapes Go.ChangeAt Go.RowKit
set_option linter.unusedVariables false

def AIns.Away (X : Nat → Prop) (y : AIns) : Prop := 0 < y.n → ∀ a, y.A = some a → ¬ X a.block
def AFnc.Away (X : Nat → Prop) (f : AFnc) : Prop := (0 < f.n → ∀ a, f.A = some a → ¬ X a.block) ∧ ∀ y ∈ f.code, y.Away X

theorem Rd.away {w w' : World} {X : Nat → Prop} {size n : Nat} {A : Option Addr} {cs : List Value} (h : Rd w size A n cs) (hk : ∀ k, k < w.heap.size → ¬ X k → w'.heap[k]? = w.heap[k]?) (ha : 0 < n → ∀ a, A = some a → ¬ X a.block) : Rd w' size A n cs := by
  refine ⟨h.1, fun h0 => ?_⟩
  obtain ⟨a, e, hh⟩ := h.2 h0
  have hn : 0 < n := by
    rcases Nat.eq_zero_or_pos n with h' | h'
    · have := h.1; rw [h', Nat.zero_mul] at this; omega
    · exact h'
  exact ⟨a, e, fun j u hu => by
    have hb := hh.block h0
    rw [World.cell?_of_block (w := w) (by rw [add_block]; exact hk a.block hb (ha hn a e))]
    exact hh j u hu⟩
theorem Rd.lt_size {w : World} {size n : Nat} {A : Option Addr} {cs : List Value} (h : Rd w size A n cs) (hs : 0 < size) (hn : 0 < n) (a : Addr) (e : A = some a) : a.block < w.heap.size := by
  have h0 : 0 < cs.length := by rw [h.1]; exact Nat.mul_pos hn hs
  obtain ⟨a', e', hh⟩ := h.2 h0
  rw [e] at e'; injection e' with e'; subst e'
  exact hh.block h0
theorem AIns.In.keep {w w' : World} {X : Nat → Prop} {y : AIns} (h : y.In w) (hk : ∀ k, k < w.heap.size → ¬ X k → w'.heap[k]? = w.heap[k]?) (ha : y.Away X) : y.In w' := ⟨h.op, h.a, h.rd.away hk ha, h.cap, h.sz, h.all⟩
theorem AFnc.In.keep {w w' : World} {X : Nat → Prop} {y : AFnc} (h : y.In w) (hk : ∀ k, k < w.heap.size → ¬ X k → w'.heap[k]? = w.heap[k]?) (ha : y.Away X) : y.In w' := ⟨h.regs, h.caps, h.rd.away hk ha.1, h.cap, h.sz, fun z hz => (h.all z hz).keep hk (ha.2 z hz)⟩
theorem AIns.In.awayLt {w : World} {y : AIns} (h : y.In w) : y.Away (fun b => w.heap.size ≤ b) := fun hn a e hb => by have := h.rd.lt_size (by omega) hn a e; omega
def strE : Elt Str Str where
  cells s := [.string (bstr s)]
  abs s := s
  good _ s := s.length ≤ maxLen
  away _ _ := True
  keep h _ _ := h
  lt _ := trivial
  mono _ _ := trivial
def insE : Elt AIns Ins where
  cells := AIns.cells
  abs := AIns.ins
  good w y := y.In w
  away := AIns.Away
  keep h hk ha := h.keep hk ha
  lt h := h.awayLt
  mono h hXY := fun hn a e hb => h hn a e (hXY _ hb)
def fncE : Elt AFnc Fnc where
  cells := AFnc.cells
  abs := AFnc.fnc
  good w y := y.In w
  away := AFnc.Away
  keep h hk ha := h.keep hk ha
  lt h := ⟨fun hn a e hb => by have := h.rd.lt_size (by omega) hn a e; omega, fun y hy => (h.all y hy).awayLt⟩
  mono h hXY := ⟨fun hn a e hb => h.1 hn a e (hXY _ hb), fun y hy hn a e hb => h.2 y hy hn a e (hXY _ hb)⟩
theorem elStr : ElemTy Try.prog 23 9 (.string ⟨#[]⟩) 1 16 := ⟨Try.underlying23, by kernel_rfl, rfl, by decide, by decide⟩
theorem oneStr (s : Str) : ∀ u ∈ (#[Value.string (bstr s)] : Array Value).toList, u.oneCell' = true := by
  intro u hu; simp at hu; subst hu; rfl
theorem elIns : ElemTy Try.prog 42 47 (.agg #[.int .i64 0, .int .i64 0, .slice none 0 0]) 3 40 := ⟨Try.underlying42, by kernel_rfl, rfl, by decide, by decide⟩
theorem elFnc : ElemTy Try.prog 24 44 (.agg #[.int .i64 0, .int .i64 0, .slice none 0 0]) 3 40 := ⟨Try.underlying24, by kernel_rfl, rfl, by decide, by decide⟩
theorem oneIns (y : AIns) : ∀ u ∈ (#[Value.int .i64 y.op, .int .i64 y.a, .slice y.A y.n y.c] : Array Value).toList, u.oneCell' = true := by
  intro u hu; simp at hu; rcases hu with rfl | rfl | rfl <;> rfl
theorem oneFnc (y : AFnc) : ∀ u ∈ (#[Value.int .i64 y.regs, .int .i64 y.caps, .slice y.A y.n y.c] : Array Value).toList, u.oneCell' = true := by
  intro u hu; simp at hu; rcases hu with rfl | rfl | rfl <;> rfl

theorem flat_ints (l : List Int) : l.flatMap intE.cells = i64s l := (i64s_flat l).symm
theorem RK.frz {rb : Nat} {w w' : World} (h : RK rb w w') {p : Addr} (hp : p.block ≠ rb) (hs : p.block < w.heap.size) : w'.frozen? p = w.frozen? p :=
  World.frozen?_of_block (h.block p.block hs (fun e => hp (by injection e)) (by simp [Value.ownBlock]))
theorem RK.setNew {rb : Nat} {w w1 : World} (h : RK rb w w1) {p : Addr} (hp : w.heap.size ≤ p.block) (u : Value) : RK rb w (w1.setCell p u) :=
  ⟨by simp [World.setCell, h.os], by simp [World.setCell, h.tape], by simp [World.setCell, h.output], by simp [h.size], fun k hk hX hv => (Below.heap_setCell w1 _ u k (by omega)).trans (h.block k hk hX hv), .inl rfl⟩
theorem RSt.upto {w w' : World} {rb : Nat} {s : List UInt8} {bad : Bool} (h : RSt w rb s bad) (hb : Below (rb + 1) w w') : RSt w' rb s bad := by
  obtain ⟨A, c, hs⟩ := h; exact ⟨A, c, hs.upto hb⟩
theorem Step.upto {α : Type} {p : List UInt8 → Option (α × List UInt8)} {s : List UInt8} {bad : Bool} {rb : Nat} {w w' : World} {x : α} (h : Step p s bad rb w x) (hb : Below (rb + 1) w w') : Step p s bad rb w' x := by
  rcases h with ⟨hb', r, hr, hst⟩ | ⟨hno, hst⟩
  · exact .inl ⟨hb', r, hr, hst.upto hb⟩
  · exact .inr ⟨hno, hst.upto hb⟩
/-- Three things one behind the other. -/
theorem three {α β γ δ : Type} {p : List UInt8 → Option (α × List UInt8)} {q : List UInt8 → Option (β × List UInt8)} {t : List UInt8 → Option (γ × List UInt8)} {z : List UInt8 → Option (δ × List UInt8)} {f : α → β → γ → δ}
    (hz : ∀ s, z s = (p s).bind fun x => (q x.2).bind fun y => (t y.2).map fun l => (f x.1 y.1 l.1, l.2))
    {s s1 s2 : List UInt8} {bad b1 b2 : Bool} {rb : Nat} {w : World} {x : α} {y : β} {l : γ}
    (h1 : (b1 = false ∧ bad = false ∧ p s = some (x, s1)) ∨ (b1 = true ∧ (bad = true ∨ p s = none)))
    (h2 : (b2 = false ∧ b1 = false ∧ q s1 = some (y, s2)) ∨ (b2 = true ∧ (b1 = true ∨ q s1 = none))) (h3 : Step t s2 b2 rb w l) : Step z s bad rb w (f x y l) := by
  have hzs := hz s
  rcases h3 with ⟨e3, r, hr, hst⟩ | ⟨hno, hst⟩
  · rcases h2 with ⟨_, e2, h2⟩ | ⟨e2, _⟩
    · rcases h1 with ⟨_, e1, h1⟩ | ⟨e1, _⟩
      · refine .inl ⟨e1, r, ?_, hst⟩
        rw [hzs, h1, Option.bind_some, h2, Option.bind_some, hr]; rfl
      · rw [e1] at e2; cases e2
    · rw [e2] at e3; cases e3
  · refine .inr ⟨?_, hst⟩
    rcases h1 with ⟨e1, e0, h1⟩ | ⟨e1, h1⟩
    · rcases h2 with ⟨e2, _, h2⟩ | ⟨e2, h2⟩
      · rcases hno with hno | hno
        · rw [e2] at hno; cases hno
        · refine .inr ?_
          rw [hzs, h1, Option.bind_some, h2, Option.bind_some, hno]; rfl
      · rcases h2 with h2 | h2
        · rw [e1] at h2; cases h2
        · refine .inr ?_
          rw [hzs, h1, Option.bind_some, h2]; rfl
    · rcases h1 with h1 | h1
      · exact .inl h1
      · refine .inr ?_
        rw [hzs, h1]; rfl

theorem pIns_eq (s : List UInt8) : pIns s = (rd s).bind fun x => (rd x.2).bind fun y => (plist rd y.2).map fun l => ((⟨x.1, y.1, l.1⟩ : Ins), l.2) := by
  unfold pIns
  cases rd s with
  | none => rfl
  | some x =>
    obtain ⟨x, r1⟩ := x
    simp only [Option.bind_some]
    cases rd r1 with
    | none => rfl
    | some y =>
      obtain ⟨y, r2⟩ := y
      simp only [Option.bind_some]
      cases plist rd r2 with
      | none => rfl
      | some l => rfl
theorem pFnc_eq (s : List UInt8) : pFnc s = (rd s).bind fun x => (rd x.2).bind fun y => (plist pIns y.2).map fun l => ((⟨x.1, y.1, l.1⟩ : Fnc), l.2) := by
  unfold pFnc
  cases rd s with
  | none => rfl
  | some x =>
    obtain ⟨x, r1⟩ := x
    simp only [Option.bind_some]
    cases rd r1 with
    | none => rfl
    | some y =>
      obtain ⟨y, r2⟩ := y
      simp only [Option.bind_some]
      cases plist pIns r2 with
      | none => rfl
      | some l => rfl
theorem pImg_eq (s : List UInt8) : pImg s = (plist rd s).bind fun x => (plist pText x.2).bind fun y => (plist pFnc y.2).map fun l => ((⟨x.1, y.1, l.1⟩ : Img), l.2) := by
  unfold pImg
  cases plist rd s with
  | none => rfl
  | some x =>
    obtain ⟨x, r1⟩ := x
    simp only [Option.bind_some]
    cases plist pText r1 with
    | none => rfl
    | some y =>
      obtain ⟨y, r2⟩ := y
      simp only [Option.bind_some]
      cases plist pFnc r2 with
      | none => rfl
      | some l => rfl

set_option maxRecDepth 100000 in
set_option maxHeartbeats 400000 in
theorem rinstr_any (rb : Nat) (s : List UInt8) (bad : Bool) (w : World) (h : RSt w rb s bad) (hbad : bad = true → s = []) (hl : s.length ≤ 1099511627776) :
    Calls Try.prog 45 #[.pointer (some ⟨rb, 0, none⟩)] w fun e w' => ∃ y : AIns, e = .returned (.agg #[.int .i64 y.op, .int .i64 y.a, .slice y.A y.n y.c]) ∧ y.In w' ∧ y.Away (fun b => b < w.heap.size) ∧ Step pIns s bad rb w' y.ins ∧ RK rb w w' := by
  have hrb : rb < w.heap.size := by obtain ⟨A, c, hs⟩ := h; exact World.block_lt_of_cell? w _ hs.c0
  have hb0 : Below w.heap.size w (w.alloc (.cells #[.int .i64 0, .int .i64 0, .slice none 0 0] 47)) := (Below.refl _ _).alloc (Nat.le_refl _) _
  have hk0 : RK rb w (w.alloc (.cells #[.int .i64 0, .int .i64 0, .slice none 0 0] 47)) := (RK.refl rb w).of_below hb0
  have h0 := h.upto (hb0.mono hrb)
  have z0 := cell_new w #[.int .i64 0, .int .i64 0, .slice none 0 0] 47 0 (v := .int .i64 0) (fr := (0, 0)) rfl
  have z1 := cell_new w #[.int .i64 0, .int .i64 0, .slice none 0 0] 47 1 (v := .int .i64 0) (fr := (0, 0)) rfl
  have z2 := cell_new w #[.int .i64 0, .int .i64 0, .slice none 0 0] 47 2 (v := .slice none 0 0) (fr := (0, 0)) rfl
  have zf : ∀ j, (w.alloc (.cells #[.int .i64 0, .int .i64 0, .slice none 0 0] 47)).frozen? ⟨w.heap.size, j, none⟩ = false := fun j => by rw [World.frozen?_alloc_mark]; simp
  have zs : w.heap.size < (w.alloc (.cells #[.int .i64 0, .int .i64 0, .slice none 0 0] 47)).heap.size := by simp
  have Z := Lib.hid (And.intro z0 (And.intro z1 (And.intro z2 (And.intro zf (And.intro zs hk0)))))
  clear z0 z1 z2 zf hb0 hk0 zs h
  go_enter Try.func45, Try.ntmps45
  go_wp2_with fail
  generalize (w.alloc (.cells #[.int .i64 0, .int .i64 0, .slice none 0 0] 47)) = w0 at *
  refine (rint_any rb s bad w0 h0 hbad hl).mono ?_
  rintro e w1 ⟨op, rfl, hop, hst1, hk1⟩
  obtain ⟨s1, b1, hs1, hb1, hl1, hp1⟩ := hst1.out rd_le
  clear hst1 hbad h0
  go_wp2_with fail
  refine (rint_any rb s1 b1 w1 hs1 hb1 (by omega)).mono ?_
  rintro e w2 ⟨a, rfl, ha, hst2, hk2⟩
  obtain ⟨s2, b2, hs2, hb2, hl2, hp2⟩ := hst2.out rd_le
  clear hst2 hs1 hb1
  go_wp2_with fail
  refine (listInt_any rb s2 b2 w2 hs2 hb2 (by omega)).mono ?_
  rintro e w3 ⟨A, n, c, l, rfl, hln, hns, hown, hgood, hst3, hk3⟩
  have hk03 : RK rb w0 w3 := (hk1.trans hk2).trans hk3
  have hne : w.heap.size ≠ rb := by omega
  have z0 := hk03.at_ (p := ⟨w.heap.size, 0, none⟩) hne Z.out.1
  have z1 := hk03.at_ (p := ⟨w.heap.size, 1, none⟩) hne Z.out.2.1
  have z2 := hk03.at_ (p := ⟨w.heap.size, 2, none⟩) hne Z.out.2.2.1
  have f0 := (hk03.frz (p := ⟨w.heap.size, 0, none⟩) hne Z.out.2.2.2.2.1).trans (Z.out.2.2.2.1 0)
  have f1 := (hk03.frz (p := ⟨w.heap.size, 1, none⟩) hne Z.out.2.2.2.2.1).trans (Z.out.2.2.2.1 1)
  have f2 := (hk03.frz (p := ⟨w.heap.size, 2, none⟩) hne Z.out.2.2.2.2.1).trans (Z.out.2.2.2.1 2)
  have HX := Lib.hid (And.intro hop (And.intro ha (And.intro hp1 (And.intro hp2 (And.intro hln (And.intro hns (And.intro hown (And.intro hgood (And.intro hst3 (And.intro hk1 (And.intro hk2 hk3)))))))))))
  have hkw : RK rb w w3 := Z.out.2.2.2.2.2.trans hk03
  have HK := Lib.hid hkw
  clear hkw hop ha hp1 hp2 hln hns hown hgood hst3 hk3 hk03 hs2 hb2
  go_wp2_with fail
  have q0 : (w3.setCell ⟨w.heap.size, 0, none⟩ (.int .i64 op)).cell? ⟨w.heap.size, 0, none⟩ = some (.int .i64 op) := World.cell?_setCell_same _ _ _ z0
  have q1 : ((w3.setCell ⟨w.heap.size, 0, none⟩ (.int .i64 op)).setCell ⟨w.heap.size, 1, none⟩ (.int .i64 a)).cell? ⟨w.heap.size, 1, none⟩ = some (.int .i64 a) :=
    World.cell?_setCell_same _ _ _ (by rw [World.cell?_setCell_other _ _ _ _ (by simp)]; exact z1)
  have q2 : (((w3.setCell ⟨w.heap.size, 0, none⟩ (.int .i64 op)).setCell ⟨w.heap.size, 1, none⟩ (.int .i64 a)).setCell ⟨w.heap.size, 2, none⟩ (.slice A n c)).cell? ⟨w.heap.size, 2, none⟩ = some (.slice A n c) :=
    World.cell?_setCell_same _ _ _ (by rw [World.cell?_setCell_other _ _ _ _ (by simp), World.cell?_setCell_other _ _ _ _ (by simp)]; exact z2)
  refine bodyPost_ret (v := .agg #[.int .i64 op, .int .i64 a, .slice A n c]) (by simp [results, Try.results45, go_sem, q0, q1, q2]) rfl ?_
  have hg3 : w.heap.size < w2.heap.size := by
    have h1 := Z.out.2.2.2.2.1
    have h2 := HX.out.2.2.2.2.2.2.2.2.2.1.size
    have h3 := HX.out.2.2.2.2.2.2.2.2.2.2.1.size
    omega
  have hown := HX.out.2.2.2.2.2.2.1
  obtain ⟨A', c', hv, hcap1, hcap2, _⟩ := own_cap hown
  injection hv with hv1 hv2 hv3
  subst hv1
  subst hv3
  have hrd := Rd.of_own hown
  rw [flat_ints] at hrd
  have hy : AIns.In w3 ⟨op, a, A, n, c, l⟩ := ⟨HX.out.1, HX.out.2.1, hrd, ⟨hcap1, hcap2⟩, by have := HX.out.2.2.2.2.2.1; show n ≤ _; omega, fun y hy => (HX.out.2.2.2.2.2.2.2.1 y hy).1⟩
  have haw : ∀ B, B ≤ w2.heap.size → AIns.Away (fun b => b < B) ⟨op, a, A, n, c, l⟩ := fun B hB hn x hx hlt => by
    have h1 := hown.lt x.block (by rw [show A = some x from hx]; rfl)
    omega
  refine ⟨⟨op, a, A, n, c, l⟩, rfl, ?_, haw _ (by omega), ?_, ?_⟩
  · refine hy.keep (X := fun b => b = w.heap.size) (fun k hk hX => ?_) (fun hn x hx he => ?_)
    · rw [Below.heap_setCell _ _ _ _ hX, Below.heap_setCell _ _ _ _ hX, Below.heap_setCell _ _ _ _ hX]
    · have := haw (w.heap.size + 1) (by omega) hn x hx
      omega
  · have h3 := three (p := rd) (q := rd) (t := plist rd) (z := pIns) (f := fun x y l => (⟨x, y, l⟩ : Ins)) pIns_eq HX.out.2.2.1 HX.out.2.2.2.1 HX.out.2.2.2.2.2.2.2.2.1
    rw [show l.map intE.abs = l from List.map_id' l] at h3
    exact h3.upto ((((Below.refl _ _).setCell hrb _).setCell hrb _).setCell hrb _)
  · exact ((HK.out.setNew (Nat.le_refl _) _).setNew (Nat.le_refl _) _).setNew (Nat.le_refl _) _
set_option maxRecDepth 100000 in
set_option maxHeartbeats 400000 in
theorem listIns_any (rb : Nat) (s : List UInt8) (bad : Bool) (w : World) (h : RSt w rb s bad) (hbad : bad = true → s = []) (hl : s.length ≤ 1099511627776) :
    Calls Try.prog 44 #[.pointer (some ⟨rb, 0, none⟩), .func (.func 45) #[.pointer (some ⟨rb, 0, none⟩)] #[]] w fun e w' => ListRes insE pIns 47 3 rb s bad w e w' := by
  have hrb : rb < w.heap.size := by obtain ⟨A, c, hs⟩ := h; exact World.block_lt_of_cell? w _ hs.c0
  go_enter Try.func44, Try.ntmps44
  go_wp2_with fail
  refine (rcount_any rb s bad w h hbad hl).mono ?_
  rintro e w1 ⟨n, rfl, hst, hn, hk⟩
  obtain ⟨s0, b0, hs0, hb0, hl0, hnl, hpl⟩ := hst.enter hn
  have HC : RowKit.Hid (Cnt rb n s bad s0 b0 w w1) := Lib.hid ⟨hpl, hnl, hl0, hk⟩
  have hnn : n ≤ 1099511627776 := by omega
  have hrb1 : rb < w1.heap.size := Nat.lt_of_lt_of_le hrb hk.size
  clear hst hn hk hpl hbad h
  obtain ⟨T, hTT⟩ : ∃ T, T = (if b0 then none else plistN pIns n s0) := ⟨_, rfl⟩
  have hstart := LR.start insE pIns 47 3 (rb := rb) (n := n) (s := s) (bad := false) (w := w) hs0 hb0
  rw [← hTT] at hstart
  have HT0 := Lib.hid hTT
  clear hTT hs0 hb0
  go_wp2_with fail
  go_loopw [5, 8] (fun z i wr => LR insE pIns 47 3 rb n T s0.length w1 z i wr) (fun _ i _ => n - (intOf i).toNat)
  case atStart => exact hstart
  case round =>
    clear hstart
    have HREL := Lib.hid hrel
    obtain ⟨k, l, s', bad', rfl, hkn, hlk, hown, hgood, hst, hbd, hsl, hrk, hT⟩ := hrel
    by_cases hlt : k < n
    · obtain ⟨A, c, hs⟩ := hst
      have c1 := hs.c1
      cases bad' with
      | true =>
        have hsn := hbd rfl
        have HX : RowKit.Hid (T = none) := Lib.hid (by rcases hT with ⟨h, _⟩ | ⟨_, h⟩; cases h; exact h)
        have HS := Lib.hid hs
        have HK := Lib.hid (And.intro hsn hrk)
        clear hT hs hsn hbd hrk hgood hown
        go_wp2_with fail
        go_returns
        exact LR.amiss insE pIns 47 3 (l := []) (k := 0) HC.out HT0.out (by have h1 := HS.out; rw [HK.out.1] at h1; exact ⟨_, _, h1⟩) HK.out.2 HX.out
      | false =>
        have HX : RowKit.Hid (T = (plistN pIns (n - k) s').map fun x => (l.map insE.abs ++ x.1, x.2)) := Lib.hid (by rcases hT with ⟨_, h⟩ | ⟨h, _⟩; exact h; cases h)
        have HK := Lib.hid (And.intro hs (And.intro hlk (And.intro hgood (And.intro hsl hrk))))
        clear hT hbd hgood
        go_wp2_with fail
        refine (rinstr_any rb s' false wr ⟨A, c, hs⟩ (fun h => by cases h) (by have := HC.out.l; omega)).mono ?_
        rintro e w2 ⟨y, rfl, hy, hyf, hst2, hk2⟩
        have hs2 := hk2.size
        have hs1 := hrk.size
        have hown2 : w2.ownsRow w1.heap.size 47 3 u5 k (l.flatMap insE.cells) := own_rk hown hk2 hrb1
        have HYF := Lib.hid hyf
        clear hyf
        have HY := Lib.hid (And.intro hy (And.intro hst2 hk2))
        clear hst2 hk2 hy hrk hs
        go_wp2_with (at_builtin; refine wpList_app elIns _ rfl (.tmp 14) (.tmp 17) rfl w1.heap.size u5 k _ rfl (hown2.alloc _) (some ⟨w2.heap.size, 0, none⟩) 1 1 _ rfl (Rd.lit w2 _ _ rfl) (oneIns _) (by omega) (by simp; omega) ?_; intro v' w6 hown6 hb6 hg6 ho6)
        go_roundw
        case rel => exact LR.step insE pIns 47 3 hrb1 hlt HK.out.2.1 hown HK.out.2.2.1 HK.out.2.2.2.1 HK.out.2.2.2.2 HX.out pIns_le HY.out.1 HYF.out HY.out.2.1 HY.out.2.2 hown6 hg6 ho6
        case measure => simp [intOf] <;> omega
    · obtain rfl : k = n := by omega
      obtain ⟨A, c, rfl, _⟩ := own_cap hown
      have hd := LR.done insE pIns 47 3 HC.out hrb (by rw [← HT0.out]; exact HREL.out)
      have HD := Lib.hid hd
      clear hd hT hgood
      go_wp2_with fail
      go_returns
      exact HD.out

end Go.Proofs.Ythdnnlelmelegaa
