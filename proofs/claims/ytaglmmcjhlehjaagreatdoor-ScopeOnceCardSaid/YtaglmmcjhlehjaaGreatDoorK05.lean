/-
  What the writer writes of an expression, by the code.
-/
import Derived.Test.YtaglmmcjhlehjaaGreatDoorK04
import Derived.Test.YtaglmmcjhlehjaaGreatDoorShelfN
import Derived.Lib.LaidTab
import Derived.Deep.CutRange
import Derived.Deep.RegionHeld3
namespace Go.Proofs.YtaglmmcjhlehjaaGreatDoor
open Go.ChangeShapes Go.WideShapes Go.ChangeAt Go.RowKit Go.Sort
set_option linter.unusedVariables false
set_option linter.unusedSimpArgs false


abbrev CAP : Nat := 140737488355328
/-- Where the writer stands: it holds a text; what lay ahead of it, and rows of another type, are as they were. -/
def St (w0 : World) (b : Nat) (acc : Str) (wS w : World) : Prop := Wd w0.heap.size b acc w ∧ Below w0.heap.size w0 wS ∧ Below w0.heap.size wS w ∧ Keeps wS w
theorem St.all {w0 wS w : World} {b : Nat} {acc : Str} (h : St w0 b acc wS w) : Below w0.heap.size w0 w := h.2.1.trans h.2.2.1
theorem St.here {w0 wS w : World} {b : Nat} {acc : Str} (h : St w0 b acc wS w) : St w0 b acc w w := ⟨h.1, h.all, Below.refl _ _, Keeps.refl _⟩
theorem St.on {w0 wS w w' : World} {b : Nat} {acc acc' : Str} (h : St w0 b acc wS w) (k : St w0 b acc' w w') : St w0 b acc' wS w' := ⟨k.1, h.2.1, h.2.2.1.trans k.2.2.1, h.2.2.2.trans k.2.2.2⟩
theorem St.below {w0 wS w w' : World} {b : Nat} {acc : Str} (h : St w0 b acc wS w) (hb : Below w.heap.size w w') : St w0 b acc wS w' :=
  ⟨h.1.below hb, h.2.1, h.2.2.1.trans (hb.mono h.all.size), h.2.2.2.trans (Keeps.of_below hb)⟩
theorem St.say {w0 wS w : World} {b : Nat} {acc : Str} (h : St w0 b acc wS w) (l : List Str) (hl : acc.length + l.flatten.length ≤ CAP) (h4 : l.length ≤ 100) (n : Nat) (hn : l.length = n) (cs : Array Value) (hcs : (strs l).toArray = cs) :
    Calls Tryz.prog 58 #[.pointer (some ⟨b, 0, none⟩), .slice (some ⟨w.heap.size, 0, none⟩) n n] (w.alloc (.cells cs 9)) fun e w' => e = .returned (.tuple #[]) ∧ St w0 b (acc ++ l.flatten) wS w' :=
  (say_new w0.heap.size b acc l w h.1 hl h.all.size h4 n hn cs hcs).mono fun e w' hh => ⟨hh.1, hh.2.1, h.2.1, h.2.2.1.trans hh.2.2.1, h.2.2.2.trans hh.2.2.2⟩
/-- What a function of the writer writes of what lies at a place. -/
def FunAt (F : FuncId) (w0 : World) (d : ExD) (wt : Nat) (r : Str) : Prop := ∀ (b b' o' : Nat) (acc : Str) (w : World), d.At w0 b' o' → St w0 b acc w w → acc.length + wt ≤ CAP →
  Calls Tryz.prog F #[.pointer (some ⟨b, 0, none⟩), .pointer (some ⟨b', o', none⟩)] w fun e w' => e = .returned (.tuple #[]) ∧ St w0 b (acc ++ r) w w'
theorem FunAt.step {F : FuncId} {w0 : World} {d : ExD} {wt : Nat} {r : Str} (h : FunAt F w0 d wt r) {b b' o' : Nat} {acc : Str} {wS w : World} (H : St w0 b acc wS w) (hAt : d.At w0 b' o') (hl : acc.length + wt ≤ CAP) :
    Calls Tryz.prog F #[.pointer (some ⟨b, 0, none⟩), .pointer (some ⟨b', o', none⟩)] w fun e w' => e = .returned (.tuple #[]) ∧ St w0 b (acc ++ r) wS w' :=
  (h b b' o' acc w hAt H.here hl).mono fun e w' hh => ⟨hh.1, H.on hh.2⟩
abbrev WholeAt (w0 : World) (x : Ex) : Prop := FunAt 34 w0 x.d x.wt x.sh
abbrev PartAt (w0 : World) (x : Ex) : Prop := FunAt 83 w0 x.d (x.wt + 2) x.pa
abbrev Tab (w : World) : Prop := Lib.TabIs Tryz.prog w "internal/strconv.uint64pow10" .u64 Lib.pow10Tab
theorem gTab : Tryz.prog.globalNamed "internal/strconv.uint64pow10" = some 1 := by kernel_rfl
theorem tab_below {w w' : World} (h : Tab w) (hb : Below w.heap.size w w') : Tab w' := by
  unfold Tab Lib.TabIs World.var? at h ⊢
  rw [gTab] at h ⊢
  simp only [Option.bind_some] at h ⊢
  have hlt : 1 < w.heap.size := by
    rcases Nat.lt_or_ge 1 w.heap.size with h' | h'
    · exact h'
    · rw [Array.getElem?_eq_none h'] at h; cases h
  rw [hb.block _ hlt]
  exact h
theorem below_growN {w : World} (k : Nat) (os : Array Obj) : Below w.heap.size w (grow (w.drewN k) os) := by
  have h := below_regrown w (w.drewN k).drawn os
  exact h
theorem aheadF_len (d : ExD) : d.aheadF.length ≤ d.s.length + 6 := by
  unfold ExD.aheadF
  repeat' split
  all_goals simp
theorem one_at {w0 : World} {d : ExD} {a : Ex} (h : (Ex.mk d [a]).In w0) : ∃ pb po, d.pA = some ⟨pb, po, none⟩ ∧ a.d.At w0 pb po := by
  obtain ⟨pb, po, h1, h2⟩ := h.part (k := 0) (by simp [Ex.l])
  exact ⟨pb, po, h1, by have := h2 0 (by simp [Ex.l]); simpa [Ex.l] using this⟩
theorem two_at {w0 : World} {d : ExD} {a c : Ex} (h : (Ex.mk d [a, c]).In w0) : ∃ pb po, d.pA = some ⟨pb, po, none⟩ ∧ a.d.At w0 pb po ∧ c.d.At w0 pb (po + 8) := by
  obtain ⟨pb, po, h1, h2⟩ := h.part (k := 0) (by simp [Ex.l])
  exact ⟨pb, po, h1, by have := h2 0 (by simp [Ex.l]); simpa [Ex.l] using this, by have := h2 1 (by simp [Ex.l]); simpa [Ex.l] using this⟩

set_option maxRecDepth 100000 in
set_option maxHeartbeats 2000000 in
theorem part_any (w0 : World) (x : Ex) (Lx : x.sh.length + 2 ≤ x.wt) (HW : WholeAt w0 x) : PartAt w0 x := by
  intro b b' o' acc w hAt hst hlen
  have H0 := Lib.hid hst
  have HLEN := Lib.hid (And.intro hlen Lx)
  have HA := Lib.hid hAt
  obtain ⟨c0, _, _, _, _, _, _, _⟩ := hAt.lower hst.all
  clear hAt hst hlen Lx
  by_cases k1 : x.d.kind = 1
  · have HP := Lib.hid (show x.pa = x.sh by unfold Ex.pa brk bareB; rw [decide_eq_true (by omega)]; rfl)
    have q1 : (x.d.kind == 1) = true := by rw [k1]; rfl
    clear k1
    go_enter Tryz.func83, Tryz.ntmps83
    go_wp2_with fail
    refine (HW.step H0.out HA.out (by have h := HLEN.out; omega)).mono ?_
    rintro e v1 ⟨rfl, hs1⟩
    have H1 := Lib.hid hs1
    clear hs1 c0
    go_wp2_with fail
    go_end0
    exact ⟨rfl, by rw [HP.out]; exact H1.out⟩
  by_cases k2 : x.d.kind = 2
  · have HP := Lib.hid (show x.pa = x.sh by unfold Ex.pa brk bareB; rw [decide_eq_true (by omega)]; rfl)
    have q1 : (x.d.kind == 1) = false := by rw [k2]; rfl
    have q2 : (x.d.kind == 2) = true := by rw [k2]; rfl
    clear k1 k2
    go_enter Tryz.func83, Tryz.ntmps83
    go_wp2_with fail
    refine (HW.step H0.out HA.out (by have h := HLEN.out; omega)).mono ?_
    rintro e v1 ⟨rfl, hs1⟩
    have H1 := Lib.hid hs1
    clear hs1 c0
    go_wp2_with fail
    go_end0
    exact ⟨rfl, by rw [HP.out]; exact H1.out⟩
  by_cases k3 : x.d.kind = 3
  · have HP := Lib.hid (show x.pa = x.sh by unfold Ex.pa brk bareB; rw [decide_eq_true (by omega)]; rfl)
    have q1 : (x.d.kind == 1) = false := by rw [k3]; rfl
    have q2 : (x.d.kind == 2) = false := by rw [k3]; rfl
    have q3 : (x.d.kind == 3) = true := by rw [k3]; rfl
    clear k1 k2 k3
    go_enter Tryz.func83, Tryz.ntmps83
    go_wp2_with fail
    refine (HW.step H0.out HA.out (by have h := HLEN.out; omega)).mono ?_
    rintro e v1 ⟨rfl, hs1⟩
    have H1 := Lib.hid hs1
    clear hs1 c0
    go_wp2_with fail
    go_end0
    exact ⟨rfl, by rw [HP.out]; exact H1.out⟩
  by_cases k8 : x.d.kind = 8
  · have HP := Lib.hid (show x.pa = x.sh by unfold Ex.pa brk bareB; rw [decide_eq_true (by omega)]; rfl)
    have q1 : (x.d.kind == 1) = false := by rw [k8]; rfl
    have q2 : (x.d.kind == 2) = false := by rw [k8]; rfl
    have q3 : (x.d.kind == 3) = false := by rw [k8]; rfl
    have q8 : (x.d.kind == 8) = true := by rw [k8]; rfl
    clear k1 k2 k3 k8
    go_enter Tryz.func83, Tryz.ntmps83
    go_wp2_with fail
    refine (HW.step H0.out HA.out (by have h := HLEN.out; omega)).mono ?_
    rintro e v1 ⟨rfl, hs1⟩
    have H1 := Lib.hid hs1
    clear hs1 c0
    go_wp2_with fail
    go_end0
    exact ⟨rfl, by rw [HP.out]; exact H1.out⟩
  by_cases k10 : x.d.kind = 10
  · have HP := Lib.hid (show x.pa = x.sh by unfold Ex.pa brk bareB; rw [decide_eq_true (by omega)]; rfl)
    have q1 : (x.d.kind == 1) = false := by rw [k10]; rfl
    have q2 : (x.d.kind == 2) = false := by rw [k10]; rfl
    have q3 : (x.d.kind == 3) = false := by rw [k10]; rfl
    have q8 : (x.d.kind == 8) = false := by rw [k10]; rfl
    have q10 : (x.d.kind == 10) = true := by rw [k10]; rfl
    clear k1 k2 k3 k8 k10
    go_enter Tryz.func83, Tryz.ntmps83
    go_wp2_with fail
    refine (HW.step H0.out HA.out (by have h := HLEN.out; omega)).mono ?_
    rintro e v1 ⟨rfl, hs1⟩
    have H1 := Lib.hid hs1
    clear hs1 c0
    go_wp2_with fail
    go_end0
    exact ⟨rfl, by rw [HP.out]; exact H1.out⟩
  by_cases k12 : x.d.kind = 12
  · have HP := Lib.hid (show x.pa = x.sh by unfold Ex.pa brk bareB; rw [decide_eq_true (by omega)]; rfl)
    have q1 : (x.d.kind == 1) = false := by rw [k12]; rfl
    have q2 : (x.d.kind == 2) = false := by rw [k12]; rfl
    have q3 : (x.d.kind == 3) = false := by rw [k12]; rfl
    have q8 : (x.d.kind == 8) = false := by rw [k12]; rfl
    have q10 : (x.d.kind == 10) = false := by rw [k12]; rfl
    have q12 : (x.d.kind == 12) = true := by rw [k12]; rfl
    clear k1 k2 k3 k8 k10 k12
    go_enter Tryz.func83, Tryz.ntmps83
    go_wp2_with fail
    refine (HW.step H0.out HA.out (by have h := HLEN.out; omega)).mono ?_
    rintro e v1 ⟨rfl, hs1⟩
    have H1 := Lib.hid hs1
    clear hs1 c0
    go_wp2_with fail
    go_end0
    exact ⟨rfl, by rw [HP.out]; exact H1.out⟩
  by_cases k22 : x.d.kind = 22
  · have HP := Lib.hid (show x.pa = x.sh by unfold Ex.pa brk bareB; rw [decide_eq_true (by omega)]; rfl)
    have q1 : (x.d.kind == 1) = false := by rw [k22]; rfl
    have q2 : (x.d.kind == 2) = false := by rw [k22]; rfl
    have q3 : (x.d.kind == 3) = false := by rw [k22]; rfl
    have q8 : (x.d.kind == 8) = false := by rw [k22]; rfl
    have q10 : (x.d.kind == 10) = false := by rw [k22]; rfl
    have q12 : (x.d.kind == 12) = false := by rw [k22]; rfl
    have q22 : (x.d.kind == 22) = true := by rw [k22]; rfl
    clear k1 k2 k3 k8 k10 k12 k22
    go_enter Tryz.func83, Tryz.ntmps83
    go_wp2_with fail
    refine (HW.step H0.out HA.out (by have h := HLEN.out; omega)).mono ?_
    rintro e v1 ⟨rfl, hs1⟩
    have H1 := Lib.hid hs1
    clear hs1 c0
    go_wp2_with fail
    go_end0
    exact ⟨rfl, by rw [HP.out]; exact H1.out⟩
  have HP := Lib.hid (show x.pa = [40] ++ x.sh ++ [41] by unfold Ex.pa brk bareB; rw [decide_eq_false (by omega)]; rfl)
  have q1 : (x.d.kind == 1) = false := by simpa using k1
  have q2 : (x.d.kind == 2) = false := by simpa using k2
  have q3 : (x.d.kind == 3) = false := by simpa using k3
  have q8 : (x.d.kind == 8) = false := by simpa using k8
  have q10 : (x.d.kind == 10) = false := by simpa using k10
  have q12 : (x.d.kind == 12) = false := by simpa using k12
  have q22 : (x.d.kind == 22) = false := by simpa using k22
  clear k1 k2 k3 k8 k10 k12 k22
  go_enter Tryz.func83, Tryz.ntmps83
  go_wp2_with fail
  refine (H0.out.say [[40]] (by have h := HLEN.out; simp; omega) (by simp) 1 rfl _ rfl).mono ?_
  rintro e v1 ⟨rfl, hs1⟩
  have H1 := Lib.hid hs1
  clear hs1 c0
  go_wp2_with fail
  refine (HW.step H1.out HA.out (by have h := HLEN.out; simp; omega)).mono ?_
  rintro e v2 ⟨rfl, hs2⟩
  have H2 := Lib.hid hs2
  clear hs2
  go_wp2_with fail
  refine (H2.out.say [[41]] (by have h := HLEN.out; simp; omega) (by simp) 1 rfl _ rfl).mono ?_
  rintro e v3 ⟨rfl, hs3⟩
  have H3 := Lib.hid hs3
  clear hs3
  go_wp2_with fail
  go_end0
  exact ⟨rfl, by have h := H3.out; rw [HP.out]; simpa [List.append_assoc] using h⟩

set_option maxRecDepth 100000 in
set_option maxHeartbeats 2000000 in
theorem ahead_any (d : ExD) (b o : Nat) (w : World) (h : d.At w b o) (hs : d.s.length ≤ 1000000000) : Calls Tryz.prog 86 #[.pointer (some ⟨b, o, none⟩)] w fun e w' => e = .returned (.string (bstr d.aheadF)) ∧ Below w.heap.size w w' := by
  have c0 := h.c0
  have c3 := h.c3
  clear h
  by_cases k13 : d.kind = 13
  · have HP := Lib.hid (show d.aheadF = d.s ++ [32] by unfold ExD.aheadF; rw [if_pos k13])
    have q13 : (d.kind == 13) = true := by rw [k13]; rfl
    clear k13
    have a1 : ∀ w, (Op.stringOp .add (bstr d.s) ⟨#[32]⟩).run Tryz.prog w = .ok (.string (bstr (d.s ++ [32]))) w := fun w => by
      have h := run_string_add_sum (P := Tryz.prog) (w := w) (bstr d.s) (bstr [32]) (by rw [bstr_size, bstr_size]; show d.s.length + 1 ≤ _; omega)
      rw [bstr_app] at h; exact h
    go_enter Tryz.func86, Tryz.ntmps86
    go_wp2_with fail
    go_returns
    exact ⟨by rw [HP.out]; rfl, Below.refl _ _⟩
  by_cases k17 : d.kind = 17
  · have HP := Lib.hid (show d.aheadF = [114, 101, 102, 32] by unfold ExD.aheadF; rw [if_neg (by omega)]; rw [if_pos k17])
    have q13 : (d.kind == 13) = false := by rw [k17]; rfl
    have q17 : (d.kind == 17) = true := by rw [k17]; rfl
    clear k13 k17
    go_enter Tryz.func86, Tryz.ntmps86
    go_wp2_with fail
    go_returns
    exact ⟨by rw [HP.out]; rfl, Below.refl _ _⟩
  by_cases k20 : d.kind = 20
  · have HP := Lib.hid (show d.aheadF = [112, 114, 105, 110, 116, 32] by unfold ExD.aheadF; rw [if_neg (by omega)]; rw [if_neg (by omega)]; rw [if_pos k20])
    have q13 : (d.kind == 13) = false := by rw [k20]; rfl
    have q17 : (d.kind == 17) = false := by rw [k20]; rfl
    have q20 : (d.kind == 20) = true := by rw [k20]; rfl
    clear k13 k17 k20
    go_enter Tryz.func86, Tryz.ntmps86
    go_wp2_with fail
    go_returns
    exact ⟨by rw [HP.out]; rfl, Below.refl _ _⟩
  by_cases k21 : d.kind = 21
  · have HP := Lib.hid (show d.aheadF = [115, 104, 111, 119, 32] by unfold ExD.aheadF; rw [if_neg (by omega)]; rw [if_neg (by omega)]; rw [if_neg (by omega)]; rw [if_pos k21])
    have q13 : (d.kind == 13) = false := by rw [k21]; rfl
    have q17 : (d.kind == 17) = false := by rw [k21]; rfl
    have q20 : (d.kind == 20) = false := by rw [k21]; rfl
    have q21 : (d.kind == 21) = true := by rw [k21]; rfl
    clear k13 k17 k20 k21
    go_enter Tryz.func86, Tryz.ntmps86
    go_wp2_with fail
    go_returns
    exact ⟨by rw [HP.out]; rfl, Below.refl _ _⟩
  by_cases k18 : d.kind = 18
  · have HP := Lib.hid (show d.aheadF = [33] by unfold ExD.aheadF; rw [if_neg (by omega)]; rw [if_neg (by omega)]; rw [if_neg (by omega)]; rw [if_neg (by omega)]; rw [if_pos k18])
    have q13 : (d.kind == 13) = false := by rw [k18]; rfl
    have q17 : (d.kind == 17) = false := by rw [k18]; rfl
    have q20 : (d.kind == 20) = false := by rw [k18]; rfl
    have q21 : (d.kind == 21) = false := by rw [k18]; rfl
    have q18 : (d.kind == 18) = true := by rw [k18]; rfl
    clear k13 k17 k20 k21 k18
    go_enter Tryz.func86, Tryz.ntmps86
    go_wp2_with fail
    go_returns
    exact ⟨by rw [HP.out]; rfl, Below.refl _ _⟩
  have HP := Lib.hid (show d.aheadF = [] by unfold ExD.aheadF; rw [if_neg (by omega), if_neg (by omega), if_neg (by omega), if_neg (by omega), if_neg (by omega)])
  have q13 : (d.kind == 13) = false := by simpa using k13
  have q17 : (d.kind == 17) = false := by simpa using k17
  have q20 : (d.kind == 20) = false := by simpa using k20
  have q21 : (d.kind == 21) = false := by simpa using k21
  have q18 : (d.kind == 18) = false := by simpa using k18
  clear k13 k17 k20 k21 k18
  go_enter Tryz.func86, Tryz.ntmps86
  go_wp2_with fail
  go_returns
  exact ⟨by rw [HP.out]; rfl, Below.refl _ _⟩

set_option maxRecDepth 100000 in
set_option maxHeartbeats 2000000 in
theorem simple_9 (w0 : World) (d : ExD) (a : Ex) (hI : (Ex.mk d [a]).In w0) (hk : d.kind = 9) (hpn : d.pn = 1) (hs : d.s.length ≤ 1000000000) (La : a.sh.length + 2 ≤ a.wt) (Wa : WholeAt w0 a) :
    FunAt 62 w0 d (Ex.mk d [a]).wt (d.aheadF ++ paAt [a] 0 ++ d.behindF (paAt [a])) := by
  intro b b' o' acc w hAt hst hlen
  have H0 := Lib.hid hst
  have HE := Lib.hid (fun W (h : Below w0.heap.size w0 W) => hAt.lower h)
  have HLEN := Lib.hid (And.intro (show acc.length + (40 + 2 * d.s.length + d.t.length + a.wt) ≤ CAP by have h1 := own_ge d; have h2 := hlen; unfold Ex.wt at h2; simp only [wtL] at h2; omega) (show a.sh.length + 2 ≤ a.wt ∧ a.pa.length ≤ a.sh.length + 2 from ⟨La, pa_le a⟩))
  obtain ⟨pb, po, hpA, hAa⟩ := one_at hI
  have HPA := Lib.hid (And.intro hpA hpn)
  have HAa := Lib.hid hAa
  have HPa := Lib.hid (part_any w0 a La Wa)
  have HBH := Lib.hid (show d.behindF (paAt [a]) = [46] ++ d.s by unfold ExD.behindF; rw [if_pos hk])
  have HP0 := Lib.hid (show paAt [a] 0 = a.pa from rfl)
  have HAH := Lib.hid (show d.aheadF.length ≤ d.s.length + 6 from aheadF_len d)
  have HCA := Lib.hid (fun W (h : Below w0.heap.size w0 W) => ahead_any d b' o' W (HE.out W h) hs)
  have q9 : (d.kind == 9) = true := by rw [hk]; rfl
  clear hAt hst hlen hI hpA hAa  hk hpn hs La Wa
  obtain ⟨c0, c1, c2, c3, c4, c5, c6, c7⟩ := HE.out _ H0.out.all
  rw [HPA.out.1, HPA.out.2] at c7
  go_enter Tryz.func62, Tryz.ntmps62
  go_wp2_with fail
  refine (HCA.out _ H0.out.all).mono ?_
  rintro e v1 ⟨rfl, hb1⟩
  have H1 := Lib.hid (H0.out.below hb1)
  clear hb1 HCA c0 c1 c2 c3 c4 c5 c6 c7
  obtain ⟨c0, c1, c2, c3, c4, c5, c6, c7⟩ := HE.out _ H1.out.all
  rw [HPA.out.1, HPA.out.2] at c7
  obtain ⟨ah, hah⟩ : ∃ ah, d.aheadF = ah := ⟨_, rfl⟩
  rw [hah] at HAH ⊢
  have HAE := Lib.hid hah
  clear hah
  go_wp2_with fail
  refine (H1.out.say [ah] (by have h := HLEN.out; have h2 := HAH.out; simp only [List.flatten_cons, List.flatten_nil, List.append_nil, List.length_append, List.length_cons, List.length_nil]; omega) (by simp) 1 rfl _ rfl).mono ?_
  rintro e v2 ⟨rfl, hs2⟩
  have H2 := Lib.hid hs2
  clear hs2 c0 c1 c2 c3 c4 c5 c6 c7
  obtain ⟨c0, c1, c2, c3, c4, c5, c6, c7⟩ := HE.out _ H2.out.all
  rw [HPA.out.1, HPA.out.2] at c7
  go_wp2_with fail
  refine (HPa.out.step H2.out HAa.out (by have h := HLEN.out; have h2 := HAH.out; simp only [List.flatten_cons, List.flatten_nil, List.append_nil, List.length_append, List.length_cons, List.length_nil]; omega)).mono ?_
  rintro e v3 ⟨rfl, hs3⟩
  have H3 := Lib.hid hs3
  clear hs3 c0 c1 c2 c3 c4 c5 c6 c7
  obtain ⟨c0, c1, c2, c3, c4, c5, c6, c7⟩ := HE.out _ H3.out.all
  rw [HPA.out.1, HPA.out.2] at c7
  go_wp2_with fail
  refine (H3.out.say [[46], d.s] (by have h := HLEN.out; have h2 := HAH.out; simp only [List.flatten_cons, List.flatten_nil, List.append_nil, List.length_append, List.length_cons, List.length_nil]; omega) (by simp) 2 rfl _ rfl).mono ?_
  rintro e v4 ⟨rfl, hs4⟩
  have H4 := Lib.hid hs4
  clear hs4 c0 c1 c2 c3 c4 c5 c6 c7
  obtain ⟨c0, c1, c2, c3, c4, c5, c6, c7⟩ := HE.out _ H4.out.all
  rw [HPA.out.1, HPA.out.2] at c7
  go_wp2_with fail
  go_end0
  exact ⟨rfl, by have h := H4.out; rw [HBH.out, HP0.out, HAE.out]; simpa [List.append_assoc] using h⟩

set_option maxRecDepth 100000 in
set_option maxHeartbeats 2000000 in
theorem simple_11 (w0 : World) (d : ExD) (a : Ex) (hI : (Ex.mk d [a]).In w0) (hk : d.kind = 11) (hpn : d.pn = 1) (hs : d.s.length ≤ 1000000000) (La : a.sh.length + 2 ≤ a.wt) (Wa : WholeAt w0 a) :
    FunAt 62 w0 d (Ex.mk d [a]).wt (d.aheadF ++ paAt [a] 0 ++ d.behindF (paAt [a])) := by
  intro b b' o' acc w hAt hst hlen
  have H0 := Lib.hid hst
  have HE := Lib.hid (fun W (h : Below w0.heap.size w0 W) => hAt.lower h)
  have HLEN := Lib.hid (And.intro (show acc.length + (40 + 2 * d.s.length + d.t.length + a.wt) ≤ CAP by have h1 := own_ge d; have h2 := hlen; unfold Ex.wt at h2; simp only [wtL] at h2; omega) (show a.sh.length + 2 ≤ a.wt ∧ a.pa.length ≤ a.sh.length + 2 from ⟨La, pa_le a⟩))
  obtain ⟨pb, po, hpA, hAa⟩ := one_at hI
  have HPA := Lib.hid (And.intro hpA hpn)
  have HAa := Lib.hid hAa
  have HPa := Lib.hid (part_any w0 a La Wa)
  have HBH := Lib.hid (show d.behindF (paAt [a]) = [92] ++ d.s by unfold ExD.behindF; rw [if_neg (by omega)]; rw [if_pos hk])
  have HP0 := Lib.hid (show paAt [a] 0 = a.pa from rfl)
  have HAH := Lib.hid (show d.aheadF.length ≤ d.s.length + 6 from aheadF_len d)
  have HCA := Lib.hid (fun W (h : Below w0.heap.size w0 W) => ahead_any d b' o' W (HE.out W h) hs)
  have q9 : (d.kind == 9) = false := by rw [hk]; rfl
  have q11 : (d.kind == 11) = true := by rw [hk]; rfl
  clear hAt hst hlen hI hpA hAa  hk hpn hs La Wa
  obtain ⟨c0, c1, c2, c3, c4, c5, c6, c7⟩ := HE.out _ H0.out.all
  rw [HPA.out.1, HPA.out.2] at c7
  go_enter Tryz.func62, Tryz.ntmps62
  go_wp2_with fail
  refine (HCA.out _ H0.out.all).mono ?_
  rintro e v1 ⟨rfl, hb1⟩
  have H1 := Lib.hid (H0.out.below hb1)
  clear hb1 HCA c0 c1 c2 c3 c4 c5 c6 c7
  obtain ⟨c0, c1, c2, c3, c4, c5, c6, c7⟩ := HE.out _ H1.out.all
  rw [HPA.out.1, HPA.out.2] at c7
  obtain ⟨ah, hah⟩ : ∃ ah, d.aheadF = ah := ⟨_, rfl⟩
  rw [hah] at HAH ⊢
  have HAE := Lib.hid hah
  clear hah
  go_wp2_with fail
  refine (H1.out.say [ah] (by have h := HLEN.out; have h2 := HAH.out; simp only [List.flatten_cons, List.flatten_nil, List.append_nil, List.length_append, List.length_cons, List.length_nil]; omega) (by simp) 1 rfl _ rfl).mono ?_
  rintro e v2 ⟨rfl, hs2⟩
  have H2 := Lib.hid hs2
  clear hs2 c0 c1 c2 c3 c4 c5 c6 c7
  obtain ⟨c0, c1, c2, c3, c4, c5, c6, c7⟩ := HE.out _ H2.out.all
  rw [HPA.out.1, HPA.out.2] at c7
  go_wp2_with fail
  refine (HPa.out.step H2.out HAa.out (by have h := HLEN.out; have h2 := HAH.out; simp only [List.flatten_cons, List.flatten_nil, List.append_nil, List.length_append, List.length_cons, List.length_nil]; omega)).mono ?_
  rintro e v3 ⟨rfl, hs3⟩
  have H3 := Lib.hid hs3
  clear hs3 c0 c1 c2 c3 c4 c5 c6 c7
  obtain ⟨c0, c1, c2, c3, c4, c5, c6, c7⟩ := HE.out _ H3.out.all
  rw [HPA.out.1, HPA.out.2] at c7
  go_wp2_with fail
  refine (H3.out.say [[92], d.s] (by have h := HLEN.out; have h2 := HAH.out; simp only [List.flatten_cons, List.flatten_nil, List.append_nil, List.length_append, List.length_cons, List.length_nil]; omega) (by simp) 2 rfl _ rfl).mono ?_
  rintro e v4 ⟨rfl, hs4⟩
  have H4 := Lib.hid hs4
  clear hs4 c0 c1 c2 c3 c4 c5 c6 c7
  obtain ⟨c0, c1, c2, c3, c4, c5, c6, c7⟩ := HE.out _ H4.out.all
  rw [HPA.out.1, HPA.out.2] at c7
  go_wp2_with fail
  go_end0
  exact ⟨rfl, by have h := H4.out; rw [HBH.out, HP0.out, HAE.out]; simpa [List.append_assoc] using h⟩

set_option maxRecDepth 100000 in
set_option maxHeartbeats 2000000 in
theorem simple_5 (w0 : World) (d : ExD) (a c : Ex) (hI : (Ex.mk d [a, c]).In w0) (hk : d.kind = 5) (hpn : d.pn = 2) (hs : d.s.length ≤ 1000000000) (La : a.sh.length + 2 ≤ a.wt) (Wa : WholeAt w0 a) (Lc : c.sh.length + 2 ≤ c.wt) (Wc : WholeAt w0 c) :
    FunAt 62 w0 d (Ex.mk d [a, c]).wt (d.aheadF ++ paAt [a, c] 0 ++ d.behindF (paAt [a, c])) := by
  intro b b' o' acc w hAt hst hlen
  have H0 := Lib.hid hst
  have HE := Lib.hid (fun W (h : Below w0.heap.size w0 W) => hAt.lower h)
  have HLEN := Lib.hid (And.intro (show acc.length + (40 + 2 * d.s.length + d.t.length + a.wt + c.wt) ≤ CAP by have h1 := own_ge d; have h2 := hlen; unfold Ex.wt at h2; simp only [wtL] at h2; omega) (show a.sh.length + 2 ≤ a.wt ∧ a.pa.length ≤ a.sh.length + 2 ∧ c.sh.length + 2 ≤ c.wt ∧ c.pa.length ≤ c.sh.length + 2 from ⟨La, pa_le a, Lc, pa_le c⟩))
  obtain ⟨pb, po, hpA, hAa, hAc⟩ := two_at hI
  have HPA := Lib.hid (And.intro hpA hpn)
  have HAa := Lib.hid hAa
  have HAc := Lib.hid hAc
  have HPa := Lib.hid (part_any w0 a La Wa)
  have HPc := Lib.hid (part_any w0 c Lc Wc)
  have HBH := Lib.hid (show d.behindF (paAt [a, c]) = [32] ++ c.pa by unfold ExD.behindF; rw [if_neg (by omega)]; rw [if_neg (by omega)]; rw [if_pos hk]; simp [paAt])
  have HP0 := Lib.hid (show paAt [a, c] 0 = a.pa from rfl)
  have HAH := Lib.hid (show d.aheadF.length ≤ d.s.length + 6 from aheadF_len d)
  have HCA := Lib.hid (fun W (h : Below w0.heap.size w0 W) => ahead_any d b' o' W (HE.out W h) hs)
  have q9 : (d.kind == 9) = false := by rw [hk]; rfl
  have q11 : (d.kind == 11) = false := by rw [hk]; rfl
  have q5 : (d.kind == 5) = true := by rw [hk]; rfl
  clear hAt hst hlen hI hpA hAa hAc hk hpn hs La Wa Lc Wc
  obtain ⟨c0, c1, c2, c3, c4, c5, c6, c7⟩ := HE.out _ H0.out.all
  rw [HPA.out.1, HPA.out.2] at c7
  go_enter Tryz.func62, Tryz.ntmps62
  go_wp2_with fail
  refine (HCA.out _ H0.out.all).mono ?_
  rintro e v1 ⟨rfl, hb1⟩
  have H1 := Lib.hid (H0.out.below hb1)
  clear hb1 HCA c0 c1 c2 c3 c4 c5 c6 c7
  obtain ⟨c0, c1, c2, c3, c4, c5, c6, c7⟩ := HE.out _ H1.out.all
  rw [HPA.out.1, HPA.out.2] at c7
  obtain ⟨ah, hah⟩ : ∃ ah, d.aheadF = ah := ⟨_, rfl⟩
  rw [hah] at HAH ⊢
  have HAE := Lib.hid hah
  clear hah
  go_wp2_with fail
  refine (H1.out.say [ah] (by have h := HLEN.out; have h2 := HAH.out; simp only [List.flatten_cons, List.flatten_nil, List.append_nil, List.length_append, List.length_cons, List.length_nil]; omega) (by simp) 1 rfl _ rfl).mono ?_
  rintro e v2 ⟨rfl, hs2⟩
  have H2 := Lib.hid hs2
  clear hs2 c0 c1 c2 c3 c4 c5 c6 c7
  obtain ⟨c0, c1, c2, c3, c4, c5, c6, c7⟩ := HE.out _ H2.out.all
  rw [HPA.out.1, HPA.out.2] at c7
  go_wp2_with fail
  refine (HPa.out.step H2.out HAa.out (by have h := HLEN.out; have h2 := HAH.out; simp only [List.flatten_cons, List.flatten_nil, List.append_nil, List.length_append, List.length_cons, List.length_nil]; omega)).mono ?_
  rintro e v3 ⟨rfl, hs3⟩
  have H3 := Lib.hid hs3
  clear hs3 c0 c1 c2 c3 c4 c5 c6 c7
  obtain ⟨c0, c1, c2, c3, c4, c5, c6, c7⟩ := HE.out _ H3.out.all
  rw [HPA.out.1, HPA.out.2] at c7
  go_wp2_with fail
  refine (H3.out.say [[32]] (by have h := HLEN.out; have h2 := HAH.out; simp only [List.flatten_cons, List.flatten_nil, List.append_nil, List.length_append, List.length_cons, List.length_nil]; omega) (by simp) 1 rfl _ rfl).mono ?_
  rintro e v4 ⟨rfl, hs4⟩
  have H4 := Lib.hid hs4
  clear hs4 c0 c1 c2 c3 c4 c5 c6 c7
  obtain ⟨c0, c1, c2, c3, c4, c5, c6, c7⟩ := HE.out _ H4.out.all
  rw [HPA.out.1, HPA.out.2] at c7
  go_wp2_with fail
  refine (HPc.out.step H4.out HAc.out (by have h := HLEN.out; have h2 := HAH.out; simp only [List.flatten_cons, List.flatten_nil, List.append_nil, List.length_append, List.length_cons, List.length_nil]; omega)).mono ?_
  rintro e v5 ⟨rfl, hs5⟩
  have H5 := Lib.hid hs5
  clear hs5 c0 c1 c2 c3 c4 c5 c6 c7
  obtain ⟨c0, c1, c2, c3, c4, c5, c6, c7⟩ := HE.out _ H5.out.all
  rw [HPA.out.1, HPA.out.2] at c7
  go_wp2_with fail
  go_end0
  exact ⟨rfl, by have h := H5.out; rw [HBH.out, HP0.out, HAE.out]; simpa [List.append_assoc] using h⟩

set_option maxRecDepth 100000 in
set_option maxHeartbeats 2000000 in
theorem simple_16 (w0 : World) (d : ExD) (a c : Ex) (hI : (Ex.mk d [a, c]).In w0) (hk : d.kind = 16) (hpn : d.pn = 2) (hs : d.s.length ≤ 1000000000) (La : a.sh.length + 2 ≤ a.wt) (Wa : WholeAt w0 a) (Lc : c.sh.length + 2 ≤ c.wt) (Wc : WholeAt w0 c) :
    FunAt 62 w0 d (Ex.mk d [a, c]).wt (d.aheadF ++ paAt [a, c] 0 ++ d.behindF (paAt [a, c])) := by
  intro b b' o' acc w hAt hst hlen
  have H0 := Lib.hid hst
  have HE := Lib.hid (fun W (h : Below w0.heap.size w0 W) => hAt.lower h)
  have HLEN := Lib.hid (And.intro (show acc.length + (40 + 2 * d.s.length + d.t.length + a.wt + c.wt) ≤ CAP by have h1 := own_ge d; have h2 := hlen; unfold Ex.wt at h2; simp only [wtL] at h2; omega) (show a.sh.length + 2 ≤ a.wt ∧ a.pa.length ≤ a.sh.length + 2 ∧ c.sh.length + 2 ≤ c.wt ∧ c.pa.length ≤ c.sh.length + 2 from ⟨La, pa_le a, Lc, pa_le c⟩))
  obtain ⟨pb, po, hpA, hAa, hAc⟩ := two_at hI
  have HPA := Lib.hid (And.intro hpA hpn)
  have HAa := Lib.hid hAa
  have HAc := Lib.hid hAc
  have HPa := Lib.hid (part_any w0 a La Wa)
  have HPc := Lib.hid (part_any w0 c Lc Wc)
  have HBH := Lib.hid (show d.behindF (paAt [a, c]) = [32] ++ d.s ++ [32] ++ c.pa by unfold ExD.behindF; rw [if_neg (by omega)]; rw [if_neg (by omega)]; rw [if_neg (by omega)]; rw [if_pos hk]; simp [paAt])
  have HP0 := Lib.hid (show paAt [a, c] 0 = a.pa from rfl)
  have HAH := Lib.hid (show d.aheadF.length ≤ d.s.length + 6 from aheadF_len d)
  have HCA := Lib.hid (fun W (h : Below w0.heap.size w0 W) => ahead_any d b' o' W (HE.out W h) hs)
  have q9 : (d.kind == 9) = false := by rw [hk]; rfl
  have q11 : (d.kind == 11) = false := by rw [hk]; rfl
  have q5 : (d.kind == 5) = false := by rw [hk]; rfl
  have q16 : (d.kind == 16) = true := by rw [hk]; rfl
  clear hAt hst hlen hI hpA hAa hAc hk hpn hs La Wa Lc Wc
  obtain ⟨c0, c1, c2, c3, c4, c5, c6, c7⟩ := HE.out _ H0.out.all
  rw [HPA.out.1, HPA.out.2] at c7
  go_enter Tryz.func62, Tryz.ntmps62
  go_wp2_with fail
  refine (HCA.out _ H0.out.all).mono ?_
  rintro e v1 ⟨rfl, hb1⟩
  have H1 := Lib.hid (H0.out.below hb1)
  clear hb1 HCA c0 c1 c2 c3 c4 c5 c6 c7
  obtain ⟨c0, c1, c2, c3, c4, c5, c6, c7⟩ := HE.out _ H1.out.all
  rw [HPA.out.1, HPA.out.2] at c7
  obtain ⟨ah, hah⟩ : ∃ ah, d.aheadF = ah := ⟨_, rfl⟩
  rw [hah] at HAH ⊢
  have HAE := Lib.hid hah
  clear hah
  go_wp2_with fail
  refine (H1.out.say [ah] (by have h := HLEN.out; have h2 := HAH.out; simp only [List.flatten_cons, List.flatten_nil, List.append_nil, List.length_append, List.length_cons, List.length_nil]; omega) (by simp) 1 rfl _ rfl).mono ?_
  rintro e v2 ⟨rfl, hs2⟩
  have H2 := Lib.hid hs2
  clear hs2 c0 c1 c2 c3 c4 c5 c6 c7
  obtain ⟨c0, c1, c2, c3, c4, c5, c6, c7⟩ := HE.out _ H2.out.all
  rw [HPA.out.1, HPA.out.2] at c7
  go_wp2_with fail
  refine (HPa.out.step H2.out HAa.out (by have h := HLEN.out; have h2 := HAH.out; simp only [List.flatten_cons, List.flatten_nil, List.append_nil, List.length_append, List.length_cons, List.length_nil]; omega)).mono ?_
  rintro e v3 ⟨rfl, hs3⟩
  have H3 := Lib.hid hs3
  clear hs3 c0 c1 c2 c3 c4 c5 c6 c7
  obtain ⟨c0, c1, c2, c3, c4, c5, c6, c7⟩ := HE.out _ H3.out.all
  rw [HPA.out.1, HPA.out.2] at c7
  go_wp2_with fail
  refine (H3.out.say [[32], d.s, [32]] (by have h := HLEN.out; have h2 := HAH.out; simp only [List.flatten_cons, List.flatten_nil, List.append_nil, List.length_append, List.length_cons, List.length_nil]; omega) (by simp) 3 rfl _ rfl).mono ?_
  rintro e v4 ⟨rfl, hs4⟩
  have H4 := Lib.hid hs4
  clear hs4 c0 c1 c2 c3 c4 c5 c6 c7
  obtain ⟨c0, c1, c2, c3, c4, c5, c6, c7⟩ := HE.out _ H4.out.all
  rw [HPA.out.1, HPA.out.2] at c7
  go_wp2_with fail
  refine (HPc.out.step H4.out HAc.out (by have h := HLEN.out; have h2 := HAH.out; simp only [List.flatten_cons, List.flatten_nil, List.append_nil, List.length_append, List.length_cons, List.length_nil]; omega)).mono ?_
  rintro e v5 ⟨rfl, hs5⟩
  have H5 := Lib.hid hs5
  clear hs5 c0 c1 c2 c3 c4 c5 c6 c7
  obtain ⟨c0, c1, c2, c3, c4, c5, c6, c7⟩ := HE.out _ H5.out.all
  rw [HPA.out.1, HPA.out.2] at c7
  go_wp2_with fail
  go_end0
  exact ⟨rfl, by have h := H5.out; rw [HBH.out, HP0.out, HAE.out]; simpa [List.append_assoc] using h⟩

set_option maxRecDepth 100000 in
set_option maxHeartbeats 2000000 in
theorem simple_19 (w0 : World) (d : ExD) (a c : Ex) (hI : (Ex.mk d [a, c]).In w0) (hk : d.kind = 19) (hpn : d.pn = 2) (hs : d.s.length ≤ 1000000000) (La : a.sh.length + 2 ≤ a.wt) (Wa : WholeAt w0 a) (Lc : c.sh.length + 2 ≤ c.wt) (Wc : WholeAt w0 c) :
    FunAt 62 w0 d (Ex.mk d [a, c]).wt (d.aheadF ++ paAt [a, c] 0 ++ d.behindF (paAt [a, c])) := by
  intro b b' o' acc w hAt hst hlen
  have H0 := Lib.hid hst
  have HE := Lib.hid (fun W (h : Below w0.heap.size w0 W) => hAt.lower h)
  have HLEN := Lib.hid (And.intro (show acc.length + (40 + 2 * d.s.length + d.t.length + a.wt + c.wt) ≤ CAP by have h1 := own_ge d; have h2 := hlen; unfold Ex.wt at h2; simp only [wtL] at h2; omega) (show a.sh.length + 2 ≤ a.wt ∧ a.pa.length ≤ a.sh.length + 2 ∧ c.sh.length + 2 ≤ c.wt ∧ c.pa.length ≤ c.sh.length + 2 from ⟨La, pa_le a, Lc, pa_le c⟩))
  obtain ⟨pb, po, hpA, hAa, hAc⟩ := two_at hI
  have HPA := Lib.hid (And.intro hpA hpn)
  have HAa := Lib.hid hAa
  have HAc := Lib.hid hAc
  have HPa := Lib.hid (part_any w0 a La Wa)
  have HPc := Lib.hid (part_any w0 c Lc Wc)
  have HBH := Lib.hid (show d.behindF (paAt [a, c]) = [32, 58, 61, 32] ++ c.pa by unfold ExD.behindF; rw [if_neg (by omega)]; rw [if_neg (by omega)]; rw [if_neg (by omega)]; rw [if_neg (by omega)]; rw [if_pos hk]; simp [paAt])
  have HP0 := Lib.hid (show paAt [a, c] 0 = a.pa from rfl)
  have HAH := Lib.hid (show d.aheadF.length ≤ d.s.length + 6 from aheadF_len d)
  have HCA := Lib.hid (fun W (h : Below w0.heap.size w0 W) => ahead_any d b' o' W (HE.out W h) hs)
  have q9 : (d.kind == 9) = false := by rw [hk]; rfl
  have q11 : (d.kind == 11) = false := by rw [hk]; rfl
  have q5 : (d.kind == 5) = false := by rw [hk]; rfl
  have q16 : (d.kind == 16) = false := by rw [hk]; rfl
  have q19 : (d.kind == 19) = true := by rw [hk]; rfl
  clear hAt hst hlen hI hpA hAa hAc hk hpn hs La Wa Lc Wc
  obtain ⟨c0, c1, c2, c3, c4, c5, c6, c7⟩ := HE.out _ H0.out.all
  rw [HPA.out.1, HPA.out.2] at c7
  go_enter Tryz.func62, Tryz.ntmps62
  go_wp2_with fail
  refine (HCA.out _ H0.out.all).mono ?_
  rintro e v1 ⟨rfl, hb1⟩
  have H1 := Lib.hid (H0.out.below hb1)
  clear hb1 HCA c0 c1 c2 c3 c4 c5 c6 c7
  obtain ⟨c0, c1, c2, c3, c4, c5, c6, c7⟩ := HE.out _ H1.out.all
  rw [HPA.out.1, HPA.out.2] at c7
  obtain ⟨ah, hah⟩ : ∃ ah, d.aheadF = ah := ⟨_, rfl⟩
  rw [hah] at HAH ⊢
  have HAE := Lib.hid hah
  clear hah
  go_wp2_with fail
  refine (H1.out.say [ah] (by have h := HLEN.out; have h2 := HAH.out; simp only [List.flatten_cons, List.flatten_nil, List.append_nil, List.length_append, List.length_cons, List.length_nil]; omega) (by simp) 1 rfl _ rfl).mono ?_
  rintro e v2 ⟨rfl, hs2⟩
  have H2 := Lib.hid hs2
  clear hs2 c0 c1 c2 c3 c4 c5 c6 c7
  obtain ⟨c0, c1, c2, c3, c4, c5, c6, c7⟩ := HE.out _ H2.out.all
  rw [HPA.out.1, HPA.out.2] at c7
  go_wp2_with fail
  refine (HPa.out.step H2.out HAa.out (by have h := HLEN.out; have h2 := HAH.out; simp only [List.flatten_cons, List.flatten_nil, List.append_nil, List.length_append, List.length_cons, List.length_nil]; omega)).mono ?_
  rintro e v3 ⟨rfl, hs3⟩
  have H3 := Lib.hid hs3
  clear hs3 c0 c1 c2 c3 c4 c5 c6 c7
  obtain ⟨c0, c1, c2, c3, c4, c5, c6, c7⟩ := HE.out _ H3.out.all
  rw [HPA.out.1, HPA.out.2] at c7
  go_wp2_with fail
  refine (H3.out.say [[32, 58, 61, 32]] (by have h := HLEN.out; have h2 := HAH.out; simp only [List.flatten_cons, List.flatten_nil, List.append_nil, List.length_append, List.length_cons, List.length_nil]; omega) (by simp) 1 rfl _ rfl).mono ?_
  rintro e v4 ⟨rfl, hs4⟩
  have H4 := Lib.hid hs4
  clear hs4 c0 c1 c2 c3 c4 c5 c6 c7
  obtain ⟨c0, c1, c2, c3, c4, c5, c6, c7⟩ := HE.out _ H4.out.all
  rw [HPA.out.1, HPA.out.2] at c7
  go_wp2_with fail
  refine (HPc.out.step H4.out HAc.out (by have h := HLEN.out; have h2 := HAH.out; simp only [List.flatten_cons, List.flatten_nil, List.append_nil, List.length_append, List.length_cons, List.length_nil]; omega)).mono ?_
  rintro e v5 ⟨rfl, hs5⟩
  have H5 := Lib.hid hs5
  clear hs5 c0 c1 c2 c3 c4 c5 c6 c7
  obtain ⟨c0, c1, c2, c3, c4, c5, c6, c7⟩ := HE.out _ H5.out.all
  rw [HPA.out.1, HPA.out.2] at c7
  go_wp2_with fail
  go_end0
  exact ⟨rfl, by have h := H5.out; rw [HBH.out, HP0.out, HAE.out]; simpa [List.append_assoc] using h⟩

set_option maxRecDepth 100000 in
set_option maxHeartbeats 2000000 in
theorem simple_0 (w0 : World) (d : ExD) (a : Ex) (hI : (Ex.mk d [a]).In w0) (hk : ¬ d.kind = 9 ∧ ¬ d.kind = 11 ∧ ¬ d.kind = 5 ∧ ¬ d.kind = 16 ∧ ¬ d.kind = 19) (hpn : d.pn = 1) (hs : d.s.length ≤ 1000000000) (La : a.sh.length + 2 ≤ a.wt) (Wa : WholeAt w0 a) :
    FunAt 62 w0 d (Ex.mk d [a]).wt (d.aheadF ++ paAt [a] 0 ++ d.behindF (paAt [a])) := by
  intro b b' o' acc w hAt hst hlen
  have H0 := Lib.hid hst
  have HE := Lib.hid (fun W (h : Below w0.heap.size w0 W) => hAt.lower h)
  have HLEN := Lib.hid (And.intro (show acc.length + (40 + 2 * d.s.length + d.t.length + a.wt) ≤ CAP by have h1 := own_ge d; have h2 := hlen; unfold Ex.wt at h2; simp only [wtL] at h2; omega) (show a.sh.length + 2 ≤ a.wt ∧ a.pa.length ≤ a.sh.length + 2 from ⟨La, pa_le a⟩))
  obtain ⟨pb, po, hpA, hAa⟩ := one_at hI
  have HPA := Lib.hid (And.intro hpA hpn)
  have HAa := Lib.hid hAa
  have HPa := Lib.hid (part_any w0 a La Wa)
  have HBH := Lib.hid (show d.behindF (paAt [a]) = [] by unfold ExD.behindF; rw [if_neg (by omega)]; rw [if_neg (by omega)]; rw [if_neg (by omega)]; rw [if_neg (by omega)]; rw [if_neg (by omega)])
  have HP0 := Lib.hid (show paAt [a] 0 = a.pa from rfl)
  have HAH := Lib.hid (show d.aheadF.length ≤ d.s.length + 6 from aheadF_len d)
  have HCA := Lib.hid (fun W (h : Below w0.heap.size w0 W) => ahead_any d b' o' W (HE.out W h) hs)
  have q9 : (d.kind == 9) = false := by simpa using (show ¬ d.kind = 9 by omega)
  have q11 : (d.kind == 11) = false := by simpa using (show ¬ d.kind = 11 by omega)
  have q5 : (d.kind == 5) = false := by simpa using (show ¬ d.kind = 5 by omega)
  have q16 : (d.kind == 16) = false := by simpa using (show ¬ d.kind = 16 by omega)
  have q19 : (d.kind == 19) = false := by simpa using (show ¬ d.kind = 19 by omega)
  clear hAt hst hlen hI hpA hAa  hk hpn hs La Wa
  obtain ⟨c0, c1, c2, c3, c4, c5, c6, c7⟩ := HE.out _ H0.out.all
  rw [HPA.out.1, HPA.out.2] at c7
  go_enter Tryz.func62, Tryz.ntmps62
  go_wp2_with fail
  refine (HCA.out _ H0.out.all).mono ?_
  rintro e v1 ⟨rfl, hb1⟩
  have H1 := Lib.hid (H0.out.below hb1)
  clear hb1 HCA c0 c1 c2 c3 c4 c5 c6 c7
  obtain ⟨c0, c1, c2, c3, c4, c5, c6, c7⟩ := HE.out _ H1.out.all
  rw [HPA.out.1, HPA.out.2] at c7
  obtain ⟨ah, hah⟩ : ∃ ah, d.aheadF = ah := ⟨_, rfl⟩
  rw [hah] at HAH ⊢
  have HAE := Lib.hid hah
  clear hah
  go_wp2_with fail
  refine (H1.out.say [ah] (by have h := HLEN.out; have h2 := HAH.out; simp only [List.flatten_cons, List.flatten_nil, List.append_nil, List.length_append, List.length_cons, List.length_nil]; omega) (by simp) 1 rfl _ rfl).mono ?_
  rintro e v2 ⟨rfl, hs2⟩
  have H2 := Lib.hid hs2
  clear hs2 c0 c1 c2 c3 c4 c5 c6 c7
  obtain ⟨c0, c1, c2, c3, c4, c5, c6, c7⟩ := HE.out _ H2.out.all
  rw [HPA.out.1, HPA.out.2] at c7
  go_wp2_with fail
  refine (HPa.out.step H2.out HAa.out (by have h := HLEN.out; have h2 := HAH.out; simp only [List.flatten_cons, List.flatten_nil, List.append_nil, List.length_append, List.length_cons, List.length_nil]; omega)).mono ?_
  rintro e v3 ⟨rfl, hs3⟩
  have H3 := Lib.hid hs3
  clear hs3 c0 c1 c2 c3 c4 c5 c6 c7
  obtain ⟨c0, c1, c2, c3, c4, c5, c6, c7⟩ := HE.out _ H3.out.all
  rw [HPA.out.1, HPA.out.2] at c7
  go_wp2_with fail
  go_end0
  exact ⟨rfl, by have h := H3.out; rw [HBH.out, HP0.out, HAE.out]; simpa [List.append_assoc] using h⟩

set_option maxRecDepth 100000 in
set_option maxHeartbeats 2000000 in
theorem block_4 (w0 : World) (d : ExD) (a : Ex) (hI : (Ex.mk d [a]).In w0) (hk : d.kind = 4) (hpn : d.pn = 1) (La : a.sh.length + 2 ≤ a.wt) (Wa : WholeAt w0 a) :
    FunAt 61 w0 d (Ex.mk d [a]).wt ([102, 110, 32] ++ d.s ++ [32, 45, 62, 32] ++ a.sh) := by
  intro b b' o' acc w hAt hst hlen
  have H0 := Lib.hid hst
  have HE := Lib.hid (fun W (h : Below w0.heap.size w0 W) => hAt.lower h)
  have HLEN := Lib.hid (And.intro (show acc.length + (40 + 2 * d.s.length + d.t.length + a.wt) ≤ CAP by have h1 := own_ge d; have h2 := hlen; unfold Ex.wt at h2; simp only [wtL] at h2; omega) (show a.sh.length + 2 ≤ a.wt ∧ a.pa.length ≤ a.sh.length + 2 from ⟨La, pa_le a⟩))
  obtain ⟨pb, po, hpA, hAa⟩ := one_at hI
  have HPA := Lib.hid (And.intro hpA hpn)
  have HAa := Lib.hid hAa
  have HWa := Lib.hid Wa
  have q4 : (d.kind == 4) = true := by rw [hk]; rfl
  clear hAt hst hlen hI hpA hAa  hk hpn La Wa
  obtain ⟨c0, c1, c2, c3, c4, c5, c6, c7⟩ := HE.out _ H0.out.all
  rw [HPA.out.1, HPA.out.2] at c7
  go_enter Tryz.func61, Tryz.ntmps61
  go_wp2_with fail
  refine (H0.out.say [[102, 110, 32], d.s, [32, 45, 62, 32]] (by have h := HLEN.out; simp only [List.flatten_cons, List.flatten_nil, List.append_nil, List.length_append, List.length_cons, List.length_nil]; omega) (by simp) 3 rfl _ rfl).mono ?_
  rintro e v1 ⟨rfl, hs1⟩
  have H1 := Lib.hid hs1
  clear hs1 c0 c1 c2 c3 c4 c5 c6 c7
  obtain ⟨c0, c1, c2, c3, c4, c5, c6, c7⟩ := HE.out _ H1.out.all
  rw [HPA.out.1, HPA.out.2] at c7
  go_wp2_with fail
  refine (HWa.out.step H1.out HAa.out (by have h := HLEN.out; simp only [List.flatten_cons, List.flatten_nil, List.append_nil, List.length_append, List.length_cons, List.length_nil]; omega)).mono ?_
  rintro e v2 ⟨rfl, hs2⟩
  have H2 := Lib.hid hs2
  clear hs2 c0 c1 c2 c3 c4 c5 c6 c7
  obtain ⟨c0, c1, c2, c3, c4, c5, c6, c7⟩ := HE.out _ H2.out.all
  rw [HPA.out.1, HPA.out.2] at c7
  go_wp2_with fail
  go_end0
  exact ⟨rfl, by have h := H2.out; simpa [List.append_assoc] using h⟩

set_option maxRecDepth 100000 in
set_option maxHeartbeats 2000000 in
theorem braces_10 (w0 : World) (d : ExD) (a c : Ex) (hI : (Ex.mk d [a, c]).In w0) (hk : d.kind = 10) (hpn : d.pn = 2) (La : a.sh.length + 2 ≤ a.wt) (Wa : WholeAt w0 a) (Lc : c.sh.length + 2 ≤ c.wt) (Wc : WholeAt w0 c) :
    FunAt 60 w0 d (Ex.mk d [a, c]).wt ([123] ++ (d.s ++ [32, 61, 32] ++ a.sh ++ [32, 124, 32] ++ c.sh) ++ [125]) := by
  intro b b' o' acc w hAt hst hlen
  have H0 := Lib.hid hst
  have HE := Lib.hid (fun W (h : Below w0.heap.size w0 W) => hAt.lower h)
  have HLEN := Lib.hid (And.intro (show acc.length + (40 + 2 * d.s.length + d.t.length + a.wt + c.wt) ≤ CAP by have h1 := own_ge d; have h2 := hlen; unfold Ex.wt at h2; simp only [wtL] at h2; omega) (show a.sh.length + 2 ≤ a.wt ∧ a.pa.length ≤ a.sh.length + 2 ∧ c.sh.length + 2 ≤ c.wt ∧ c.pa.length ≤ c.sh.length + 2 from ⟨La, pa_le a, Lc, pa_le c⟩))
  obtain ⟨pb, po, hpA, hAa, hAc⟩ := two_at hI
  have HPA := Lib.hid (And.intro hpA hpn)
  have HAa := Lib.hid hAa
  have HAc := Lib.hid hAc
  have HWa := Lib.hid Wa
  have HWc := Lib.hid Wc
  have q8 : (d.kind == 8) = false := by rw [hk]; rfl
  have q10 : (d.kind == 10) = true := by rw [hk]; rfl
  clear hAt hst hlen hI hpA hAa hAc hk hpn La Wa Lc Wc
  obtain ⟨c0, c1, c2, c3, c4, c5, c6, c7⟩ := HE.out _ H0.out.all
  rw [HPA.out.1, HPA.out.2] at c7
  go_enter Tryz.func60, Tryz.ntmps60
  go_wp2_with fail
  refine (H0.out.say [[123]] (by have h := HLEN.out; simp only [List.flatten_cons, List.flatten_nil, List.append_nil, List.length_append, List.length_cons, List.length_nil]; omega) (by simp) 1 rfl _ rfl).mono ?_
  rintro e v1 ⟨rfl, hs1⟩
  have H1 := Lib.hid hs1
  clear hs1 c0 c1 c2 c3 c4 c5 c6 c7
  obtain ⟨c0, c1, c2, c3, c4, c5, c6, c7⟩ := HE.out _ H1.out.all
  rw [HPA.out.1, HPA.out.2] at c7
  go_wp2_with fail
  refine (H1.out.say [d.s, [32, 61, 32]] (by have h := HLEN.out; simp only [List.flatten_cons, List.flatten_nil, List.append_nil, List.length_append, List.length_cons, List.length_nil]; omega) (by simp) 2 rfl _ rfl).mono ?_
  rintro e v2 ⟨rfl, hs2⟩
  have H2 := Lib.hid hs2
  clear hs2 c0 c1 c2 c3 c4 c5 c6 c7
  obtain ⟨c0, c1, c2, c3, c4, c5, c6, c7⟩ := HE.out _ H2.out.all
  rw [HPA.out.1, HPA.out.2] at c7
  go_wp2_with fail
  refine (HWa.out.step H2.out HAa.out (by have h := HLEN.out; simp only [List.flatten_cons, List.flatten_nil, List.append_nil, List.length_append, List.length_cons, List.length_nil]; omega)).mono ?_
  rintro e v3 ⟨rfl, hs3⟩
  have H3 := Lib.hid hs3
  clear hs3 c0 c1 c2 c3 c4 c5 c6 c7
  obtain ⟨c0, c1, c2, c3, c4, c5, c6, c7⟩ := HE.out _ H3.out.all
  rw [HPA.out.1, HPA.out.2] at c7
  go_wp2_with fail
  refine (H3.out.say [[32, 124, 32]] (by have h := HLEN.out; simp only [List.flatten_cons, List.flatten_nil, List.append_nil, List.length_append, List.length_cons, List.length_nil]; omega) (by simp) 1 rfl _ rfl).mono ?_
  rintro e v4 ⟨rfl, hs4⟩
  have H4 := Lib.hid hs4
  clear hs4 c0 c1 c2 c3 c4 c5 c6 c7
  obtain ⟨c0, c1, c2, c3, c4, c5, c6, c7⟩ := HE.out _ H4.out.all
  rw [HPA.out.1, HPA.out.2] at c7
  go_wp2_with fail
  refine (HWc.out.step H4.out HAc.out (by have h := HLEN.out; simp only [List.flatten_cons, List.flatten_nil, List.append_nil, List.length_append, List.length_cons, List.length_nil]; omega)).mono ?_
  rintro e v5 ⟨rfl, hs5⟩
  have H5 := Lib.hid hs5
  clear hs5 c0 c1 c2 c3 c4 c5 c6 c7
  obtain ⟨c0, c1, c2, c3, c4, c5, c6, c7⟩ := HE.out _ H5.out.all
  rw [HPA.out.1, HPA.out.2] at c7
  go_wp2_with fail
  refine (H5.out.say [[125]] (by have h := HLEN.out; simp only [List.flatten_cons, List.flatten_nil, List.append_nil, List.length_append, List.length_cons, List.length_nil]; omega) (by simp) 1 rfl _ rfl).mono ?_
  rintro e v6 ⟨rfl, hs6⟩
  have H6 := Lib.hid hs6
  clear hs6 c0 c1 c2 c3 c4 c5 c6 c7
  obtain ⟨c0, c1, c2, c3, c4, c5, c6, c7⟩ := HE.out _ H6.out.all
  rw [HPA.out.1, HPA.out.2] at c7
  go_wp2_with fail
  go_end0
  exact ⟨rfl, by have h := H6.out; simpa [List.append_assoc] using h⟩

set_option maxRecDepth 100000 in
set_option maxHeartbeats 2000000 in
theorem braces_12 (w0 : World) (d : ExD) (a c : Ex) (hI : (Ex.mk d [a, c]).In w0) (hk : d.kind = 12) (hpn : d.pn = 2) (La : a.sh.length + 2 ≤ a.wt) (Wa : WholeAt w0 a) (Lc : c.sh.length + 2 ≤ c.wt) (Wc : WholeAt w0 c) :
    FunAt 60 w0 d (Ex.mk d [a, c]).wt ([123] ++ (c.pa ++ [32, 119, 105, 116, 104, 32] ++ d.s ++ [32, 61, 32] ++ a.sh) ++ [125]) := by
  intro b b' o' acc w hAt hst hlen
  have H0 := Lib.hid hst
  have HE := Lib.hid (fun W (h : Below w0.heap.size w0 W) => hAt.lower h)
  have HLEN := Lib.hid (And.intro (show acc.length + (40 + 2 * d.s.length + d.t.length + a.wt + c.wt) ≤ CAP by have h1 := own_ge d; have h2 := hlen; unfold Ex.wt at h2; simp only [wtL] at h2; omega) (show a.sh.length + 2 ≤ a.wt ∧ a.pa.length ≤ a.sh.length + 2 ∧ c.sh.length + 2 ≤ c.wt ∧ c.pa.length ≤ c.sh.length + 2 from ⟨La, pa_le a, Lc, pa_le c⟩))
  obtain ⟨pb, po, hpA, hAa, hAc⟩ := two_at hI
  have HPA := Lib.hid (And.intro hpA hpn)
  have HAa := Lib.hid hAa
  have HAc := Lib.hid hAc
  have HWa := Lib.hid Wa
  have HWc := Lib.hid Wc
  have HPc := Lib.hid (part_any w0 c Lc Wc)
  have q8 : (d.kind == 8) = false := by rw [hk]; rfl
  have q10 : (d.kind == 10) = false := by rw [hk]; rfl
  have q12 : (d.kind == 12) = true := by rw [hk]; rfl
  clear hAt hst hlen hI hpA hAa hAc hk hpn La Wa Lc Wc
  obtain ⟨c0, c1, c2, c3, c4, c5, c6, c7⟩ := HE.out _ H0.out.all
  rw [HPA.out.1, HPA.out.2] at c7
  go_enter Tryz.func60, Tryz.ntmps60
  go_wp2_with fail
  refine (H0.out.say [[123]] (by have h := HLEN.out; simp only [List.flatten_cons, List.flatten_nil, List.append_nil, List.length_append, List.length_cons, List.length_nil]; omega) (by simp) 1 rfl _ rfl).mono ?_
  rintro e v1 ⟨rfl, hs1⟩
  have H1 := Lib.hid hs1
  clear hs1 c0 c1 c2 c3 c4 c5 c6 c7
  obtain ⟨c0, c1, c2, c3, c4, c5, c6, c7⟩ := HE.out _ H1.out.all
  rw [HPA.out.1, HPA.out.2] at c7
  go_wp2_with fail
  refine (HPc.out.step H1.out HAc.out (by have h := HLEN.out; simp only [List.flatten_cons, List.flatten_nil, List.append_nil, List.length_append, List.length_cons, List.length_nil]; omega)).mono ?_
  rintro e v2 ⟨rfl, hs2⟩
  have H2 := Lib.hid hs2
  clear hs2 c0 c1 c2 c3 c4 c5 c6 c7
  obtain ⟨c0, c1, c2, c3, c4, c5, c6, c7⟩ := HE.out _ H2.out.all
  rw [HPA.out.1, HPA.out.2] at c7
  go_wp2_with fail
  refine (H2.out.say [[32, 119, 105, 116, 104, 32], d.s, [32, 61, 32]] (by have h := HLEN.out; simp only [List.flatten_cons, List.flatten_nil, List.append_nil, List.length_append, List.length_cons, List.length_nil]; omega) (by simp) 3 rfl _ rfl).mono ?_
  rintro e v3 ⟨rfl, hs3⟩
  have H3 := Lib.hid hs3
  clear hs3 c0 c1 c2 c3 c4 c5 c6 c7
  obtain ⟨c0, c1, c2, c3, c4, c5, c6, c7⟩ := HE.out _ H3.out.all
  rw [HPA.out.1, HPA.out.2] at c7
  go_wp2_with fail
  refine (HWa.out.step H3.out HAa.out (by have h := HLEN.out; simp only [List.flatten_cons, List.flatten_nil, List.append_nil, List.length_append, List.length_cons, List.length_nil]; omega)).mono ?_
  rintro e v4 ⟨rfl, hs4⟩
  have H4 := Lib.hid hs4
  clear hs4 c0 c1 c2 c3 c4 c5 c6 c7
  obtain ⟨c0, c1, c2, c3, c4, c5, c6, c7⟩ := HE.out _ H4.out.all
  rw [HPA.out.1, HPA.out.2] at c7
  go_wp2_with fail
  refine (H4.out.say [[125]] (by have h := HLEN.out; simp only [List.flatten_cons, List.flatten_nil, List.append_nil, List.length_append, List.length_cons, List.length_nil]; omega) (by simp) 1 rfl _ rfl).mono ?_
  rintro e v5 ⟨rfl, hs5⟩
  have H5 := Lib.hid hs5
  clear hs5 c0 c1 c2 c3 c4 c5 c6 c7
  obtain ⟨c0, c1, c2, c3, c4, c5, c6, c7⟩ := HE.out _ H5.out.all
  rw [HPA.out.1, HPA.out.2] at c7
  go_wp2_with fail
  go_end0
  exact ⟨rfl, by have h := H5.out; simpa [List.append_assoc] using h⟩
end Go.Proofs.YtaglmmcjhlehjaaGreatDoor
