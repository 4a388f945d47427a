/-
  The heap: Make, where there is room, or no object.
-/
import Derived.Test.YthblcfhflkapmaaHpAE
namespace Go.Proofs.Ythblcfhflkapmaa
open Go Go.ChangeShapes Go.WideShapes Go.ChangeAt Go.RowKit Go.Sort
set_option linter.unusedVariables false
set_option linter.unusedSimpArgs false

theorem six_of {cs : Array Value} {a0 a1 a2 a3 a4 a5 x y : Value} (h : cs.size = 6) (ho : ∀ i, i ≠ 2 → i ≠ 2 + 1 → cs[i]? = (#[a0, a1, a2, a3, a4, a5] : Array Value)[i]?) (h2 : cs[2]? = some x) (h3 : cs[2 + 1]? = some y) : cs = #[a0, a1, x, y, a4, a5] := by
  apply Array.ext_getElem?
  intro i
  match i with
  | 0 => exact ho 0 (by decide) (by decide)
  | 1 => exact ho 1 (by decide) (by decide)
  | 2 => exact h2
  | 3 => exact h3
  | 4 => exact ho 4 (by decide) (by decide)
  | 5 => exact ho 5 (by decide) (by decide)
  | i + 6 => rw [Array.getElem?_eq_none (by omega), Array.getElem?_eq_none (by simp)]
section
variable {w w' : World} {B hb : Nat} {size runs : Int} {L : List Ob} {V G V' G' V1 G1 : Value} {roots l : List Wd}
theorem CH.fresh (h : CH w B hb size runs L V G V' G') {b : Nat} (hb' : w.heap.size ≤ b) : Nh hb V G V' G' b := by
  have h1 := lt_of_heap h.hd
  obtain ⟨n1, x1, s1⟩ := h.sw
  obtain ⟨n2, x2, s2⟩ := h.sg
  refine ⟨by omega, fun e => ?_, fun e => ?_, fun e => ?_, fun e => ?_⟩
  · have := (h.fw.lt b e.symm).2; omega
  · have := (h.fg.lt b e.symm).2; omega
  · have := (s1.lt b e.symm).2; omega
  · have := (s2.lt b e.symm).2; omega
/-- An object was added. -/
theorem CH.added (h : CH w B hb size runs L V G V' G') (o : Ob) {cs' : Array Value} (ha : AS w B hb 2 HTy #[.int .i64 size, .int .i64 runs, V, G, V', G'] V G (sizes L + 1 + o.2.length) (wcells (flat L) ++ wcells [hdW o] ++ wcells o.2) (sizes L + 1 + o.2.length) (bcells (begs L) ++ bcells (true :: List.replicate o.2.length false)) w' cs' V1 G1) :
    CH w' B hb size runs (L ++ [o]) V1 G1 V' G' ∧ Tr w (Nh hb V G V' G') w' (Nh hb V1 G1 V' G') := by
  have hcs := six_of ha.sz ha.ot ha.c0 ha.c1
  have hso : sizes (L ++ [o]) = sizes L + 1 + o.2.length := by rw [sizes_append]; simp [sizes, osz]; omega
  obtain ⟨n1, x1, s1⟩ := h.sw
  obtain ⟨n2, x2, s2⟩ := h.sg
  refine ⟨⟨by rw [ha.hp, hcs], ?_, ?_, ⟨n1, x1, own_keep s1 (fun g hg hl => ha.kp g hl (fun e => own_ne s1 h.hd (by decide) (by rw [← e, hg])) (fun e => h.dw g e.symm hg) (fun e => own_ne2 h.fg s1 (by decide) hg e.symm))⟩, ⟨n2, x2, own_keep s2 (fun g hg hl => ha.kp g hl (fun e => own_ne s2 h.hd (by decide) (by rw [← e, hg])) (fun e => own_ne2 h.fw s2 (by decide) hg e.symm) (fun e => h.dg g e.symm hg))⟩, fun q hq e => ?_, fun q hq e => ?_, h.ge⟩, fun b hn hl => ⟨⟨hn.1, fun e => ?_, fun e => ?_, hn.2.2.2.1, hn.2.2.2.2⟩, ha.kp b hl hn.1 hn.2.1 hn.2.2.1⟩⟩
  · rw [hso, flat_app, wcells_append]
    have h1 := ha.fw
    rw [List.append_assoc, ← wcells_append] at h1
    exact h1
  · rw [hso, begs_snoc, bcells_append]
    exact ha.fg
  · rcases ha.nv with r | ⟨g, r1, r2⟩
    · exact h.dw q (r.symm.trans hq) e
    · rw [hq] at r1
      injection r1 with r1
      have := (s1.lt q e).2
      omega
  · rcases ha.ng with r | ⟨g, r1, r2⟩
    · exact h.dg q (r.symm.trans hq) e
    · rw [hq] at r1
      injection r1 with r1
      have := (s2.lt q e).2
      omega
  · rcases ha.nv with r | ⟨g, r1, r2⟩
    · exact hn.2.1 (e.trans r)
    · rw [r1] at e; injection e with e; omega
  · rcases ha.ng with r | ⟨g, r1, r2⟩
    · exact hn.2.2.1 (e.trans r)
    · rw [r1] at e; injection e with e; omega
/-- No object. -/
abbrev noObj : Value := .tuple #[.int .i64 0, .slice none 0 0, .slice none 0 0, .iface 29 (.int .i64 1)]
set_option maxRecDepth 100000 in
set_option maxHeartbeats 4000000 in
theorem Make_head (k : Int) (hk : ¬ headOk k (l.length : Nat)) (w : World) (P : Value) (A1 A2 : Option Addr) (n2 c1 c2 : Nat) :
    Calls Try.prog 9 #[P, .int .i64 k, .slice A1 l.length c1, .slice A2 n2 c2] w fun e w' => e = .returned noObj ∧ Below w.heap.size w w' := by
  have HH := Lib.hid (head_no k (l.length : Nat) hk)
  clear hk
  go_enter Try.func9, Try.ntmps9
  go_wp2_with (go_at_call 28; (with_reducible refine (HH.out _).mono ?_); rintro e w1 ⟨rfl, hb1⟩; have HB := Lib.hid hb1; clear hb1)
  go_returns
  exact ⟨rfl, HB.out.alloc HB.out.size _⟩
end
end Go.Proofs.Ythblcfhflkapmaa
